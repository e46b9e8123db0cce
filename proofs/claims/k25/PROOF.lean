import PyProof.Rows.All
import Wide.All
import OpenK.AllK
import Wide.FinOn
import HandS.Head0
import HandS.Head1
import HandS.Head2
import HandS.HeadEnd
import HandS.HeadHook1
import HandS.HeadHook2
import HandS.HeadHook3
import HandS.HeadHook4
import HandS.HeadWalk
import HandS.ForMost
import HandS.Exc
import HandS.ExcInit
import HandS.ExcIs
import HandS.IsInst
import HandS.Wide
import HandS.Defaults
import HandS.ExcValue
import HandS.ExcOwn
import HandS.Lambda
import HandS.EndTab
import HandS.EndOwn
import HandS.NestedK
import HandS.Words
import PyProof.EnumMake
import KE.GoesMore
import KE.GoesEnum
import HandS.DictComp
import HandS.Walk
import HandS.Ends
import HandS.Small
import PyProof.Rows.SortStr
import PyProof.Rows.StrMeet
import KE.SortData
import HandS.More
import HandS.OwnEq
import HandS.Property
import PyProof.InstNe
import HandS.Nested
import KE.KDflt
import HandS.TupAny
import HandS.Zip
import HandS.Conv
import HandS.SetKeys
import HandS.Style
import PyProof.EqAt
import PyProof.EqKinds
import PyProof.TupleCall
import PyProof.ListNew
import PyProof.ListRange
import KE.KDictZip
import KE.KItemsList
import HandS.Base
import HandS.Call
import HandS.List
import HandS.Dict
import HandS.Iter
import HandS.Zip0
import HandS.NoneIn
import HandS.MakeKwOnly
import HandS.TupLen
import HandS.SortKw
import HandS.Comp
import HandS.ListItems
import PySem.Challenge.RW_askfurther_k25_whole_bodies_that_go_less
set_option Elab.async false
set_option linter.all false
set_option maxRecDepth 100000
set_option maxHeartbeats 2000000
/-! a head by facts for a program of many defs: what is looked at is reached by few steps, no address is asked twice -/
namespace He2
open PySem PySem.Spec PyProof.Rows L2
/-- what is followed: a namespace's values, a def's code and its keyword defaults, a class's namespace -/
def refs1 (o : Obj) : List Addr := match o.data with
  | .dict es _ => es.toList.flatMap fun e => He.refV e.val
  | .func fd => He.refV fd.code ++ He.refV fd.kwdefaults
  | .cls cd => [cd.ns]
  | _ => []
def nxt (g : Addr → Option Obj) (as : List Addr) : List Addr := as.flatMap fun a => match g a with
  | some o => refs1 o
  | none => []
def reach (g : Addr → Option Obj) : List Addr := [mainGlobals] ++ (nxt g [mainGlobals] ++ (nxt g (nxt g [mainGlobals]) ++ (nxt g (nxt g (nxt g [mainGlobals])) ++ nxt g (nxt g (nxt g (nxt g [mainGlobals]))))))
structure SaysY (fa : List He.Fa) (fn : List He.DefD) (tf : List He.Defn) (ex : PySem.W.Frag → Bool) (h : Heap) (K : PySem.W.Frag) : Prop where
  d : He.SaysD fa fn K
  more : ex K = true
  hd : ∀ p ∈ tf, PySem.W.codeHdIn K (He.cT K p).1 (He.cT K p).2 = true
  out : ∀ p ∈ tf, K.lookup (He.cT K p).2 = none
  empty : ∀ p ∈ tf, h.get? (He.cT K p).2 = some { cls := .none, data := .fields #[] }
abbrev AlY : Type := He.AlD × Bool
def obsK (fa : List He.Fa) (fn : List He.DefD) (tf : List He.Defn) (ex : PySem.W.Frag → Bool) (g : Addr → Option Obj) (K : PySem.W.Frag) : AlY := (He.obsD fa fn K, ex K && He.tabsB g tf K)
def obsY (fa : List He.Fa) (fn : List He.DefD) (tf : List He.Defn) (ex : PySem.W.Frag → Bool) (g : Addr → Option Obj) : AlY := obsK fa fn tf ex g (He.frT g (reach g))
def valY (fn : List He.DefD) : AlY := (He.valD fn, true)
theorem saysY_of {fa : List He.Fa} {fn : List He.DefD} {tf : List He.Defn} {ex : PySem.W.Frag → Bool} {h : Heap} (e : obsY fa fn tf ex h.get? = valY fn) : SaysY fa fn tf ex h (He.frT h.get? (reach h.get?)) := by
  have e1 : He.obsD fa fn (He.frT h.get? (reach h.get?)) = He.valD fn := congrArg (fun z : AlY => z.1) e
  have e2 : (ex (He.frT h.get? (reach h.get?)) && He.tabsB h.get? tf (He.frT h.get? (reach h.get?))) = true := congrArg (fun z : AlY => z.2) e
  obtain ⟨h1, h2⟩ := He.ba e2
  have key : ∀ p ∈ tf, PySem.W.codeHdIn (He.frT h.get? (reach h.get?)) (He.cT (He.frT h.get? (reach h.get?)) p).1 (He.cT (He.frT h.get? (reach h.get?)) p).2 = true ∧ ∃ o, h.get? (He.cT (He.frT h.get? (reach h.get?)) p).2 = some o ∧ He.emptyTab o = true := fun p hp => by
    obtain ⟨h3, h4⟩ := He.ba (List.all_eq_true.mp h2 p hp)
    refine ⟨h3, ?_⟩
    cases q : h.get? (He.cT (He.frT h.get? (reach h.get?)) p).2 with
    | none =>
      rw [q] at h4
      cases h4
    | some o =>
      rw [q] at h4
      exact ⟨o, rfl, h4⟩
  exact ⟨e1, h1, fun p hp => (key p hp).1, fun p hp => by
    obtain ⟨_, o, q, z⟩ := key p hp
    exact He.frT_none q z, fun p hp => by
    obtain ⟨_, o, q, z⟩ := key p hp
    rw [q, He.emptyTab_eq z]⟩
def hookY (fa : List He.Fa) (fn : List He.DefD) (tf : List He.Defn) (ex : PySem.W.Frag → Bool) : PySem.W.Hook where
  α := AlY
  obs := fun s => obsY fa fn tf ex s.heap.get?
  val := fun _ => valY fn
  says := fun _ h => ∃ K : PySem.W.Frag, K.In h ∧ SaysY fa fn tf ex h K
  of := fun _ _ e => ⟨_, He.frT_in, saysY_of e⟩
  keeps := fun _ _ _ ⟨K, hK, c⟩ k => ⟨K, PySem.W.Frag.In.keeps hK k, ⟨c.d, c.more, c.hd, c.out, fun p hp => k _ _ (c.empty p hp)⟩⟩
theorem obsY_eq {fa : List He.Fa} {fn : List He.DefD} {tf : List He.Defn} {ex : PySem.W.Frag → Bool} {g : Addr → Option Obj} {s : Shared} (h : ∀ a, g a = s.heap.get? a) : obsY fa fn tf ex g = (hookY fa fn tf ex).obs s := by
  have e : g = s.heap.get? := funext h
  rw [e] <;> rfl
end He2

set_option maxRecDepth 100000
set_option maxHeartbeats 2000000
/-! the head by facts, with the getters of properties -/
namespace He4
open PySem PySem.Spec PyProof.Rows L2
/-- a property: its class, its name, its getter's def -/
structure PropD where
  cls : Str
  f : Str
  d : He.DefD
/-- the getter -/
def getA (K : PySem.W.Frag) (C f : Str) : Addr := match PySem.W.recIn K (He.ma K (He.ga K C) f) "property" with
  | some (.ref m :: _) => m
  | _ => 0
def getW (K : PySem.W.Frag) (q : PropD) : He.FnW := match K.lookup (getA K q.cls q.f) with
  | some ⟨_, _, .func u, _⟩ => some (u.name, u.qualname, u.params, u.body, u.scope, u.globals, u.closure, u.builtins)
  | _ => none
def recB (K : PySem.W.Frag) (q : PropD) : Bool := match PySem.W.recIn K (He.ma K (He.ga K q.cls) q.f) "property" with
  | some (.ref _ :: _) => true
  | _ => false
def PropD.ok (K : PySem.W.Frag) (q : PropD) : Bool := recB K q && (PySem.W.keepIn K (.ref (getA K q.cls q.f)) && (match K.lookup (getA K q.cls q.f) with
  | some ⟨_, _, .func u, _⟩ => PySem.W.codeIn K u.code q.d.qual && (He.dflB K u.defaults [] && He.kwdB K u.kwdefaults [])
  | _ => false))
theorem PropD.rec_ {K : PySem.W.Frag} {q : PropD} (c : q.ok K = true) : ∃ rest, PySem.W.recIn K (He.ma K (He.ga K q.cls) q.f) "property" = some (.ref (getA K q.cls q.f) :: rest) := by
  obtain ⟨c1, _⟩ := He.ba c
  unfold recB at c1
  unfold getA
  split at c1
  · rename_i m r e
    exact ⟨r, by rw [e]⟩
  · cases c1
theorem PropD.funD {K : PySem.W.Frag} {q : PropD} (e : getW K q = q.d.val) (c : q.ok K = true) : ∃ fd, FunD K q.d.name q.d.qual q.d.params q.d.body q.d.scope [] [] (getA K q.cls q.f) fd := by
  obtain ⟨_, c⟩ := He.ba c
  obtain ⟨kp, c⟩ := He.ba c
  unfold getW at e
  revert e c
  cases hl : K.lookup (getA K q.cls q.f) with
  | none => exact fun _ c => nomatch c
  | some o =>
    obtain ⟨oc, od, dt, osl⟩ := o
    intro e c
    cases dt with
    | func u =>
      obtain ⟨a1, a2, a3, a4, a5, a6, a7, a8, a9, a10, a11, a12, a13, a14, a15⟩ := u
      have e : (some (a1, a2, a3, a4, a5, a6, a7, a15) : He.FnW) = q.d.val := e
      unfold He.DefD.val at e
      have e := Option.some.inj e
      have g1 := congrArg Prod.fst e
      have e := congrArg Prod.snd e
      have g2 := congrArg Prod.fst e
      have e := congrArg Prod.snd e
      have g3 := congrArg Prod.fst e
      have e := congrArg Prod.snd e
      have g4 := congrArg Prod.fst e
      have e := congrArg Prod.snd e
      have g5 := congrArg Prod.fst e
      have e := congrArg Prod.snd e
      have g6 := congrArg Prod.fst e
      have e := congrArg Prod.snd e
      have g7 := congrArg Prod.fst e
      have g8 := congrArg Prod.snd e
      dsimp only at g1 g2 g3 g4 g5 g6 g7 g8
      subst g1 g2 g3 g4 g5 g6 g7 g8
      have c : (PySem.W.codeIn K a13 q.d.qual && (He.dflB K a8 [] && He.kwdB K a9 [])) = true := c
      obtain ⟨k1, k2⟩ := He.ba c
      obtain ⟨k3, k4⟩ := He.ba k2
      refine ⟨_, ⟨oc, od, a8, a9, a10, a11, a12, a13, a14, osl, rfl, hl, k1, He.dflB_ok k3, He.kwdB_ok k4⟩, kp⟩
    | _ => exact nomatch c
/-- the getters that properties among these hold -/
def propFs (g : Addr → Option Obj) (as : List Addr) : List Addr := as.flatMap fun a => match g a with
  | some ⟨.type n, _, .fields vs, _⟩ => bif n == "property" then vs.toList.flatMap He.refV else []
  | _ => []
def getters (g : Addr → Option Obj) : List Addr := propFs g (He2.nxt g (He2.nxt g (He2.nxt g [mainGlobals])))
def reach (g : Addr → Option Obj) : List Addr := He2.reach g ++ (getters g ++ He2.nxt g (getters g))
structure SaysP (fa : List He.Fa) (fn : List He.DefD) (pf : List PropD) (tf : List He.Defn) (ex : PySem.W.Frag → Bool) (h : Heap) (K : PySem.W.Frag) : Prop where
  d : He.SaysD fa fn K
  pw : pf.map (getW K) = pf.map fun q => q.d.val
  pok : pf.all (fun q => q.ok K) = true
  more : ex K = true
  hd : ∀ p ∈ tf, PySem.W.codeHdIn K (He.cT K p).1 (He.cT K p).2 = true
  out : ∀ p ∈ tf, K.lookup (He.cT K p).2 = none
  empty : ∀ p ∈ tf, h.get? (He.cT K p).2 = some { cls := .none, data := .fields #[] }
theorem SaysP.prop {fa : List He.Fa} {fn : List He.DefD} {pf : List PropD} {tf : List He.Defn} {ex : PySem.W.Frag → Bool} {h : Heap} {K : PySem.W.Frag} (c : SaysP fa fn pf tf ex h K) (i : Nat) {q : PropD} (hq : pf[i]? = some q := by rfl) :
    (∃ rest, PySem.W.recIn K (He.ma K (He.ga K q.cls) q.f) "property" = some (.ref (getA K q.cls q.f) :: rest)) ∧ ∃ fd, FunD K q.d.name q.d.qual q.d.params q.d.body q.d.scope [] [] (getA K q.cls q.f) fd := by
  have o := List.all_eq_true.mp c.pok q (List.mem_of_getElem? hq)
  have e : (pf.map (getW K))[i]? = (pf.map fun q => q.d.val)[i]? := by rw [c.pw]
  rw [List.getElem?_map, List.getElem?_map, hq] at e
  exact ⟨PropD.rec_ o, PropD.funD (Option.some.inj e) o⟩
abbrev AlP : Type := He.AlD × (List He.FnW × Bool)
def obsK (fa : List He.Fa) (fn : List He.DefD) (pf : List PropD) (tf : List He.Defn) (ex : PySem.W.Frag → Bool) (g : Addr → Option Obj) (K : PySem.W.Frag) : AlP := (He.obsD fa fn K, pf.map (getW K), pf.all (fun q => q.ok K) && (ex K && He.tabsB g tf K))
def obsP (fa : List He.Fa) (fn : List He.DefD) (pf : List PropD) (tf : List He.Defn) (ex : PySem.W.Frag → Bool) (g : Addr → Option Obj) : AlP := obsK fa fn pf tf ex g (He.frT g (reach g))
def valP (fn : List He.DefD) (pf : List PropD) : AlP := (He.valD fn, pf.map (fun q => q.d.val), true)
theorem saysP_of {fa : List He.Fa} {fn : List He.DefD} {pf : List PropD} {tf : List He.Defn} {ex : PySem.W.Frag → Bool} {h : Heap} (e : obsP fa fn pf tf ex h.get? = valP fn pf) : SaysP fa fn pf tf ex h (He.frT h.get? (reach h.get?)) := by
  have e1 : He.obsD fa fn (He.frT h.get? (reach h.get?)) = He.valD fn := congrArg (fun z : AlP => z.1) e
  have e2 : pf.map (getW (He.frT h.get? (reach h.get?))) = pf.map fun q => q.d.val := congrArg (fun z : AlP => z.2.1) e
  have e3 : (pf.all (fun q => q.ok (He.frT h.get? (reach h.get?))) && (ex (He.frT h.get? (reach h.get?)) && He.tabsB h.get? tf (He.frT h.get? (reach h.get?)))) = true := congrArg (fun z : AlP => z.2.2) e
  obtain ⟨h0, e3⟩ := He.ba e3
  obtain ⟨h1, h2⟩ := He.ba e3
  have key : ∀ p ∈ tf, PySem.W.codeHdIn (He.frT h.get? (reach h.get?)) (He.cT (He.frT h.get? (reach h.get?)) p).1 (He.cT (He.frT h.get? (reach h.get?)) p).2 = true ∧ ∃ o, h.get? (He.cT (He.frT h.get? (reach h.get?)) p).2 = some o ∧ He.emptyTab o = true := fun p hp => by
    obtain ⟨h3, h4⟩ := He.ba (List.all_eq_true.mp h2 p hp)
    refine ⟨h3, ?_⟩
    cases q : h.get? (He.cT (He.frT h.get? (reach h.get?)) p).2 with
    | none =>
      rw [q] at h4
      cases h4
    | some o =>
      rw [q] at h4
      exact ⟨o, rfl, h4⟩
  exact ⟨e1, e2, h0, h1, fun p hp => (key p hp).1, fun p hp => by
    obtain ⟨_, o, q, z⟩ := key p hp
    exact He.frT_none q z, fun p hp => by
    obtain ⟨_, o, q, z⟩ := key p hp
    rw [q, He.emptyTab_eq z]⟩
def hookP (fa : List He.Fa) (fn : List He.DefD) (pf : List PropD) (tf : List He.Defn) (ex : PySem.W.Frag → Bool) : PySem.W.Hook where
  α := AlP
  obs := fun s => obsP fa fn pf tf ex s.heap.get?
  val := fun _ => valP fn pf
  says := fun _ h => ∃ K : PySem.W.Frag, K.In h ∧ SaysP fa fn pf tf ex h K
  of := fun _ _ e => ⟨_, He.frT_in, saysP_of e⟩
  keeps := fun _ _ _ ⟨K, hK, c⟩ k => ⟨K, PySem.W.Frag.In.keeps hK k, ⟨c.d, c.pw, c.pok, c.more, c.hd, c.out, fun p hp => k _ _ (c.empty p hp)⟩⟩
theorem obsP_eq {fa : List He.Fa} {fn : List He.DefD} {pf : List PropD} {tf : List He.Defn} {ex : PySem.W.Frag → Bool} {g : Addr → Option Obj} {s : Shared} (h : ∀ a, g a = s.heap.get? a) : obsP fa fn pf tf ex g = (hookP fa fn pf tf ex).obs s := by
  have e : g = s.heap.get? := funext h
  rw [e] <;> rfl
end He4

set_option maxRecDepth 100000
set_option maxHeartbeats 4000000
/-! Own error classes over ValueError, made as values: with keywords, without an own __init__; what isinstance says of them; their fields. -/
namespace PySem
namespace ExoX
open PySem.HandSPX
open Builtin Builtin.ObjectAttr
section
variable {prog : Program} {w : World} {A : Around} {R : Result → Shared → Prop} {Er : Value → Shared → Prop}
variable {hp : Heap} {gs : Array GenState} {dr : Drawn} {tk : Nat} {os : OsState} {kw : List (Str × Value)} {rs : List Value}
variable {nm qn : Str} {Cl Nm : Addr} {bss bm bB sb : List Value} {hd ab : Bool} {sl : List Str} {cl : Option Bool} {dd : Option Addr} {y0 y1 y2 y3 y5 : Option Value} {Bs nI iI : String}
abbrev cobj (nm qn : Str) (Cl Nm : Addr) (bss bm : List Value) (hd : Bool) (sl : List Str) (sb : List Value) (ab : Bool) (cl : Option Bool) (dd : Option Addr) (y0 y1 y2 y3 y5 : Option Value) (nI : String) : Obj :=
  excClassObj nm qn Cl Nm bss bm hd sl sb ab cl dd y0 y1 y2 y3 y5 nI
/-- the check ahead of __new__, with keywords -/
theorem checkNewKw (F : ExcBaseFacts Bs nI iI bB) (hc : ∀ T : String, bm.contains (.type T) = bB.contains (.type T)) {Q : Unit → Shared → Prop}
    (ho : hp.get? Cl = some (cobj nm qn Cl Nm bss bm hd sl sb ab cl dd y0 y1 y2 y3 y5 nI)) (q : Q () ⟨hp, gs, dr, tk, os⟩) :
    wpAny (model prog w) A (checkBuiltinCall nI ⟨.ref Cl :: rs, kw⟩) Q Er ⟨hp, gs, dr, tk, os⟩ := by
  have c1 : (Value.ref Cl :: bm).contains (.type Bs) = true := by
    rw [List.contains_cons, hc, F.hasB, Bool.or_true]
  have c2 := F.noStar
  simp only [checkBuiltinCall, F.newKind, F.newSplit, F.newRow]
  repeat (first
    | refine wpAny_loadPart_at ho ?_
    | (refine wpAny_isSubtype_exc ho ?_; rw [c1])
    | refine wpAny_staticBase_exc ho ?_
    | refine wpAny_madeBy_exc ho ?_
    | simp only [bne_self_eq_false, Bool.false_eq_true, if_false]
    | wp_step)
  exact q
end
section
variable {prog : Program} {w : World} {A : Around} {R : Result → Shared → Prop} {Er : Value → Shared → Prop}
variable {hp : Heap} {gs : Array GenState} {dr : Drawn} {tk : Nat} {os : OsState} {kw : List (Str × Value)} {rs : List Value}
variable {nm qn : Str} {Cl Nm fI : Addr} {bss bm bB sb : List Value} {hd ab : Bool} {sl : List Str} {cl : Option Bool} {dd : Option Addr} {y0 y1 y2 y3 y5 : Option Value} {Bs nI iI : String}
/-- the two objects that __new__ lays -/
abbrev laid (hp : Heap) (rs : List Value) (Cl : Addr) : Heap := (hp.push (PySem.W.kdv_tup rs)).push (excO Cl hp.objs.size)
theorem newKw (F : ExcBaseFacts Bs nI iI bB) (hc : ∀ T : String, bm.contains (.type T) = bB.contains (.type T))
    (ho : hp.get? Cl = some (cobj nm qn Cl Nm bss bm hd sl sb ab cl dd y0 y1 y2 y3 y5 nI)) (hl : rs.length ≤ sizeLine)
    (q : R (.ok (.ret (.ref (hp.objs.size + 1)))) ⟨laid hp rs Cl, gs, dr, tk, os⟩) :
    codeAny (model prog w) A (.builtin nI ⟨.ref Cl :: rs, kw⟩) R ⟨hp, gs, dr, tk, os⟩ := by
  have c0 := F.ends
  have c1 : (Value.ref Cl :: bm).contains (.type Bs) = true := by
    rw [List.contains_cons, hc, F.hasB, Bool.or_true]
  have c2 : (Value.ref Cl :: bm).contains (.type "AttributeError") = false := by
    rw [List.contains_cons, hc, F.noAttr]
    rfl
  have c3 : (Value.ref Cl :: bm).contains (.type "NameError") = false := by
    rw [List.contains_cons, hc, F.noName]
    rfl
  refine codeAny_builtinAt F.entry ?_
  unfold Builtin.«BaseException.__new__»
  refine wpAt_bind ?_
  show wpAt _ _ _ (stack >>= _) _ _ _
  refine wpAt_bind (wpAt_stack fun p below => wpAt_of_wpAny ?_)
  wp_walk
  refine wpAt_of_wpAny ?_
  rw [F.owner]
  repeat (first
    | with_reducible refine wpAny_madeHere_exc F.canon ho ?_
    | with_reducible refine wpAny_loadPart_at ho ?_
    | (with_reducible refine wpAny_isSubtype_exc ho ?_; first | rw [c1] | rw [c2] | rw [c3])
    | wp_step)
  show R _ _
  rw [Heap.size_push]
  exact q
theorem typeCallKw (F : ExcBaseFacts Bs nI iI bB) (hc : ∀ T : String, bm.contains (.type T) = bB.contains (.type T)) {Q : Fin → Shared → Prop}
    (ho : hp.get? Cl = some (cobj nm qn Cl Nm bss bm hd sl sb ab cl dd y0 y1 y2 y3 y5 nI))
    (li : PySem.W.Looks (model prog w) hp (typeLookup (.ref Cl) "__init__") (some (.ref fI)))
    (lb : ∀ self, PySem.W.Looks (model prog w) hp (bindSpecial (.ref fI) self) (.ref fI, [self])) (hl : rs.length ≤ sizeLine)
    (q : codeAny (model prog w) A (.call (.ref fI) ⟨.ref (hp.objs.size + 1) :: rs, kw⟩)
      (fun r s' => match r with | .ok (.ret v) => v = .none ∧ Q (.done (.ret (.ref (hp.objs.size + 1)))) s' | .ok _ => False | .error e => Er e s')
      ⟨laid hp rs Cl, gs, dr, tk, os⟩) :
    wpAny (model prog w) A (Builtin.«type.__call__» ⟨.ref Cl :: rs, kw⟩) Q Er ⟨hp, gs, dr, tk, os⟩ := by
  repeat (first
    | with_reducible refine wpAny_loadPart_at ho ?_
    | with_reducible refine wpAny_madeBy_exc ho ?_
    | wp_step)
  refine codeAny_call_builtin_code (Code.quiet_builtin _ F.quiet) (checkNewKw F hc ho ?_)
  refine newKw F hc ho hl ?_
  show wpAny _ _ _ _ _ _
  have kp : ∀ b o, hp.get? b = some o → (laid hp rs Cl).get? b = some o := fun b o e =>
    Heap.get?_push_of_some _ (Heap.get?_push_of_some _ e)
  have ho1 := kp _ _ ho
  have hx : (laid hp rs Cl).get? (hp.objs.size + 1) = some (excO Cl hp.objs.size) := by heap_get
  have cc : (Value.ref Cl :: bm).contains (.ref Cl) = true := by simp
  have li1 := li.keeps kp
  have lb1 := (lb (.ref (hp.objs.size + 1))).keeps kp
  unfold isInstance
  repeat (first
    | with_reducible refine wpAny_loadPart_at hx ?_
    | (with_reducible refine wpAny_isSubtype_exc ho1 ?_; rw [cc])
    | wp_step)
  show wpAny _ _ (typeLookup (.ref Cl) _) _ _ _
  refine li1.at ?_
  refine wpAny_holding (wpAny_bind (lb1.at ?_))
  refine wpAny_bind (wpAny_call (codeAny_mono q fun r s' z => ?_))
  rcases r with e | (v | _ | _ | _) <;> first | exact z | exact z.elim | skip
  obtain ⟨rfl, z⟩ := z
  first
    | exact wpAny_pure (wpAny_pure z)
    | (wp_walk; exact z)
/-- C(.., k = v ..): the object is laid, then C's own __init__ runs -/
theorem callKw (F : ExcBaseFacts Bs nI iI bB) (hc : ∀ T : String, bm.contains (.type T) = bB.contains (.type T))
    (ho : hp.get? Cl = some (cobj nm qn Cl Nm bss bm hd sl sb ab cl dd y0 y1 y2 y3 y5 nI))
    (li : PySem.W.Looks (model prog w) hp (typeLookup (.ref Cl) "__init__") (some (.ref fI)))
    (lb : ∀ self, PySem.W.Looks (model prog w) hp (bindSpecial (.ref fI) self) (.ref fI, [self])) (hl : rs.length ≤ sizeLine)
    (q : codeAny (model prog w) (A.under (.builtin "type.__call__" ⟨.ref Cl :: rs, kw⟩)) (.call (.ref fI) ⟨.ref (hp.objs.size + 1) :: rs, kw⟩)
      (PySem.W.InitBack (hp.objs.size + 1) R) ⟨laid hp rs Cl, gs, dr, tk, os⟩) :
    codeAny (model prog w) A (.call (.ref Cl) ⟨rs, kw⟩) R ⟨hp, gs, dr, tk, os⟩ := by
  have f1 := tc_lookup
  have f2 := tc_bind (.ref Cl)
  have hty : (⟨hp, gs, dr, tk, os⟩ : Shared).TypeIs (.ref Cl) "type" := ⟨_, ho, rfl⟩
  refine codeAny_of_tree ?_
  show wpAny _ _ (callAny (.ref Cl) _) _ _ _
  repeat (any_goals (first
    | assumption
    | with_reducible refine wpAny_loadPart_at ho ?_
    | wp_step))
  refine ⟨rfl, ?_⟩
  refine codeAny_call_builtin_at (Code.quiet_builtin _ (by decide +kernel)) entry_typeCall (wpAny_check_type_call_sub ho (typeCallKw F hc ho li lb hl ?_))
  refine codeAny_mono q fun r s' z => ?_
  rcases r with e | (v | _ | _ | _) <;> exact z
end
end ExoX
end PySem

set_option maxRecDepth 100000
set_option maxHeartbeats 4000000
namespace L2
open PySem PySem.Spec PyProof.Rows
section
variable {X : Cx} {CX : CXT} {k n : Nat} {fI C : Addr} {fd : FuncData} {ps ks : List Str} {sp : Sp} {E : XK} {g : List Value → List Value → List Value} {gV : List V → List V → List V}
variable {pins : List (Addr × Obj)} {σ : St} {H : Hp} {s : Shared} {x : Str} {p pos : Pos} {e : Expr} {es : List Expr} {kws : List Keyword} {t tk : TA}
/-- the object is laid, C's own __init__ keeps sp -/
theorem run_exo {Q : VK} {us ws : List Value} {vs zs : List V} (T : OexC X.K C) (iC : PySem.W.findIn X.K (.ref C) "__init__" = some (some (.ref fI)))
    (tI : PySem.W.typeIn X.K (.ref fI) = some (.type "function")) (F : FnOk X.prog X.w X.K X.mg X.base CX k fI fd ps sp) (hr : Room (k + 1) X.A)
    (hb : KBn X.K fd ps (n + 1) ks g gV) (hx : Passes CX X E) (I : Inv X pins σ H s) (r : Vals vs us) (rz : Vals zs ws) (l1 : vs.length = n) (l2 : zs.length = ks.length) (l3 : n ≤ 1000)
    (h : ∀ a, H a = none → sp (gV (.ref a :: vs) zs) (upd H a (exo a C none)) (fun v H2 => v = .non ∧ Q (.ref a) H2) E) :
    wpAny (model X.prog X.w) X.A (call (.ref C) us (ks.zip ws)) (EP X pins σ Q) X.xe s := by
  obtain ⟨nm, q, N, bs, bm, sn, sub, ab, col, dd, k0, k1, k2, k3, k5, hC, hbm⟩ := T.cls
  obtain ⟨hp, gs, dr, t0, os⟩ := s
  have up : hp.objs.size ≤ hp.objs.size + 1 := Nat.le_succ _
  have hq := h (hp.objs.size + 1) (I.hok.fresh up)
  have kk : ∀ b o, hp.get? b = some o → (PySem.ExoX.laid hp us C).get? b = some o := fun b o z =>
    Heap.get?_push_of_some _ (Heap.get?_push_of_some _ z)
  have hg : (PySem.ExoX.laid hp us C).get? (hp.objs.size + 1) = some (PySem.HandSPX.excO C hp.objs.size) := by heap_get
  have I2 : Inv X pins σ (upd H (hp.objs.size + 1) (exo (hp.objs.size + 1) C none)) ⟨PySem.ExoX.laid hp us C, gs, dr, t0, os⟩ :=
    I.laid (t' := t0) (a := hp.objs.size + 1) (o := exo (hp.objs.size + 1) C none) (h' := PySem.ExoX.laid hp us C) kk up (exo_ok hg)
  have r1 : Vals (V.ref (hp.objs.size + 1) :: vs) (Value.ref (hp.objs.size + 1) :: us) := .cons rfl r
  have r2 := hb.rel r1 rz
  have e1 : (Value.ref (hp.objs.size + 1) :: us).length = n + 1 := r1.length.symm.trans (congrArg Nat.succ l1)
  have e2 : ws.length = ks.length := rz.length.symm.trans l2
  have hus : us.length ≤ sizeLine := by
    rw [← r.length, l1, sizeLine_eq]
    omega
  refine wpAny_call (PySem.ExoX.callKw PySem.F.excBase_ValueError (fun Y => PySem.HandSPX.refsVE_contains Y bm hbm) (I.kIn _ _ hC) (PySem.W.looks_findIn I.kIn iC) (fun self => PySem.W.bind_fn I.kIn self tI) hus ?_)
  refine codeAny_mono (F.run _ X.stack _ _ ⟨Value.ref (hp.objs.size + 1) :: us, ks.zip ws⟩ (g (Value.ref (hp.objs.size + 1) :: us) ws) _ _ E (hr.make C us (ks.zip ws)) (I2.env0.make C us (ks.zip ws)) (hb.to _ (Value.ref (hp.objs.size + 1) :: us) ws I2.kIn e1 e2) r2 hq) fun r s' hq' => ?_
  cases r with
  | error er => exact hx pins σ _ _ er s' I2 hq'
  | ok fl =>
    cases fl with
    | ret u =>
      obtain ⟨v, H', I3, rv, ev, q3⟩ := I2.after hq'
      subst ev
      exact ⟨rv, ⟨V.ref (hp.objs.size + 1), H', I3, rfl, q3⟩⟩
    | next => exact False.elim hq'
    | brk => exact False.elim hq'
    | cont => exact False.elim hq'
/-- C(e, .., k = v, ..) as a value -/
def tExoN (C : Addr) (n m : Nat) (sp : Sp) (gV : List V → List V → List V) (E : XK) (t tk : TA) : TE := fun σ H Q => t σ H fun vs H1 => tk σ H1 fun zs H2 => vs.length = n ∧ zs.length = m ∧
  ∀ a, H2 a = none → sp (gV (.ref a :: vs) zs) (upd H2 a (exo a C none)) (fun v H3 => v = .non ∧ Q (.ref a) H3) E
theorem pe_exo1 (T : OexC X.K C) (iC : PySem.W.findIn X.K (.ref C) "__init__" = some (some (.ref fI))) (tI : PySem.W.typeIn X.K (.ref fI) = some (.type "function"))
    (F : FnOk X.prog X.w X.K X.mg X.base CX k fI fd ps sp) (hr : Room (k + 1) X.A) (hg : Gl X x) (hm : X.mg x = some (.ref C)) (hb : KBn X.K fd ps (n + 1) [] g gV) (hx : Passes CX X E) (l3 : n ≤ 1000)
    (ha : PA X (e :: es) t) (hdb : (x == ("__debug__" : Str)) = false := by decide) (he : starEach (e :: es) X.env = (false, eval e X.env) :: starEach es X.env := by rfl)
    (hpl : (backTo pos (starEach es X.env)).any (·.1) = false := by rfl) :
    PE X (.Call (.Name x p) (e :: es) [] pos) (tExoN C n 0 sp gV E t tNil) := by
  refine ⟨fun pins s σ H Q I h => ?_⟩
  refine wpAny_Call_Name_kw (ld_glob I hg hm ?_ hdb)
  refine PySem.W.callWith_K (h₀ := X.base) I.ok.mod.kin T.kC (thn (ha.run pos pins s σ H _ I h) fun us s1 ⟨vs, H1, I1, r, l1, l2, q⟩ => ⟨I1.kIn, ?_⟩) he hpl
  exact run_exo (ks := []) (ws := []) (zs := []) T iC tI F hr hb hx I1 r .nil l1 rfl l3 q
/-- keywords alone -/
theorem pe_exoK (T : OexC X.K C) (iC : PySem.W.findIn X.K (.ref C) "__init__" = some (some (.ref fI))) (tI : PySem.W.typeIn X.K (.ref fI) = some (.type "function"))
    (F : FnOk X.prog X.w X.K X.mg X.base CX k fI fd ps sp) (hr : Room (k + 1) X.A) (hg : Gl X x) (hm : X.mg x = some (.ref C)) (hb : KBn X.K fd ps (0 + 1) ks g gV) (hx : Passes CX X E)
    (hkw : PK X kws tk) (hall : (backToKw pos (keywordEach kws X.env)).all (·.1.isSome) = true := by rfl) (hks : (backToKw pos (keywordEach kws X.env)).filterMap (·.1) = ks := by rfl)
    (hdb : (x == ("__debug__" : Str)) = false := by decide)
    (hpl : ((backTo pos (starEach [] X.env)).any (·.1) || (backToKw pos (keywordEach kws X.env)).any (·.1.isNone)) = false := by rfl) :
    PE X (.Call (.Name x p) [] kws pos) (tExoN C 0 ks.length sp gV E tNil tk) := by
  refine ⟨fun pins s σ H Q I h => ?_⟩
  refine wpAny_Call_Name_kw (ld_glob I hg hm ?_ hdb)
  refine PySem.W.callWith_KW0 (h₀ := X.base) I.ok.mod.kin T.kC hall (thn (hkw.run pos pins s σ H _ I h) fun ws s2 ⟨zs, H2, I2, rz, l1, l2, q2⟩ => ⟨I2.kIn, ?_⟩) hpl
  rw [hks]
  exact run_exo (us := []) (vs := []) T iC tI F hr hb hx I2 .nil rz l1 l2 (Nat.zero_le _) q2
/-- C(), a class without an own __init__ -/
def tExo0 (C : Addr) : TE := fun _ H Q => ∀ a, H a = none → Q (.ref a) (upd H a (exo a C none))
theorem pe_exo0 (q : PySem.W.excIn X.K C [.type "ValueError", .type "Exception", .type "BaseException", .type "object"] "ValueError.__new__" = true) (kC : PySem.W.keepIn X.K (.ref C) = true) (hg : Gl X x) (hm : X.mg x = some (.ref C))
    (hdb : (x == ("__debug__" : Str)) = false := by decide) : PE X (.Call (.Name x p) [] [] pos) (tExo0 C) := by
  refine ⟨fun pins s σ H Q I h => ?_⟩
  refine wpAny_Call_Name_kw (ld_glob I hg hm ?_ hdb)
  refine PySem.W.callWith_K0 I.kIn kC ?_
  show wpAny _ _ (call (.ref C) []) _ _ _
  obtain ⟨bm, N, nm, qn, bs, hdct, sn, sub, ab, col, dd, k0, k1, k2, k3, k5, mN, hC, hN, hni, T⟩ := exc_obj I.kIn q
  refine wpAny_call_exc_subT PySem.F.excBase_ValueError T hC hN hni (fun h' a hm => ?_) (by show 0 ≤ sizeLine; rw [sizeLine_eq]; omega)
  have hn : H a = none := I.hok.gone hm.new
  obtain ⟨t, ht, _, _⟩ := hm.there
  exact ⟨.ref a, upd H a (exo a C none), I.laidN hm.keeps hm.new hn (exo_ok ht), rfl, h a hn⟩
end
end L2

set_option maxRecDepth 100000
set_option maxHeartbeats 4000000
namespace PySem.ExoX
open PySem PySem.W PySem.Calls PyProof.Rows PySem.Spec
section
variable {prog : Program} {w : World} {A : Around} {Er : Value → Shared → Prop} {s : Shared} {K : Frag} {x D : Addr} {ob : Obj} {own : Option Obj}
/-- a class's own attribute that takes what is read off an instance, whatever the instance's dict holds -/
theorem find_data {nm : Str} {a g : Value} (c0 : (clsIn K D).isSome = true) (c1 : findIn K (.ref D) nm = some (some a)) (c2 : specialIn K a "__get__" = some (some g)) (c3 : takesIn K a = some true) :
    findObj K D own nm = some (.bind g a) := by
  obtain ⟨cd, c0⟩ := Option.isSome_iff_exists.mp c0
  unfold findObj
  rw [c0, Option.bind_some, c1, Option.bind_some]
  simp [c2, c3]
/-- e.__class__ of such an error, with or without a dict -/
theorem class_of {Q : Option Value → Shared → Prop} (T : L2.ExcC K D) (X : K.In s.heap) (I : InstAt s.heap x ob D own) (q : Q (some (.ref D)) { s with toks := s.toks + 1 }) :
    wpAny (model prog w) A (getAttr? (.ref x) "__class__") Q Er s := by
  have fd : findObj K D own "__class__" = some (.bind (.builtin "getset_descriptor.__get__") (.builtin "object.__class__")) :=
    find_data (by
      obtain ⟨cd, z, _⟩ := any_some T.hd
      rw [z]
      rfl) T.ha T.hn T.ht
  obtain ⟨hh, gg, dd, tt, oo⟩ := s
  have l0 := I.type (M := model prog w)
  have l1 := looks_findIn (M := model prog w) X T.hg
  have l2 := looks_findIn (M := model prog w) X T.hk
  have l3 := looks_find (M := model prog w) X I fd
  have l4 : Looks (model prog w) hh (isInstance (.ref x) (.type "BaseException")) true := l0.andThen (looks_subIn X T.hs)
  have n0 : (false && onTheHeap (Value.builtin "BaseException.__getattribute__")) = false := rfl
  have n2 : (Value.builtin "BaseException.__getattribute__" == Value.builtin "object.__getattribute__") = false := by
    decide +kernel
  have n1 : (onTheHeap (Value.ref D) && Value.builtin "BaseException.__getattribute__" == Value.builtin "object.__getattribute__") = false := by
    rw [n2]
    rfl
  unfold getAttr? getAttrBy? getAttrBy
  refine wpAny_bind (wpAny_mkText (wpAny_bind (wpAny_attempt (wpAny_holding (wpAny_bind (l0.at (wpAny_bind (l1.at ?_))))))))
  show wpAny _ _ (if (onTheHeap (Value.ref D) && Value.builtin "BaseException.__getattribute__" == Value.builtin "object.__getattribute__") = true then _ else _) _ _ _
  rw [n1, if_neg Bool.false_ne_true]
  unfold getAttrByItsOwn hookBefore
  refine wpAny_bind ?_
  rw [if_pos (show onTheHeap (Value.ref D) = true from rfl)]
  refine l2.at ?_
  refine wpAny_bind (wpAny_attempt (wpAny_holding ?_))
  unfold callGetattribute
  rw [n0, if_neg Bool.false_ne_true]
  unfold boundAndCalled
  rw [PySem.F.excAttr_ValueError.ga.bind (.ref x)]
  refine wpAny_bind (wpAny_pure ?_)
  show wpAny _ _ (call (.builtin "BaseException.__getattribute__") [.ref x, .str "__class__" tt]) _ _ _
  refine wpAny_call (codeAny_call_builtin PySem.F.excAttr_ValueError.ga.plain PySem.F.entry_bexc_ga ?_)
  refine @check_slot (model prog w) _ _ ⟨hh, gg, dd, tt + 1, oo⟩ "BaseException.__getattribute__" "BaseException" "__getattribute__" (.ref x) [.str "__class__" tt] [] _
    (by decide +kernel) (by decide +kernel) l4 (PySem.F.args_bexc_ga (.ref x) (.str "__class__" tt)) ?_
  unfold Builtin.«object.__getattribute__»
  refine wpAny_bind (wpAny_of_eq (a := ((Value.ref x : Value), [Value.str "__class__" tt])) (by first | rfl | (simp only [slotArgs]; rfl)) ?_)
  refine wpAny_bind (wpAny_pure (wpAny_bind (l0.at (wpAny_bind (l3.at ?_)))))
  show wpAny _ _ (holding [Value.builtin "object.__class__"] (call (.builtin "getset_descriptor.__get__") [.builtin "object.__class__", .ref x, .ref D]) >>= ret) _ _ _
  refine wpAny_bind (wpAny_holding (wpAny_call (class_get (s := ⟨hh, gg, dd, tt + 1, oo⟩) (ox := ob) (od := own) X I T.hm ?_)))
  refine wpAny_pure ?_
  show wpAny _ _ (handedOut (.ref D)) _ _ _
  rw [handedOut_of (v := .ref D) rfl]
  first
    | exact wpAny_pure (wpAny_pure q)
    | exact wpAny_pure q
    | exact wpAny_pure (wpAny_bind (wpAny_pure (wpAny_pure q)))
theorem kitExo (T : L2.ExcC K D) : KitX K (.ref x) (.ref D) (fun h => ∃ ob own, InstAt h x ob D own) where
  ty := fun _ _ _ ⟨_, _, I⟩ => I.type
  it := fun _ _ X _ => by
    obtain ⟨cd, z, _⟩ := any_some T.hd
    unfold clsIn at z
    split at z
    · rename_i c1 c2 c3 c4 lk
      intro A' Q' E' s' kp q
      unfold isType loadHead
      exact wpAny_bind (wpAny_loadPart (kp _ _ (X _ _ lk)) (wpAny_pure q))
    · cases z
  ne := fun h tp dd its n sl X lk2 => by
    obtain ⟨cd, z, _⟩ := any_some T.hd
    refine Bool.eq_false_iff.mpr fun q => ?_
    have e : D = tp := Value.ref.inj (beq_iff_eq.mp q)
    subst e
    unfold clsIn at z
    split at z
    · rename_i c1 c2 c3 c4 lk
      have y := (X _ _ lk).symm.trans lk2
      cases y
    · cases z
  ca := fun X ⟨_, _, I⟩ q => class_of T X I q
end
end PySem.ExoX
namespace L2
open PySem PySem.Spec PyProof.Rows
/-- an error of the class at C stands at a, with no dict or with its own -/
def ErrAt (H : Hp) (a C : Addr) : Prop := H a = some (exo a C none) ∨ ∃ dx fs, H a = some (exo a C (some dx)) ∧ H dx = some (exd dx fs)
theorem inst_exo {X : Cx} {pins : List (Addr × Obj)} {σ : St} {H : Hp} {s : Shared} {a C : Addr} (I : Inv X pins σ H s) (e : ErrAt H a C) : ∃ ob own, PySem.W.InstAt s.heap a ob C own := by
  rcases e with e | ⟨dx, fs, e, ed⟩
  · obtain ⟨t, ho⟩ := exo_at I.hok e
    exact ⟨_, none, ho, rfl, rfl, trivial⟩
  · obtain ⟨t, ho⟩ := exo_at I.hok e
    obtain ⟨mA, hns, _⟩ := exd_at I.hok ed
    obtain ⟨o, _, _, ho2, _⟩ := hns
    exact ⟨_, some o, ho, rfl, rfl, ho2⟩
def rIsExo (K : PySem.W.Frag) : List V → Hp → VK → Prop := fun xs H Q => ∃ (a C : Addr) (c : V) (u : Value) (b : Bool), xs = [.ref a, c] ∧ ErrAt H a C ∧ ClsV c u ∧ ExcC K C ∧ PySem.W.kitOne K (.ref C) u = some b ∧ Q (.bl b) H
theorem call_isExo {X : Cx} : CallR X (.builtin "isinstance") (rIsExo X.K) := by
  intro pins s σ H xs us Q I r h
  obtain ⟨a, C, c, u, b, rfl, ea, k, T, e, q⟩ := h
  obtain ⟨u1, u2, rfl, r1, r2⟩ := vals2 r
  cases (show u1 = Value.ref a from r1)
  have e2 := k.eq r2
  subst e2
  exact PySem.W.kia_one (PySem.ExoX.kitExo T) I.kIn (inst_exo I ea) e (fun z => nomatch z) fun tk => ⟨.bl b, H, I.tok tk, rfl, q⟩
/-- e.f of such an error -/
def tExoF (K : PySem.W.Frag) (te : TE) (f : Str) : TE := fun σ H Q => te σ H fun x H1 => ∃ (a C dx : Addr) (fs : List (Str × V)) (v : V), x = .ref a ∧ H1 a = some (exo a C (some dx)) ∧ H1 dx = some (exd dx fs) ∧
  ExcC K C ∧ PySem.W.findIn K (.ref C) f = some none ∧ fs.lookup f = some v ∧ Q v H1
theorem pe_exoF {X : Cx} {e : Expr} {te : TE} {f : Str} {pos : Pos} (he : PE X e te) (hb : attributeBase e f X.env (eval e X.env) = eval e X.env := by rfl) : PE X (.Attribute e f pos) (tExoF X.K te f) := by
  refine ⟨fun pins s σ H Q I h => ?_⟩
  refine attr_of hb (thn (he.run pins s σ H _ I h) fun u s1 ⟨x, H1, I1, rx, a, C, dx, fs, v, ex, ea, ed, T, hno, lf, q⟩ => ?_)
  subst ex
  obtain rfl : u = Value.ref a := rx
  obtain ⟨t, ho⟩ := exo_at I1.hok ea
  obtain ⟨mA, hns, hr⟩ := exd_at I1.hok ed
  obtain ⟨od, ho2, hl⟩ := lookIn_ns hns
  obtain ⟨u, hu, ru⟩ := RelO.some_of (v := v) (o := mA f) (by rw [← lf]; exact hr f)
  have J : PySem.W.InstAt s1.heap a _ C (some od) := ⟨ho, rfl, rfl, ho2⟩
  exact HandSPX.exc_get I1.kIn J T.hg T.hk T.hs (PySem.W.findObj_own T.hd hno rfl (by rw [hl, hu])) (handed_of ru) ⟨v, H1, I1.tok _, ru, q⟩
end L2

set_option maxRecDepth 100000
set_option maxHeartbeats 4000000
/-! Rules whose reading hands on a heap by what is true of it: all that was tracked stands, the new thing is there. -/
namespace L2
open PySem PySem.Spec PyProof.Rows
theorem sameNew {H : Hp} {p : Addr} (n : H p = none) (o : HO) : Same H (upd H p o) := fun b u e => by
  rw [upd_ne (ne_of_none e n)]
  exact e
section
variable {X : Cx} {es : List Expr} {t : TA} {pos : Pos}
/-- a new thing at p -/
def New (H : Hp) (o : HO) (Q : VK) : Prop := ∀ (p : Addr) (H' : Hp), H p = none → Same H H' → H' p = some o → Q (.ref p) H'
theorem New.at {H : Hp} {o : HO} {Q : VK} (h : New H o Q) {p : Addr} (n : H p = none) : Q (.ref p) (upd H p o) := h p _ n (sameNew n o) upd_same
def gLstN (t : TA) : TE := fun σ H Q => t σ H fun xs H1 => xs.length ≤ sizeLine ∧ New H1 (.lst xs) Q
def gTup' (t : TA) : TE := fun σ H Q => t σ H fun xs H1 => xs.length ≤ sizeLine ∧ New H1 (.tup xs) Q
theorem PA.imp {t' : TA} (h : PA X es t) (m : ∀ σ H Q, t' σ H Q → t σ H Q) : PA X es t' := ⟨fun pos pins s σ H Q I q => h.run pos pins s σ H Q I (m σ H Q q)⟩
/-- what is asked behind a list of arguments may be read in a weaker way -/
theorem pe_lstG (h : PA X es t) : PE X (.List es pos) (gLstN t) := by
  have z : PE X (.List es pos) (tLst fun σ H R => ∃ R', t σ H R' ∧ ∀ xs H1, R' xs H1 → R xs H1) := by
    refine pe_lst ⟨fun pos pins s σ H R I ⟨R', h1, h2⟩ => ?_⟩
    refine thn (h.run pos pins s σ H R' I h1) fun us s1 ⟨vs, H1, I1, r, q⟩ => ⟨vs, H1, I1, r, h2 _ _ q⟩
  exact ⟨fun pins s σ H Q I q => z.run pins s σ H Q I ⟨_, q, fun xs H1 ⟨l, k⟩ => ⟨l, fun p n => k.at n⟩⟩⟩
theorem pe_tupG {x1} (h : PA X es t) : PE X (.Tuple es x1 pos) (gTup' t) := by
  have z : PE X (.Tuple es x1 pos) (tTup fun σ H R => ∃ R', t σ H R' ∧ ∀ xs H1, R' xs H1 → R xs H1) := by
    refine pe_tup ⟨fun pos pins s σ H R I ⟨R', h1, h2⟩ => ?_⟩
    refine thn (h.run pos pins s σ H R' I h1) fun us s1 ⟨vs, H1, I1, r, q⟩ => ⟨vs, H1, I1, r, h2 _ _ q⟩
  exact ⟨fun pins s σ H Q I q => z.run pins s σ H Q I ⟨_, q, fun xs H1 ⟨l, k⟩ => ⟨l, fun p n => k.at n⟩⟩⟩
def rCatG : R2 := fun x y H Q => ∃ l b xs zs, x = .ref l ∧ y = .ref b ∧ H l = some (.lst xs) ∧ H b = some (.lst zs) ∧ xs.length + zs.length ≤ sizeLine ∧ New H (.lst (xs ++ zs)) Q
theorem op_catG : OpR X (binaryOp .Add) rCatG := fun pins s σ H x y v u Q I rx ry ⟨l, b, xs, zs, e1, e2, e3, e4, e5, k⟩ => op_cat pins s σ H x y v u Q I rx ry ⟨l, b, xs, zs, e1, e2, e3, e4, e5, fun p n => k.at n⟩
def rSlLG (K : PySem.W.Frag) : V → Option Int → Option Int → Hp → VK → Prop := fun x lo hi H Q => ∃ a xs, x = .ref a ∧ SqL K H a xs ∧ New H (.lst (cutV xs lo hi)) Q
theorem sl_listG : SlR X (rSlLG X.K) := fun pins s σ H x v vl vu lo hi sl Q I rx hs pl pu ⟨a, xs, e, hx, k⟩ => sl_list pins s σ H x v vl vu lo hi sl Q I rx hs pl pu ⟨a, xs, e, hx, fun p n => k.at n⟩
end
theorem pe_imp {X : Cx} {e : Expr} {t t' : TE} (h : PE X e t) (m : ∀ σ H Q, t' σ H Q → t σ H Q) : PE X e t' := ⟨fun pins s σ H Q I q => h.run pins s σ H Q I (m σ H Q q)⟩
theorem Same.err {H H' : Hp} {a C : Addr} (s : Same H H') (e : ErrAt H a C) : ErrAt H' a C := by
  rcases e with e | ⟨dx, fs, e, ed⟩
  · exact .inl (s _ _ e)
  · exact .inr ⟨dx, fs, s _ _ e, s _ _ ed⟩
/-- the field is kept: __init__(self, f) -/
def spInit (C : Addr) (fld : Str) : Sp := fun vs H Q _ => ∃ (a : Addr) (v : V), vs = [.ref a, v] ∧ H a = some (exo a C none) ∧
  ∀ (dx : Addr) (H' : Hp), (∀ b o, b ≠ a → H b = some o → H' b = some o) → H' a = some (exo a C (some dx)) → H' dx = some (exd dx [(fld, v)]) → Q .non H'
/-- a new error with a field -/
def NewE (C : Addr) (fld : Str) (v : V) (H : Hp) (Q : VK) : Prop := ∀ (a dx : Addr) (H' : Hp), H a = none → Same H H' → H' a = some (exo a C (some dx)) → H' dx = some (exd dx [(fld, v)]) → Q (.ref a) H'
section
variable {X : Cx} {CX : CXT} {k : Nat} {fI C : Addr} {fd : FuncData} {fld : Str} {E : XK} {x : Str} {p pos : Pos} {e : Expr} {te : TE} {nm : Option Str} {kpos : Pos}
theorem bind1 {K : PySem.W.Frag} {n : Str} (h : ∀ (a b : Value), bindArgs fd ⟨[a], [(n, b)]⟩ = pure ([(("self" : Str), a), (n, b)] : List (Str × Value))) : KBn K fd ["self", n] (0 + 1) [n] (fun us ws => us ++ ws) (fun vs zs => vs ++ zs) where
  to := fun s us ws _ l1 l2 => match us, ws, l1, l2 with
    | [a], [b], _, _ => .of_eq (h a b)
  rel := fun r rz => r.append rz
theorem bind2 {K : PySem.W.Frag} {n : Str} (h : ∀ (a b : Value), bindArgs fd ⟨[a, b], []⟩ = pure ([(("self" : Str), a), (n, b)] : List (Str × Value))) : KBn K fd ["self", n] (1 + 1) [] (fun us ws => us ++ ws) (fun vs zs => vs ++ zs) where
  to := fun s us ws _ l1 l2 => match us, ws, l1, l2 with
    | [a, b], [], _, _ => .of_eq (h a b)
  rel := fun r rz => r.append rz
/-- C(f = e) -/
def gExoK (C : Addr) (fld : Str) (te : TE) : TE := fun σ H Q => te σ H fun v H1 => NewE C fld v H1 Q
theorem exo_end {v : V} {H1 : Hp} {Q : VK} {E : XK} (q : NewE C fld v H1 Q) (a : Addr) (n : H1 a = none) : spInit C fld [.ref a, v] (upd H1 a (exo a C none)) (fun u H3 => u = .non ∧ Q (.ref a) H3) E :=
  ⟨a, v, rfl, upd_same, fun dx H' s e1 e2 => ⟨rfl, q a dx H' n (fun b o hb => s b o (ne_of_none hb n) (by rw [upd_ne (ne_of_none hb n)]; exact hb)) e1 e2⟩⟩
theorem pe_exoKG (T : OexC X.K C) (iC : PySem.W.findIn X.K (.ref C) "__init__" = some (some (.ref fI))) (tI : PySem.W.typeIn X.K (.ref fI) = some (.type "function"))
    (F : FnOk X.prog X.w X.K X.mg X.base CX k fI fd ["self", fld] (spInit C fld)) (hr : Room (k + 1) X.A) (hg : Gl X x) (hm : X.mg x = some (.ref C)) (hb : ∀ (a b : Value), bindArgs fd ⟨[a], [(fld, b)]⟩ = pure ([(("self" : Str), a), (fld, b)] : List (Str × Value))) (hx : Passes CX X E)
    (he : PE X e te) (hall : (backToKw pos (keywordEach [⟨nm, e, kpos⟩] X.env)).all (·.1.isSome) = true := by rfl) (hks : (backToKw pos (keywordEach [⟨nm, e, kpos⟩] X.env)).filterMap (·.1) = [fld] := by rfl)
    (hdb : (x == ("__debug__" : Str)) = false := by decide)
    (hpl : ((backTo pos (starEach [] X.env)).any (·.1) || (backToKw pos (keywordEach [⟨nm, e, kpos⟩] X.env)).any (·.1.isNone)) = false := by rfl) :
    PE X (.Call (.Name x p) [] [⟨nm, e, kpos⟩] pos) (gExoK C fld te) := by
  have z : PE X e (fun σ H R => ∃ R', te σ H R' ∧ ∀ v H1, R' v H1 → R v H1) := ⟨fun pins s σ H R I ⟨R', h1, h2⟩ => thn (he.run pins s σ H R' I h1) fun us s1 ⟨v, H1, I1, r, q⟩ => ⟨v, H1, I1, r, h2 _ _ q⟩⟩
  refine pe_imp (pe_exoK (E := E) T iC tI F hr hg hm (bind1 (K := X.K) hb) hx (pk_cons z pk_nil) hall hks hdb hpl) fun σ H Q q => ?_
  exact ⟨_, q, fun v H1 q1 => ⟨rfl, rfl, fun a n => exo_end q1 a n⟩⟩
theorem pe_exoPG (T : OexC X.K C) (iC : PySem.W.findIn X.K (.ref C) "__init__" = some (some (.ref fI))) (tI : PySem.W.typeIn X.K (.ref fI) = some (.type "function"))
    (F : FnOk X.prog X.w X.K X.mg X.base CX k fI fd ["self", fld] (spInit C fld)) (hr : Room (k + 1) X.A) (hg : Gl X x) (hm : X.mg x = some (.ref C)) (hb : ∀ (a b : Value), bindArgs fd ⟨[a, b], []⟩ = pure ([(("self" : Str), a), (fld, b)] : List (Str × Value))) (hx : Passes CX X E)
    (he : PE X e te) (hdb : (x == ("__debug__" : Str)) = false := by decide) (hs : starEach [e] X.env = (false, eval e X.env) :: starEach [] X.env := by rfl)
    (hpl : (backTo pos (starEach [] X.env)).any (·.1) = false := by rfl) :
    PE X (.Call (.Name x p) [e] [] pos) (gExoK C fld te) := by
  have z : PE X e (fun σ H R => ∃ R', te σ H R' ∧ ∀ v H1, R' v H1 → R v H1) := ⟨fun pins s σ H R I ⟨R', h1, h2⟩ => thn (he.run pins s σ H R' I h1) fun us s1 ⟨v, H1, I1, r, q⟩ => ⟨v, H1, I1, r, h2 _ _ q⟩⟩
  refine pe_imp (pe_exo1 (E := E) T iC tI F hr hg hm (bind2 (K := X.K) hb) hx (by decide) (pa_cons z pa_nil hs) hdb hs hpl) fun σ H Q q => ?_
  exact ⟨_, q, fun v H1 q1 => ⟨rfl, rfl, fun a n => exo_end q1 a n⟩⟩
/-- C(), no __init__ of its own -/
def gExo0 (C : Addr) : TE := fun _ H Q => New0 H C Q where New0 (H : Hp) (C : Addr) (Q : VK) : Prop := ∀ (a : Addr) (H' : Hp), H a = none → Same H H' → H' a = some (exo a C none) → Q (.ref a) H'
theorem pe_exo0G (q : PySem.W.excIn X.K C [.type "ValueError", .type "Exception", .type "BaseException", .type "object"] "ValueError.__new__" = true) (kC : PySem.W.keepIn X.K (.ref C) = true) (hg : Gl X x) (hm : X.mg x = some (.ref C))
    (hdb : (x == ("__debug__" : Str)) = false := by decide) : PE X (.Call (.Name x p) [] [] pos) (gExo0 C) :=
  pe_imp (pe_exo0 q kC hg hm hdb) fun σ H Q k a n => k a _ n (sameNew n _) upd_same
end
end L2

set_option maxRecDepth 100000
set_option maxHeartbeats 4000000
namespace L2
open PySem PySem.Spec PyProof.Rows
/-- over enumerate(a list that stands) -/
theorem for_enumL {K : PySem.W.Frag} {a : Addr} {xs : List V} {g : TG} {tb : TS} {D : Ends} {σ : St} {H : Hp} (Pv : Nat → St → Hp → Prop) (h0 : Pv 0 σ H) (hl : ∀ i σ H, i ≤ xs.length → Pv i σ H → SqL K H a xs)
    (hs : ∀ i x σ H T H', xs[i]? = some x → Pv i σ H → H T = none → Same H H' → H' T = some (.tup [.int (i : Nat), x]) → g (.ref T) σ H' fun σ2 H2 => tb { D with nx := Pv (i + 1), ct := Pv (i + 1), bk := D.nx } σ2 H2)
    (hd : ∀ σ H, Pv xs.length σ H → D.nx σ H) :
    ∃ W : Nat → Nat → St → Hp → Prop, (∃ m, W 0 m σ H) ∧ ∀ i m σ H, W i m σ H →
      ((Ite K a).stop i H ∧ D.nx σ H) ∨ ((Ite K a).go i H ∧ ∃ N : St → Hp → Prop, (∀ σ' H', N σ' H' → ∃ m', m' < m ∧ W (i + 1) m' σ' H') ∧ ∀ x H', (Ite K a).yld i H x H' → g x σ H' fun σ2 H2 => tb { D with nx := N, ct := N, bk := D.nx } σ2 H2) := by
  refine ⟨fun i m σ H => m = xs.length - i ∧ i ≤ xs.length ∧ Pv i σ H, ⟨xs.length, by simp, Nat.zero_le _, h0⟩, ?_⟩
  rintro i m σ H ⟨rfl, hi, p⟩
  have q := hl i σ H hi p
  by_cases hlt : i < xs.length
  · refine .inr ⟨⟨xs, xs[i], q, by simp [hlt]⟩, Pv (i + 1), fun σ' H' p' => ⟨xs.length - (i + 1), by omega, rfl, hlt, p'⟩, fun v H' y => ?_⟩
    obtain ⟨T, x, e, n, e2, y⟩ := y
    subst e e2
    exact hs i x σ H T _ (y xs q) p n (sameNew n _) upd_same
  · have e : i = xs.length := by omega
    subst e
    exact .inl ⟨⟨xs, q, Nat.le_refl _⟩, hd σ H p⟩
/-! lists of truth values as data -/
theorem bools_lay : ∀ bs : List Bool, PyData.canLayAll0 (bs.map PyData.bool) = true
  | [] => rfl
  | b :: bs => by
    show (PyData.canLay0 (.bool b) && PyData.canLayAll0 (bs.map PyData.bool)) = true
    rw [bools_lay bs]
    rfl
theorem bools_flat : ∀ bs : List Bool, PyData.depthAll (bs.map PyData.bool) = 0
  | [] => rfl
  | b :: bs => by
    show max (PyData.depth (.bool b)) (PyData.depthAll (bs.map PyData.bool)) = 0
    rw [bools_flat bs]
    rfl
theorem bools_shaped (bs : List Bool) : SeqAt.shaped (.list (bs.map PyData.bool)) = true := by
  have h1 : PyData.canLay0 (.list (bs.map PyData.bool)) = true := bools_lay bs
  have h2 : PyData.depth (.list (bs.map PyData.bool)) = 1 := by
    show PyData.depthAll (bs.map PyData.bool) + 1 = 1
    rw [bools_flat bs]
  unfold SeqAt.shaped
  rw [h1, h2]
  rfl
theorem bools_all {K : PySem.W.Frag} {H : Hp} : ∀ bs : List Bool, DpAll K H (bs.map V.bl) (bs.map PyData.bool)
  | [] => .nil
  | b :: bs => .cons (.bl b) (bools_all bs)
theorem bools_dp {K : PySem.W.Frag} {H : Hp} {p : Addr} {bs : List Bool} (h : H p = some (.lst (bs.map V.bl))) : Dp K H (.ref p) (.list (bs.map PyData.bool)) := .lst (SqL.of h) (bools_all bs)
theorem bools_same (bs : List Bool) : PyData.eqv (.list (bs.map PyData.bool)) (.list (bs.map PyData.bool)) = true := SeqAt.eqv_refl _ (bools_lay bs)
/-- a display of one entry, text to value -/
def gDict1 (k : Str) (te : TE) : TE := fun σ H Q => ∀ p : Addr, H p = none → te σ (upd H p (.dK [])) fun v H2 => H2 p = some (.dK []) ∧ Q (.ref p) (upd H2 p (.dK [(.inr k, v)]))
theorem pe_disp1 {X : Cx} {pos p1 : Pos} {v : Expr} {k : Str} {j : Nat} {te : TE} (hv : PE X v te) : PE X (.Dict [some (.Constant (.str k) j p1)] [v] pos) (gDict1 k te) := by
  have z : PE X v (fun σ H R => ∃ R', te σ H R' ∧ ∀ v H1, R' v H1 → R v H1) := ⟨fun pins s σ H R I ⟨R', h1, h2⟩ => thn (hv.run pins s σ H R' I h1) fun us s1 ⟨v, H1, I1, r, q⟩ => ⟨v, H1, I1, r, h2 _ _ q⟩⟩
  refine pe_imp (pe_disp (pps_cons pe_str z pps_nil) rfl rfl (fun z => by cases z) (by show 1 ≤ 15; decide)) fun σ H Q q p n => ?_
  exact ⟨_, q p n, fun u H2 ⟨e, k2⟩ => ⟨e, [(.inr k, u)], rfl, by show 1 ≤ 15; decide, k2⟩⟩
/-- the cut and what is put behind it -/
theorem ints_cut {ns : List Int} {lo hi : Option Int} {i : Nat} {y : V} (h : (cutV (ns.map V.int) lo hi ++ [.int 0])[i]? = some y) : ∃ c : Int, y = .int c := by
  have m := List.mem_of_getElem? h
  rcases List.mem_append.mp m with m | m
  · unfold cutV at m
    have m2 := List.mem_of_mem_drop (List.mem_of_mem_take m)
    obtain ⟨c, _, e⟩ := List.mem_map.mp m2
    exact ⟨c, e.symm⟩
  · exact ⟨0, by simpa using m⟩
theorem ints_cut_len {ns : List Int} {lo hi : Option Int} (h : ns.length ≤ 63) : (cutV (ns.map V.int) lo hi).length ≤ 63 := by
  have := cutV_length (ns.map V.int) lo hi
  rw [List.length_map] at this
  omega
end L2

set_option maxRecDepth 100000
set_option maxHeartbeats 2000000
/-! defs whose code objects have tables: the fact, the rule, the end of a row -/
namespace LamB
open PySem PySem.Spec PyProof.Rows L2 LamX
/-- a def as it stands behind the top, its code object at c -/
structure FunC (K : PySem.W.Frag) (x qual : Str) (st : Stmt) (f : Addr) (fd : FuncData) (c : Addr) : Prop where
  ex : ∃ (oc : Value) (od : Option Addr) (kV doc pm : Value) (an : Option Addr) (ct : Value) (osl : Array (Option Value)),
    fd = PySem.W.fnOf x qual (defArgs st) (defBody st) (defScope st) .none kV doc pm an (.ref c) ct ∧ K.lookup f = some ⟨oc, od, .func fd, osl⟩ ∧ PySem.W.codeIn K (.ref c) qual = true
  kp : PySem.W.keepIn K (.ref f) = true
theorem FunC.fn {K : PySem.W.Frag} {x qual : Str} {st : Stmt} {f c : Addr} {fd : FuncData} (F : FunC K x qual st f fd c) : Fun K x qual st f fd := by
  obtain ⟨⟨oc, od, kV, doc, pm, an, ct, osl, e1, e2, e3⟩, kp⟩ := F
  exact ⟨⟨oc, od, kV, doc, pm, an, _, ct, osl, e1, e2, e3⟩, kp⟩
section
variable {P : Program} {w : World} {K : PySem.W.Frag} {mg : Str → Option Value} {base : Heap}
theorem FunC.ok {x qual : Str} {st : Stmt} {f c : Addr} {fd : FuncData} {N ps : List Str} {k : Nat} {sp : Sp} (F : FunC K x qual st f fd c) (S : FnScope N ps (defScope st)) (len : ∀ vs H Q E, sp vs H Q E → vs.length = ps.length)
    (body : ∀ (A : Around) (outer : List Env) (s : Shared) (H : Hp) (vs : List V) (Q : VK) (E : XK), Room k (A.deeper (envOfC qual (defScope st) s.heap.objs.size f (.ref c))) → sp vs H Q E →
      ∃ t, PSs (cxOf CX0 P w K mg base N qual (defScope st) f (.ref c) A outer s H E).nox (defBody st) t ∧ t { nx := fun _ H' => Q .non H', rt := Q } (L2.start N vs) H) : FnOk P w K mg base CX0 (k + 1) f fd ps sp := by
  obtain ⟨oc, od, kV, doc, pm, an, ct, osl, rfl, lk, cd⟩ := F.ex
  refine fn_of lk cd S len fun A outer s H vs Q E hr h => ?_
  obtain ⟨t, ht, q⟩ := body A outer s H vs Q E hr h
  exact ⟨t, ht.nox, q⟩
end
/-- the tables of these defs are empty -/
def DefTabs (K : PySem.W.Frag) (mg : Str → Option Value) (names : List Str) (h : Heap) : Prop := ∀ nm ∈ names, ∀ (a c P : Addr) (o : Obj) (fd : FuncData), mg nm = some (.ref a) → K.lookup a = some o → o.data = .func fd → fd.code = .ref c → PySem.W.codeHdIn K c P = true →
  h.get? P = some { cls := .none, data := .fields #[] }
theorem codeHd_uniq {h : Heap} {c P P' : Addr} (a : PySem.W.CodeHd h c P) (b : h.TableAt c P' #[]) : P = P' := by
  obtain ⟨o, vs, _, _, _, _, _, _, _, a1, _, a3, a4, _⟩ := a
  obtain ⟨⟨o', vs', b1, _, b3, b4⟩, _⟩ := b
  rw [a1] at b1
  cases b1
  rw [a3] at b3
  cases b3
  rw [a4] at b4
  cases b4
  rfl
theorem walk_ofDefs {l : PySem.W.OpenLaw} {n k : Nat} {q : Program} {loose : List Str} {XP : (Str → Option Value) → Heap → Prop} {YP : World → Heap → Prop} {d : DefRec} {K : Params → PySem.W.Frag} {CX : World → CXT} {x : Str} {names : List Str}
    (hn : l.most = some n) (hn2 : n ≤ sizeLine) (hdf : d.params.defaults = []) (hr : Room k callerA) (hrec : (names.all fun nm => (recsOf q).any fun e => e.name == nm) = true) (hY : ∀ (w : World) (h : Heap), YP w h → (K w.params).In h)
    (F : ∀ (w : World) (mg : Str → Option Value) (fa : Addr) (h : Heap), YP w h → (K w.params).In h → h.Ns mainGlobals mg → mg d.name = some (.ref fa) → DefTabs (K w.params) mg names h → LawAtS l w (K w.params) (CX w) k n x mg fa h)
    (hCX : ∀ (w : World) (H : Hp) (s : Shared) (e : Value) (s' : Shared), CX w [] H s (fun _ _ _ => False) e s' → False) :
    PySem.W.WalkO q loose XP YP l.row.toRowW d [] (fun f vs => PySem.call f vs) := by
  refine Att.attach_callB hn hdf fun w s₀ s₁ mg mb fa o pm cd doc a vs ns G Y ho hd hcd hmg hobj hints hlen hbits hg => ?_
  have KX := hY w _ Y
  have tabs : DefTabs (K w.params) mg names s₁.heap := fun nm hnm a1 c P o1 fd1 k1 k2 k3 k4 k5 => by
    obtain ⟨dL, hm, hn1⟩ := List.any_eq_true.mp (List.all_eq_true.mp hrec nm hnm)
    have e1 : dL.name = nm := beq_iff_eq.mp hn1
    obtain ⟨a', o', fd', c', P', h1, h2, h3, h4, h5, h6⟩ := G.T.tab dL hm
    rw [e1, k1] at h1
    cases h1
    have g1 := KX _ _ k2
    rw [g1] at h2
    cases h2
    rw [k3] at h3
    cases h3
    rw [k4] at h4
    cases h4
    have e2 := codeHd_uniq (PySem.W.codeHd_of_K KX k5) h6
    subst e2
    exact h6.2
  obtain ⟨fd, cs, sp, hT, nT, C, hb, hsp, hF⟩ := F w mg fa _ Y KX G.T.g hmg tabs
  exact law_callTs KX G.T.g G.T.b G.T.builtins G.T.nolimit hg hT nT C G.T.bmain hobj hints (Nat.le_trans hlen hn2) hr hF hb (fun H hH hS => hsp H a ns hlen hbits hH hS) fun H e s' => hCX w H s₁ e s'
end LamB

set_option maxRecDepth 100000
set_option maxHeartbeats 4000000
/-! for .. in enumerate(a tuple), as the hand layer has it for a list -/
namespace PySem
open Sem (wp)
open AutoSeq1 (wpAny_loadPart')
theorem my_enumerate_newT (l : Addr) (items : Array Value) (n : Nat) (dct : Option Addr) (sl : Array (Option Value)) :
    Meets (Builtin.«enumerate.__new__» ⟨[.type "enumerate", .ref l], []⟩) (fun _ R s => s.heap.get? l = some { cls := .type "tuple", dict := dct, data := .seq items n, slots := sl } ∧
      R (.ok (.ret (.ref (s.heap.push { cls := .type "tuple_iterator", data := .fields #[.ref l, .int 0 0] }).objs.size)))
        { s with heap := (s.heap.push { cls := .type "tuple_iterator", data := .fields #[.ref l, .int 0 0] }).push { cls := .type "enumerate", data := .fields #[.none, .bool false, .ref s.heap.objs.size, rawInt 0, .none, .none] } }) :=
  .of_wp fun prog w A R s h => by
    obtain ⟨hp, g, d, tk, os⟩ := s; obtain ⟨hl, h⟩ := h
    have hsub := sub_enumerate
    have hL : Heap.IsTuple (Shared.heap ⟨hp, g, d, tk, os⟩) l items := ⟨_, hl, rfl, n, rfl⟩
    wp_walk using wpAny_loadPart' hl
    refine wpAny_stack_any fun st => wpAny_pure ?_
    split
    · rename_i c _ _ _ _ _
      cases (c == Value.type "enumerate")
      · wp_walk using wpAny_loadPart' hl, wpAny_pyIter_tuple hL
        exact ⟨_, rfl, h⟩
      · wp_walk using wpAny_loadPart' hl, wpAny_pyIter_tuple hL
        exact ⟨_, rfl, h⟩
    · wp_walk using wpAny_loadPart' hl, wpAny_pyIter_tuple hL
      exact ⟨_, rfl, h⟩
section
variable {prog : Program} {w : World} {A : Around} {E : Value → Shared → Prop} {s : Shared}
theorem my_enumerate_tuple {l : Addr} {items : Array Value} {Q : Value → Shared → Prop} (hL : s.heap.IsTuple l items)
    (h : ∀ h', IsEnum h' (s.heap.objs.size + 1) s.heap.objs.size 0 .none → h'.IsTupleIter s.heap.objs.size l 0 → h'.objs.size = s.heap.objs.size + 2 →
      (∀ b o, s.heap.get? b = some o → h'.get? b = some o) → Q (.ref (s.heap.objs.size + 1)) { s with heap := h' }) :
    wpAny (model prog w) A (call (.type "enumerate") [.ref l]) Q E s := by
  obtain ⟨⟨c, dct, dt, sl⟩, hl, hc, n, hd⟩ := hL
  replace hc : c = .type "tuple" := hc
  replace hd : dt = .seq items n := hd
  subst hc hd
  refine callType_new F.called_enumerate (by decide) (F.typeCall_enumerate_1 _) (F.newCall_enumerate_1 _) (fun obj => F.args_object_init_2 obj _) F.entry_enumerate_new
    (my_enumerate_newT l items n dct sl) ⟨hl, ?_⟩
  have hz : (s.heap.push { cls := .type "tuple_iterator", data := .fields #[.ref l, .int 0 0] }).objs.size = s.heap.objs.size + 1 := Heap.size_push ..
  show _ ∧ _
  rw [hz]
  have he : IsEnum ((s.heap.push { cls := .type "tuple_iterator", data := .fields #[.ref l, .int 0 0] }).push
      { cls := .type "enumerate", data := .fields #[.none, .bool false, .ref s.heap.objs.size, rawInt 0, .none, .none] }) (s.heap.objs.size + 1) s.heap.objs.size 0 .none := by
    have := Heap.get?_push_size (s.heap.push { cls := .type "tuple_iterator", data := .fields #[.ref l, .int 0 0] })
      (o := { cls := .type "enumerate", data := .fields #[.none, .bool false, .ref s.heap.objs.size, rawInt 0, .none, .none] }) rfl
    rw [hz] at this; exact this
  refine ⟨⟨_, he, rfl⟩, h _ he ⟨_, Heap.get?_push_of_some _ (Heap.get?_push_size _ rfl), rfl, rfl⟩ (by rw [Heap.size_push, hz]) fun b o x => Heap.get?_push_of_some _ (Heap.get?_push_of_some _ x)⟩
end
end PySem
namespace L2
open PySem PySem.Spec PyProof.Rows
/-- the tuple at a, each item in a new pair -/
def IteT (K : PySem.W.Frag) (a : Addr) : It :=
  ⟨fun i H => ∃ (xs : List V) (x : V), SqT K H a xs ∧ xs[i]? = some x, fun i H v H' => ∃ T x, v = .ref T ∧ H T = none ∧ H' = upd H T (.tup [.int (i : Nat), x]) ∧ ∀ xs, SqT K H a xs → xs[i]? = some x, fun i H => ∃ xs : List V, SqT K H a xs ∧ xs.length = i⟩
theorem turn_enumT {P : Program} {w : World} {K : PySem.W.Frag} {elts : List Expr} {kk : Nat} {tpos : Pos} (a e it : Addr) (nae : a ≠ e) (nai : a ≠ it) :
    Turn P w K (.Tuple elts kk tpos) (IteT K a) [e, it] e (fun i h => (∃ old, IsEnum h e it ((i : Nat) : Int) old) ∧ h.IsTupleIter it a i ∧ e ≠ it) where
  mem := by simp
  obj := fun i h st b hb => by
    obtain ⟨⟨old, he⟩, ⟨o, ho, hc, hd⟩, _⟩ := st
    have e' : b = e ∨ b = it := by simpa using hb
    rcases e' with z | z
    · rw [z]; exact ⟨_, he, fun v q => nomatch q⟩
    · rw [z]; exact ⟨o, ho, fun v q => by rw [hd] at q; cases q⟩
  keep := fun i h h' st k => by
    obtain ⟨⟨old, he⟩, ⟨o, ho, r⟩, hne⟩ := st
    exact ⟨⟨old, k e (by simp) _ he⟩, ⟨o, k it (by simp) o ho, r⟩, hne⟩
  item := by
    intro X hP hw hK hc i pins s σ H E I hf st hg
    subst hP hw hK
    obtain ⟨⟨old, he⟩, hit, hne⟩ := st
    obtain ⟨xs, x, hq, hx⟩ := hg
    obtain ⟨its, rv, p, hz⟩ := I.tuple hq
    obtain ⟨u, hu, ru⟩ := rv.get hx
    have hel : e < s.heap.objs.size := Heap.lt_size he
    have hil : it < s.heap.objs.size := by obtain ⟨_, q, _⟩ := hit; exact Heap.lt_size q
    have hi : i < its.toArray.size := by
      have := (List.getElem?_eq_some_iff.mp hu).1
      simpa using this
    refine wpAny_pyNext_enum_itemD (Draws.tuple (prog := X.prog) (w := X.w) (A := X.A.in1) (I.ok.hd hc) it a nai its.toArray) he ⟨hit, show s.heap.IsTuple a its.toArray from p⟩ hi hne (by simp [Ne.symm nae, hne]) fun x2 h' tk hx2 ho hit' hT hsz hk => ?_
    have ex : x2 = u := by
      have e1 : its.toArray[i]? = some u := by simpa using hu
      rw [e1] at hx2
      exact (Option.some.inj hx2).symm
    subst ex
    refine ⟨_, rfl, wpAny_letOwnedTupleGo_enum (s := { s with heap := h', toks := tk + 1 }) ho fun h'' he' sb => ?_⟩
    have hT2 : h''.get? s.heap.objs.size = some { cls := .type "tuple", data := .seq #[.int i tk, x2] } := (sb.2 _ (Nat.ne_of_gt hel)).trans hT
    have new : ObjOk X.prog X.w (upd H s.heap.objs.size (.tup [.int (i : Nat), x])) h'' s.heap.objs.size (.tup [.int (i : Nat), x]) :=
      ⟨by show 2 ≤ sizeLine; decide, [.int i tk, x2], .cons ⟨_, rfl⟩ (.cons ru .nil), ⟨_, hT2, rfl, _, rfl⟩⟩
    have I1 : Inv X pins σ (upd H s.heap.objs.size (.tup [.int (i : Nat), x])) { s with heap := h'', toks := tk + 1 } :=
      I.turnedNew (ch := [e, it]) (fun b ob hb q => (sb.2 b (fun z => hb (by simp [z]))).trans (hk b ob (fun z => hb (by simp [z])) (fun z => hb (by simp [z])) q)) hf (Nat.le_refl _) new
    refine ⟨.ref s.heap.objs.size, _, I1, rfl, ⟨_, x, rfl, I.hok.fresh (Nat.le_refl _), rfl, fun ys hy => by rw [I.tuple_inj hy hq]; exact hx⟩, ⟨⟨x2, ?_⟩, ?_, hne⟩, fun b hb => ?_⟩
    · have e1 : ((i + 1 : Nat) : Int) = (i : Int) + 1 := by omega
      rw [e1]; exact he'
    · obtain ⟨o, ho2, r⟩ := hit'.1
      exact ⟨o, (sb.2 it (Ne.symm hne)).trans ho2, r⟩
    · have hb' : b < s.heap.objs.size := by
        have e' : b = e ∨ b = it := by simpa using hb
        rcases e' with z | z
        · rw [z]; exact hel
        · rw [z]; exact hil
      rw [upd_ne (Nat.ne_of_lt hb')]
      exact (hf b hb).1
  done := by
    intro X hP hw hK hc i pins s σ H E I hf st hg
    subst hP hw hK
    obtain ⟨⟨old, he⟩, hit, hne⟩ := st
    obtain ⟨xs, hq, hx⟩ := hg
    obtain ⟨its, rv, p, hz⟩ := I.tuple hq
    obtain ⟨f0, f1, f2, f3, f4, f5⟩ := hf it (by simp)
    have hl := rv.length
    have ei : i = its.toArray.size := by simp; omega
    subst ei
    exact wpAny_pyNext_enum_endD (Draws.tuple (prog := X.prog) (w := X.w) (A := X.A.in1) (I.ok.hd hc) it a nai its.toArray) he ⟨hit, show s.heap.IsTuple a its.toArray from p⟩ fun h' eb => ⟨rfl, I.turned (t' := s.toks) (fun b o hb q => eb b o hb q) f0 f1 f3 f4 f5⟩
  self := fun A i s Q E st h => let ⟨⟨_, he⟩, _⟩ := st; wpAny_pyIter_enum he h
def iEnumT (K : PySem.W.Frag) (ta : TA) : TI := fun σ H R => ta σ H fun vs H1 => ∃ a xs, vs = [.ref a] ∧ SqT K H1 a xs ∧ R (IteT K a) H1
theorem pi_enumT {X : Cx} {e : Expr} {ta : TA} {p pos tpos : Pos} {elts : List Expr} {kk : Nat} (hg : Gl X "enumerate") (hm : X.mg "enumerate" = none) (ha : PA X [e] ta) (hs : starEach [e] X.env = [(false, eval e X.env)] := by rfl) :
    PI X (.Tuple elts kk tpos) (.Call (.Name "enumerate" p) [e] [] pos) (iEnumT X.K ta) := by
  refine ⟨fun pins s σ H R I h => ?_⟩
  refine Call_ (ld_blt I hg hm boot_enumerate (PyProof.Rows.callWith_type1 (thn (ha.run pos pins s σ H _ I h) fun us s1 ⟨vs, H1, I1, r1, q1⟩ => ?_) hs rfl))
  obtain ⟨a, xs, ex, hq, q⟩ := q1
  subst ex
  cases r1 with
  | cons r rr =>
    cases rr
    cases r
    obtain ⟨its, rv, p', hz⟩ := I1.tuple hq
    have hal : a < s1.heap.objs.size := by obtain ⟨o, ho, _⟩ := p'; exact Heap.lt_size ho
    refine my_enumerate_tuple (show s1.heap.IsTuple a its.toArray from p') fun h' he hit hsz hk => wpAny_pyIter_enum he ?_
    have I2 : Inv X pins σ H1 { s1 with heap := h' } := I1.kept (t' := s1.toks) hk
    refine ⟨s1.heap.objs.size + 1, [s1.heap.objs.size + 1, s1.heap.objs.size], _, _, H1, rfl, I2, turn_enumT a (s1.heap.objs.size + 1) s1.heap.objs.size (Nat.ne_of_lt (Nat.lt_succ_of_lt hal)) (Nat.ne_of_lt hal), ⟨⟨.none, he⟩, hit, Nat.succ_ne_self _⟩, fun b hb => ?_, q⟩
    have e' : b = s1.heap.objs.size + 1 ∨ b = s1.heap.objs.size := by simpa using hb
    have hle : s1.heap.objs.size ≤ b := by
      rcases e' with z | z
      · rw [z]; exact Nat.le_add_right _ _
      · rw [z]; exact Nat.le_refl _
    exact I1.fpOk hle (I1.hok.fresh hle)
/-- over enumerate(a tuple that stands) -/
theorem for_enumT {K : PySem.W.Frag} {a : Addr} {xs : List V} {g : TG} {tb : TS} {D : Ends} {σ : St} {H : Hp} (Pv : Nat → St → Hp → Prop) (h0 : Pv 0 σ H) (hl : ∀ i σ H, i ≤ xs.length → Pv i σ H → SqT K H a xs)
    (hs : ∀ i x σ H T H', xs[i]? = some x → Pv i σ H → H T = none → Same H H' → H' T = some (.tup [.int (i : Nat), x]) → g (.ref T) σ H' fun σ2 H2 => tb { D with nx := Pv (i + 1), ct := Pv (i + 1), bk := D.nx } σ2 H2)
    (hd : ∀ σ H, Pv xs.length σ H → D.nx σ H) :
    ∃ W : Nat → Nat → St → Hp → Prop, (∃ m, W 0 m σ H) ∧ ∀ i m σ H, W i m σ H →
      ((IteT K a).stop i H ∧ D.nx σ H) ∨ ((IteT K a).go i H ∧ ∃ N : St → Hp → Prop, (∀ σ' H', N σ' H' → ∃ m', m' < m ∧ W (i + 1) m' σ' H') ∧ ∀ x H', (IteT K a).yld i H x H' → g x σ H' fun σ2 H2 => tb { D with nx := N, ct := N, bk := D.nx } σ2 H2) := by
  refine ⟨fun i m σ H => m = xs.length - i ∧ i ≤ xs.length ∧ Pv i σ H, ⟨xs.length, by simp, Nat.zero_le _, h0⟩, ?_⟩
  rintro i m σ H ⟨rfl, hi, p⟩
  have q := hl i σ H hi p
  by_cases hlt : i < xs.length
  · refine .inr ⟨⟨xs, xs[i], q, by simp [hlt]⟩, Pv (i + 1), fun σ' H' p' => ⟨xs.length - (i + 1), by omega, rfl, hlt, p'⟩, fun v H' y => ?_⟩
    obtain ⟨T, x, e, n, e2, y⟩ := y
    subst e e2
    exact hs i x σ H T _ (y xs q) p n (sameNew n _) upd_same
  · have e : i = xs.length := by omega
    subst e
    exact .inl ⟨⟨xs, q, rfl⟩, hd σ H p⟩
end L2

set_option maxRecDepth 100000
set_option maxHeartbeats 4000000
namespace Mine
open PySem L2
def top (i : Nat) : Stmt := PySem.Challenge.pw_askfurther_k25_whole_bodies_that_go_less.main.body.getD i (.Pass ⟨0, 0, 0, 0⟩)
abbrev s_is_integer : Stmt := top 13
abbrev s_is_within : Stmt := top 14
abbrev s_is_index : Stmt := top 15
abbrev s_is_row : Stmt := top 16
abbrev s_is_name : Stmt := top 17
abbrev s_is_text_in : Stmt := top 18
/-- the built-in types whose things are passed -/
def bts : List String := ["NoneType", "bool", "int", "str", "float", "list", "tuple", "dict", "bytes", "set"]
def kb (t u : String) : Bool := t == u || (t == "bool" && u == "int")
theorem kit_b : ∀ t ∈ bts, ∀ u ∈ bts, kitB t u = some (kb t u) := by decide +kernel
/-- a thing of a built-in type -/
structure Bt (K : PySem.W.Frag) (H : Hp) (v : V) (t : String) : Prop where
  ty : TyX K H v (.type t)
  m : t ∈ bts
theorem Bt.kit {K : PySem.W.Frag} {H : Hp} {v : V} {t u : String} (b : Bt K H v t) (hu : u ∈ bts) : PySem.W.kitOne K (.type t) (.type u) = some (kb t u) := kit_ty (kit_b t b.m u hu)
theorem Bt.int {K : PySem.W.Frag} {H : Hp} {v : V} {t : String} (b : Bt K H v t) (h : (t == "int") = true) : ∃ i : Int, v = .int i := by
  cases b.ty with
  | base z => cases z <;> first | exact ⟨_, rfl⟩ | (exact absurd h (by decide))
  | _ => exact absurd h (by decide)
theorem Bt.str {K : PySem.W.Frag} {H : Hp} {v : V} {t : String} (b : Bt K H v t) (h : (t == "str") = true) : ∃ x : Str, v = .str x := by
  cases b.ty with
  | base z => cases z <;> first | exact ⟨_, rfl⟩ | (exact absurd h (by decide))
  | _ => exact absurd h (by decide)
theorem Bt.same {K : PySem.W.Frag} {H H' : Hp} {v : V} {t : String} (s : Same H H') (b : Bt K H v t) : Bt K H' v t := by
  refine ⟨?_, b.m⟩
  cases b.ty with
  | base h =>
    cases h with
    | non => exact .base .non
    | bl x => exact .base (.bl x)
    | int i => exact .base (.int i)
    | str x => exact .base (.str x)
    | flt x => exact .base (.flt x)
    | lst e => exact .base (.lst (s _ _ e))
    | frz e => exact .base (.frz (s _ _ e))
    | tup e => exact .base (.tup (s _ _ e))
    | dK e => exact .base (.dK (s _ _ e))
    | dT e => exact .base (.dT (s _ _ e))
  | byt x => exact .byt x
  | set e => exact .set (s _ _ e)
  | kList e c => exact .kList e c
  | kTuple e c => exact .kTuple e c
  | kDict e c => exact .kDict e c
  | fTuple e => exact .fTuple (s _ _ e)
  | fDict e => exact .fDict (s _ _ e)
/-- an integer in bounds; a name; what else is none -/
def inW (v : V) (lo hi : Int) : Bool := match v with
  | .int i => decide (lo ≤ i) && decide (i ≤ hi)
  | _ => false
def lettersS : Str := "abcdefghijklmnopqrstuvwxyz"
def isNm (x : Str) : Bool := decide (1 ≤ x.length) && decide (x.length ≤ 8) && x.cps.toList.all fun c => decide (c ∈ lettersS.cps.toList)
def nameV (v : V) : Bool := match v with
  | .str x => isNm x
  | _ => false
theorem inW_of {K : PySem.W.Frag} {H : Hp} {v : V} {t : String} (b : Bt K H v t) (h : (t == "int") = false) (lo hi : Int) : inW v lo hi = false := by
  cases b.ty with
  | base z => cases z <;> first | rfl | (exact absurd h (by decide))
  | _ => rfl
theorem nameV_of {K : PySem.W.Frag} {H : Hp} {v : V} {t : String} (b : Bt K H v t) (h : (t == "str") = false) : nameV v = false := by
  cases b.ty with
  | base z => cases z <;> first | rfl | (exact absurd h (by decide))
  | _ => rfl
def spInt (K : PySem.W.Frag) : Sp := fun vs H Q _ => ∃ (v : V) (t : String), vs = [v] ∧ Bt K H v t ∧ Q (.bl (t == "int")) H
def spWithin (K : PySem.W.Frag) : Sp := fun vs H Q _ => ∃ (v : V) (t : String) (lo hi : Int), vs = [v, .int lo, .int hi] ∧ Bt K H v t ∧ Q (.bl (inW v lo hi)) H
def spIndex (K : PySem.W.Frag) : Sp := fun vs H Q _ => ∃ (v : V) (t : String) (m : Int), vs = [v, .int m] ∧ Bt K H v t ∧ Q (.bl (inW v 0 (m - 1))) H
def spIsRow (K : PySem.W.Frag) : Sp := fun vs H Q _ => ∃ (v : V) (t : String), vs = [v] ∧ Bt K H v t ∧ ∀ H', Same H H' → Q (.bl (t == "list" || t == "tuple")) H'
def spName (K : PySem.W.Frag) : Sp := fun vs H Q _ => ∃ (v : V) (t : String), vs = [v] ∧ Bt K H v t ∧ (∀ x, v = .str x → x.length ≤ sizeLine) ∧ ∀ H', Same H H' → Q (.bl (nameV v)) H'
/-- a text's place in a dict of texts -/
def hasT (kvs : List (Key × V)) (v : V) : Bool := match v with
  | .str x => (valV kvs (.inr x)).isSome
  | _ => false
def spTextIn (K : PySem.W.Frag) : Sp := fun vs H Q _ => ∃ (v : V) (t : String) (d : Addr) (kvs : List (Key × V)), vs = [v, .ref d] ∧ Bt K H v t ∧ Rd H d (.dK kvs) ∧ Q (.bl (hasT kvs v)) H
structure TxtF (K : PySem.W.Frag) (mg : Str → Option Value) (fII fIW : Addr) : Prop where
  b_isinstance : mg "isinstance" = none
  b_int : mg "int" = none
  b_bool : mg "bool" = none
  b_str : mg "str" = none
  b_list : mg "list" = none
  b_tuple : mg "tuple" = none
  b_dict : mg "dict" = none
  b_len : mg "len" = none
  b_all : mg "all" = none
  c_LETTERS : ∃ t, mg "LETTERS" = some (.str lettersS t)
  c_LONGEST_NAME : ∃ t, mg "LONGEST_NAME" = some (.int 8 t)
  g_is_integer : mg "is_integer" = some (.ref fII)
  k_is_integer : PySem.W.keepIn K (.ref fII) = true
  g_is_within : mg "is_within" = some (.ref fIW)
  k_is_within : PySem.W.keepIn K (.ref fIW) = true
section
variable {P : Program} {w : World} {K : PySem.W.Frag} {mg : Str → Option Value} {base : Heap}
variable {fII fIW : Addr} {fdII fdIW : FuncData}
theorem sc_is_integer : FnScope ["thing"] ["thing"] (defScope s_is_integer) := ⟨rfl, rfl, rfl, by decide +kernel, rfl, by decide +kernel, by decide +kernel⟩
theorem ok_is_integer {f : Addr} {fd : FuncData} (F : Fun K "is_integer" "is_integer" s_is_integer f fd) (T : TxtF K mg fII fIW) : FnOk P w K mg base CX0 1 f fd ["thing"] (spInt K) := by
  refine F.ok sc_is_integer (fun vs H Q E h => ?_) (fun cdv A outer s H vs Q E hr h => ?_)
  · obtain ⟨v, t, rfl, _⟩ := h
    rfl
  · obtain ⟨v, t, rfl, b, k⟩ := h
    refine ⟨_, (pss_one (ps_ret (pe_and (pe_callB call_isi (by rfl) T.b_isinstance (by decide +kernel) (pa_cons (pv 0) (pa_cons (pe_bltn (v := .ty "int") rfl T.b_int (by decide +kernel) rfl) pa_nil))) (pe_one (pe_not (pe_callB call_isi (by rfl) T.b_isinstance (by decide +kernel) (pa_cons (pv 0) (pa_cons (pe_bltn (v := .ty "bool") rfl T.b_bool (by decide +kernel) rfl) pa_nil)))))))), ?_⟩
    refine ⟨_, rfl, v, _, _, _, _, rfl, .ty _, b.ty, b.kit (u := "int") (by decide), _, rfl, ?_⟩
    refine ite2 (fun h1 => ?_) (fun h1 => ?_)
    · refine ⟨_, rfl, v, _, _, _, _, rfl, .ty _, b.ty, b.kit (u := "bool") (by decide), _, rfl, ?_⟩
      have e : (!kb t "bool") = (t == "int") := by
        have := b.m
        revert h1
        simp only [bts, List.mem_cons, List.not_mem_nil, or_false] at this
        rcases this with rfl | rfl | rfl | rfl | rfl | rfl | rfl | rfl | rfl | rfl <;> decide
      rw [e]
      exact k
    · have e : (t == "int") = false := by
        have := b.m
        revert h1
        simp only [bts, List.mem_cons, List.not_mem_nil, or_false] at this
        rcases this with rfl | rfl | rfl | rfl | rfl | rfl | rfl | rfl | rfl | rfl <;> decide
      rw [e] at k
      exact k
theorem sc_is_within : FnScope ["thing", "low", "high"] ["thing", "low", "high"] (defScope s_is_within) := ⟨rfl, rfl, rfl, by decide +kernel, rfl, by decide +kernel, by decide +kernel⟩
theorem ok_is_within {f : Addr} {fd : FuncData} (F : Fun K "is_within" "is_within" s_is_within f fd) (T : TxtF K mg fII fIW) (FI : Fun K "is_integer" "is_integer" s_is_integer fII fdII) (bI : Binds K fdII ["thing"] []) : FnOk P w K mg base CX0 2 f fd ["thing", "low", "high"] (spWithin K) := by
  have GI : FnOk P w K mg base CX0 1 fII fdII ["thing"] (spInt K) := ok_is_integer FI T
  refine F.ok sc_is_within (fun vs H Q E h => ?_) (fun cdv A outer s H vs Q E hr h => ?_)
  · obtain ⟨v, t, lo, hi, rfl, _⟩ := h
    rfl
  · obtain ⟨v, t, lo, hi, rfl, b, k⟩ := h
    refine ⟨_, (pss_one (ps_ret (pe_and (pe_call GI hr (by rfl) T.g_is_integer T.k_is_integer bI .nil pass0 (pa_cons (pv 0) pa_nil)) (pe_one (pe_chain op_le op_le (pv 1) (pv 0) (pv 2)))))), ?_⟩
    refine ⟨_, rfl, v, t, rfl, b, _, rfl, ?_⟩
    refine ite2 (fun h1 => ?_) (fun h1 => ?_)
    · obtain ⟨i, rfl⟩ := b.int h1
      refine ⟨_, rfl, _, rfl, _, _, rfl, rfl, _, rfl, ?_⟩
      refine ite2 (fun h2 => ?_) (fun h2 => ?_)
      · refine ⟨_, rfl, _, _, rfl, rfl, ?_⟩
        have e : inW (.int i) lo hi = decide (i ≤ hi) := by
          show (decide (lo ≤ i) && decide (i ≤ hi)) = _
          rw [h2, Bool.true_and]
        show Q (.bl (decide (i ≤ hi))) H
        rw [← e]
        exact k
      · have e : inW (.int i) lo hi = false := by
          show (decide (lo ≤ i) && decide (i ≤ hi)) = _
          rw [Bool.eq_false_iff.mpr h2, Bool.false_and]
        rw [e] at k
        exact k
    · rw [inW_of b (Bool.eq_false_iff.mpr h1)] at k
      exact k
theorem sc_is_index : FnScope ["thing", "many"] ["thing", "many"] (defScope s_is_index) := ⟨rfl, rfl, rfl, by decide +kernel, rfl, by decide +kernel, by decide +kernel⟩
theorem ok_is_index {f : Addr} {fd : FuncData} (F : Fun K "is_index" "is_index" s_is_index f fd) (T : TxtF K mg fII fIW) (FI : Fun K "is_integer" "is_integer" s_is_integer fII fdII) (bI : Binds K fdII ["thing"] [])
    (FW : Fun K "is_within" "is_within" s_is_within fIW fdIW) (bW : Binds K fdIW ["thing", "low", "high"] []) : FnOk P w K mg base CX0 3 f fd ["thing", "many"] (spIndex K) := by
  have GW : FnOk P w K mg base CX0 2 fIW fdIW ["thing", "low", "high"] (spWithin K) := ok_is_within FW T FI bI
  refine F.ok sc_is_index (fun vs H Q E h => ?_) (fun cdv A outer s H vs Q E hr h => ?_)
  · obtain ⟨v, t, m, rfl, _⟩ := h
    rfl
  · obtain ⟨v, t, m, rfl, b, k⟩ := h
    refine ⟨_, (pss_one (ps_ret (pe_call GW hr (by rfl) T.g_is_within T.k_is_within bW .nil pass0 (pa_cons (pv 0) (pa_cons pe_int (pa_cons (pe_op op_sub (pv 1) pe_int) pa_nil)))))), ?_⟩
    exact ⟨_, rfl, _, rfl, _, _, rfl, rfl, v, t, 0, m - 1, rfl, b, k⟩
theorem sc_is_row : FnScope ["thing"] ["thing"] (defScope s_is_row) := ⟨rfl, rfl, rfl, by decide +kernel, rfl, by decide +kernel, by decide +kernel⟩
theorem ok_is_row {f : Addr} {fd : FuncData} (F : Fun K "is_row" "is_row" s_is_row f fd) (T : TxtF K mg fII fIW) : FnOk P w K mg base CX0 1 f fd ["thing"] (spIsRow K) := by
  refine F.ok sc_is_row (fun vs H Q E h => ?_) (fun cdv A outer s H vs Q E hr h => ?_)
  · obtain ⟨v, t, rfl, _⟩ := h
    rfl
  · obtain ⟨v, t, rfl, b, k⟩ := h
    refine ⟨_, (pss_one (ps_ret (pe_callB call_isiT (by rfl) T.b_isinstance (by decide +kernel) (pa_cons (pv 0) (pa_cons (pe_tupG (pa_cons (pe_bltn (v := .ty "list") rfl T.b_list (by decide +kernel) rfl) (pa_cons (pe_bltn (v := .ty "tuple") rfl T.b_tuple (by decide +kernel) rfl) pa_nil))) pa_nil))))), ?_⟩
    refine ⟨_, rfl, by show 2 ≤ sizeLine; decide, fun p H1 n1 s1 e1 => ?_⟩
    have b1 := b.same s1
    have kk : PySem.W.kitAny K (.type t) [.type "list", .type "tuple"] = some (t == "list" || t == "tuple") := by
      have h1 : kb t "list" = (t == "list") := by simp [kb]
      have h2 : kb t "tuple" = (t == "tuple") := by simp [kb]
      refine kitAny_cons (b1.kit (u := "list") (by decide)) (fun z => ?_) (fun z => ?_)
      · rw [h1] at z
        refine kitAny_cons (b1.kit (u := "tuple") (by decide)) (fun y => ?_) (fun y => ?_)
        · rw [h2] at y
          rw [z, y]
          exact kitAny_nil
        · rw [h2] at y
          rw [y, Bool.or_true]
      · rw [h1] at z
        rw [z, Bool.true_or]
    exact ⟨v, p, _, _, _, _, rfl, e1, .cons (.ty _) (.cons (.ty _) .nil), b1.ty, kk, k _ s1⟩
end
end Mine

set_option maxRecDepth 100000
set_option maxHeartbeats 4000000
namespace Mine
open PySem L2
abbrev s_are_counts : Stmt := top 19
abbrev s_are_operations : Stmt := top 20
abbrev s_word_of : Stmt := top 22
abbrev s_are_nexts : Stmt := top 23
abbrev s_line_of : Stmt := top 39
abbrev s_is_line : Stmt := top 38
structure TxtG (K : PySem.W.Frag) (mg : Str → Option Value) (a_is_row a_is_index a_is_name a_is_text_in a_are_counts a_word_of a_are_nexts a_is_line a_line_of a_are_operations : Addr) : Prop where
  c_MOST_OPERATIONS : ∃ t, mg "MOST_OPERATIONS" = some (.int 8 t)
  c_MOST_ANSWERS : ∃ t, mg "MOST_ANSWERS" = some (.int 6 t)
  g_is_row : mg "is_row" = some (.ref a_is_row)
  k_is_row : PySem.W.keepIn K (.ref a_is_row) = true
  g_is_index : mg "is_index" = some (.ref a_is_index)
  k_is_index : PySem.W.keepIn K (.ref a_is_index) = true
  g_is_name : mg "is_name" = some (.ref a_is_name)
  k_is_name : PySem.W.keepIn K (.ref a_is_name) = true
  g_is_text_in : mg "is_text_in" = some (.ref a_is_text_in)
  k_is_text_in : PySem.W.keepIn K (.ref a_is_text_in) = true
  g_are_counts : mg "are_counts" = some (.ref a_are_counts)
  k_are_counts : PySem.W.keepIn K (.ref a_are_counts) = true
  g_word_of : mg "word_of" = some (.ref a_word_of)
  k_word_of : PySem.W.keepIn K (.ref a_word_of) = true
  g_are_nexts : mg "are_nexts" = some (.ref a_are_nexts)
  k_are_nexts : PySem.W.keepIn K (.ref a_are_nexts) = true
  g_is_line : mg "is_line" = some (.ref a_is_line)
  k_is_line : PySem.W.keepIn K (.ref a_is_line) = true
  g_line_of : mg "line_of" = some (.ref a_line_of)
  k_line_of : PySem.W.keepIn K (.ref a_line_of) = true
  g_are_operations : mg "are_operations" = some (.ref a_are_operations)
  k_are_operations : PySem.W.keepIn K (.ref a_are_operations) = true
theorem globI {X : Cx} {x : Str} {i : Int} {pos : Pos} (hg : Gl X x) (h : ∃ t, X.mg x = some (.int i t)) (hd : (x == ("__debug__" : Str)) = false := by decide) : PE X (.Name x pos) (tC (.int i)) := by
  obtain ⟨t, e⟩ := h
  exact pe_glob hg e ⟨t, rfl⟩ hd
theorem globS {X : Cx} {x y : Str} {pos : Pos} (hg : Gl X x) (h : ∃ t, X.mg x = some (.str y t)) (hd : (x == ("__debug__" : Str)) = false := by decide) : PE X (.Name x pos) (tC (.str y)) := by
  obtain ⟨t, e⟩ := h
  exact pe_glob hg e ⟨t, rfl⟩ hd
/-- the letters of a text are looked at one by one -/
def lets (x : Str) (i : Nat) : List Bool := (x.cps.toList.take i).map fun c => decide (c ∈ lettersS.cps.toList)
theorem lets_succ {x : Str} {i c : Nat} (h : x.cps[i]? = some c) : lets x (i + 1) = lets x i ++ [decide (c ∈ lettersS.cps.toList)] := by
  have h' : x.cps.toList[i]? = some c := by rw [← h]; simp
  unfold lets
  rw [List.take_add_one, h', List.map_append]
  rfl
theorem lets_all (x : Str) : (lets x x.cps.size).all id = x.cps.toList.all fun c => decide (c ∈ lettersS.cps.toList) := by
  unfold lets
  rw [show x.cps.size = x.cps.toList.length by simp, List.take_length, List.all_map]
  rfl
section
variable {P : Program} {w : World} {K : PySem.W.Frag} {mg : Str → Option Value} {base : Heap}
variable {fII fIW : Addr}
theorem sc_is_name : FnScope ["thing", "letter"] ["thing"] (defScope s_is_name) := ⟨rfl, rfl, rfl, by decide +kernel, rfl, by decide +kernel, by decide +kernel⟩
theorem ok_is_name {f : Addr} {fd : FuncData} (F : Fun K "is_name" "is_name" s_is_name f fd) (T : TxtF K mg fII fIW) : FnOk P w K mg base CX0 1 f fd ["thing"] (spName K) := by
  refine F.ok sc_is_name (fun vs H Q E h => ?_) (fun cdv A outer s H vs Q E hr h => ?_)
  · obtain ⟨v, t, rfl, _⟩ := h
    rfl
  · obtain ⟨v, t, rfl, b, sz, k⟩ := h
    refine ⟨_, (pss_cons (ps_if (PW.pt (pw_or (pt_not (pt_val (pe_callB call_isi (by rfl) T.b_isinstance (by decide +kernel) (pa_cons (pv 0) (pa_cons (pe_bltn (v := .ty "str") rfl T.b_str (by decide +kernel) rfl) pa_nil))))) (pw_or1 (pt_not (pt_chain op_le op_le pe_int (pe_callB call_len_str (by rfl) T.b_len PySem.boot_len (pa_cons (pv 0) pa_nil)) (globI rfl T.c_LONGEST_NAME)))))) (pss_one (ps_ret pe_bl)) pss_nil)
      (pss_one (ps_ret (pe_callB (cr_all rfl) (by rfl) T.b_all (by decide +kernel) (pa_cons (pe_lc (own := [("letter", 1)]) (g := gName 1) (tt := tYes) rfl sc_is_name.nd (pi_str (pv 0)) (blkOk_by (own := [("letter", 1)]) (N := ["thing", "letter"]) (sc := defScope s_is_name) (by decide +kernel)) (fun _ _ _ _ _ => pg_name (i := 1) sc_is_name.nd rfl (Or.inl rfl)) (fun _ _ _ _ _ => pts_nil) (fun _ _ _ _ _ => (pe_cmpR op_in_sign (pv 1) (globS rfl T.c_LETTERS) (by rfl)))) pa_nil))))), ?_⟩
    have hk : ∀ t', (kb t' "str") = (t' == "str") := fun t' => by simp [kb]
    refine ⟨_, rfl, v, _, _, _, _, rfl, .ty _, b.ty, b.kit (u := "str") (by decide), _, rfl, ?_⟩
    rw [hk]
    by_cases h1 : (t == "str") = true
    · obtain ⟨x, rfl⟩ := b.str h1
      rw [h1]
      refine iteF ?_
      refine ⟨_, rfl, ?_⟩
      refine ⟨x, rfl, sz x rfl, _, _, rfl, rfl, _, rfl, ?_⟩
      have bad : ¬ (1 ≤ x.length ∧ x.length ≤ 8) → isNm x = false := fun z => by
        unfold isNm
        by_cases y : 1 ≤ x.length
        · rw [decide_eq_true y, decide_eq_false (fun u => z ⟨y, u⟩)]
          rfl
        · rw [decide_eq_false y]
          rfl
      by_cases h2 : 1 ≤ x.length
      · rw [decide_eq_true (show (1 : Int) ≤ (x.length : Int) by omega)]
        refine iteT ?_
        refine ⟨_, _, rfl, rfl, _, rfl, ?_⟩
        by_cases h3 : x.length ≤ 8
        · rw [decide_eq_true (show (x.length : Int) ≤ 8 by omega)]
          refine iteF ?_
          refine ⟨_, rfl, x, rfl, fun D nD => lc_it walk_str (fun i Hx => Same H Hx ∧ Hx D = some (.lst ((lets x i).map V.bl))) ⟨sameNew nD _, upd_same⟩ (fun _ _ _ _ => trivial) (fun i y Ha Hb hi z1 z2 => ?_) fun Hx z => ?_⟩
          · obtain ⟨sx, ex⟩ := z1
            obtain ⟨rfl, c, hc, rfl⟩ := z2
            refine ⟨rfl, _, rfl, c, lettersS, rfl, rfl, _, ex, ?_, fun b o e => ?_, ?_⟩
            · rw [List.length_map]
              show ((x.cps.toList.take i).map _).length < _
              rw [List.length_map, List.length_take, sizeLine_eq]
              have : x.cps.toList.length ≤ 8 := by
                have : x.length = x.cps.toList.length := by simp [Str.length]
                omega
              omega
            · rw [upd_ne (ne_of_none e nD)]
              exact sx _ _ e
            · rw [lets_succ hc, List.map_append]
              exact upd_same
          · obtain ⟨sx, ex⟩ := z
            refine ⟨D, _, rfl, SqL.of ex, ?_⟩
            rw [lets_all]
            have e : nameV (.str x) = x.cps.toList.all fun c => decide (c ∈ lettersS.cps.toList) := by
              show isNm x = _
              unfold isNm
              rw [decide_eq_true h2, decide_eq_true h3, Bool.true_and, Bool.true_and]
            rw [← e]
            exact k _ sx
        · rw [decide_eq_false (show ¬ (x.length : Int) ≤ 8 by omega)]
          refine iteT ?_
          have e : nameV (.str x) = false := bad fun z => h3 z.2
          rw [e] at k
          exact k _ (Same.refl _)
      · rw [decide_eq_false (show ¬ (1 : Int) ≤ (x.length : Int) by omega)]
        refine iteF ?_
        refine ⟨_, rfl, ?_⟩
        refine iteT ?_
        have e : nameV (.str x) = false := bad fun z => h2 z.1
        rw [e] at k
        exact k _ (Same.refl _)
    · rw [Bool.eq_false_iff.mpr h1]
      refine iteT ?_
      have e := nameV_of b (Bool.eq_false_iff.mpr h1)
      rw [e] at k
      exact k _ (Same.refl _)
end
end Mine

set_option maxRecDepth 100000
set_option maxHeartbeats 4000000
namespace L2
open PySem PySem.Spec PyProof.Rows
/-- a list or a tuple -/
def SqA (H : Hp) (a : Addr) (xs : List V) : Prop := H a = some (.lst xs) ∨ H a = some (.tup xs)
theorem Same.sqa {H H' : Hp} {a : Addr} {xs : List V} (s : Same H H') (h : SqA H a xs) : SqA H' a xs := h.elim (fun h => .inl (s _ _ h)) fun h => .inr (s _ _ h)
theorem SqA.ix {K : PySem.W.Frag} {H : Hp} {a : Addr} {xs : List V} {i : Int} {v : V} {Q : VK} (h : SqA H a xs) (e : atI xs i = some v) (q : Q v H) : rIx K (.ref a) (.int i) H Q := by
  rcases h with h | h
  · exact .inl ⟨a, xs, i, v, rfl, rfl, SqL.of h, e, q⟩
  · exact .inr (.inl ⟨a, xs, i, v, rfl, rfl, .inl (.inl h), e, q⟩)
theorem SqA.sq {K : PySem.W.Frag} {H : Hp} {a : Addr} {xs : List V} (h : SqA H a xs) : SqL K H a xs ∨ SqT K H a xs := h.elim (fun h => .inl (SqL.of h)) fun h => .inr (.inl (.inl h))
theorem pi_or {X : Cx} {tg iter : Expr} {w1 w2 : TI} (h1 : PI X tg iter w1) (h2 : PI X tg iter w2) : PI X tg iter (fun σ H R => w1 σ H R ∨ w2 σ H R) :=
  ⟨fun pins s σ H R I h => h.elim (h1.run pins s σ H R I) (h2.run pins s σ H R I)⟩
def iSeq (K : PySem.W.Frag) (tl : TE) : TI := fun σ H R => iList K tl σ H R ∨ iTup K tl σ H R
theorem pi_seq {X : Cx} {tg l : Expr} {tl : TE} (hl : PE X l tl) : PI X tg l (iSeq X.K tl) := pi_or (pi_list hl) (pi_tup hl)
theorem same_unlock {H Hx : Hp} {a : Addr} {u : HO} {od : Obj} (e : H a = some u) (s : Same (upd H a (.frz od u)) Hx) : Same H (upd Hx a u) := fun b o h => by
  by_cases z : b = a
  · subst z
    rw [e] at h
    rw [upd_same, h]
  · rw [upd_ne z]
    exact s b o (by rw [upd_ne z]; exact h)
end L2
namespace Mine
open PySem L2
abbrev Ops := List (Str × Int)
def opsK (o : Ops) : List (Key × V) := o.map fun p => (Sum.inr p.1, V.int p.2)
def opLook (o : Ops) (x : Str) : Option Int := (o.find? fun p => decide (p.1 = x)).map (·.2)
theorem val_ops (o : Ops) (x : Str) : valV (opsK o) (.inr x) = (opLook o x).map V.int := by
  unfold valV opsK opLook
  induction o with
  | nil => rfl
  | cons p o ih =>
    by_cases h : p.1 = x
    · simp [h]
    · have h2 : ¬ (Sum.inr p.1 : Key) = Sum.inr x := fun z => h (Sum.inr.inj z)
      simp only [List.map_cons, List.find?_cons, decide_eq_false h, decide_eq_false h2]
      exact ih
/-- operations that are right -/
structure OkOps (o : Ops) : Prop where
  few : o.length ≤ 8
  each : ∀ p ∈ o, isNm p.1 = true ∧ 0 ≤ p.2 ∧ p.2 ≤ 6
  nd : (o.map (·.1)).Nodup
def spCounts : Sp := fun vs H Q _ => ∃ (a : Addr) (o : Ops) (most lo hi : Int), vs = [.ref a, .int most, .int lo, .int hi] ∧ H a = some (.dK (opsK o)) ∧ (o.length : Int) ≤ most ∧ o.length ≤ 1000 ∧ (∀ p ∈ o, isNm p.1 = true ∧ lo ≤ p.2 ∧ p.2 ≤ hi) ∧ ∀ H', Same H H' → Q (.bl true) H'
def spOps : Sp := fun vs H Q _ => ∃ (a : Addr) (o : Ops), vs = [.ref a] ∧ H a = some (.dK (opsK o)) ∧ OkOps o ∧ ∀ H', Same H H' → Q (.bl true) H'
/-- what a row of a body says -/
inductive RowD where
  | ask (op : Str) (ns : List Int)
  | go (n : Int)
  | fin (w : Str)
/-- the row stands there, in lists or tuples -/
def RowAt (H : Hp) (v : V) : RowD → Prop
  | .ask op ns => ∃ a t, v = .ref a ∧ SqA H a [.str "ask", .str op, .ref t] ∧ SqA H t (ns.map V.int)
  | .go n => ∃ a, v = .ref a ∧ SqA H a [.str "go", .int n]
  | .fin w => ∃ a, v = .ref a ∧ SqA H a [.str "end", .str w]
/-- .. in tuples -/
def TRow (H : Hp) (v : V) : RowD → Prop
  | .ask op ns => ∃ a t, v = .ref a ∧ H a = some (.tup [.str "ask", .str op, .ref t]) ∧ H t = some (.tup (ns.map V.int))
  | .go n => ∃ a, v = .ref a ∧ H a = some (.tup [.str "go", .int n])
  | .fin w => ∃ a, v = .ref a ∧ H a = some (.tup [.str "end", .str w])
theorem RowAt.same {H H' : Hp} {v : V} {r : RowD} (s : Same H H') (h : RowAt H v r) : RowAt H' v r := by
  cases r with
  | ask op ns =>
    obtain ⟨a, t, e, h1, h2⟩ := h
    exact ⟨a, t, e, s.sqa h1, s.sqa h2⟩
  | go n =>
    obtain ⟨a, e, h1⟩ := h
    exact ⟨a, e, s.sqa h1⟩
  | fin w =>
    obtain ⟨a, e, h1⟩ := h
    exact ⟨a, e, s.sqa h1⟩
theorem TRow.same {H H' : Hp} {v : V} {r : RowD} (s : Same H H') (h : TRow H v r) : TRow H' v r := by
  cases r with
  | ask op ns =>
    obtain ⟨a, t, e, h1, h2⟩ := h
    exact ⟨a, t, e, s _ _ h1, s _ _ h2⟩
  | go n =>
    obtain ⟨a, e, h1⟩ := h
    exact ⟨a, e, s _ _ h1⟩
  | fin w =>
    obtain ⟨a, e, h1⟩ := h
    exact ⟨a, e, s _ _ h1⟩
theorem TRow.row {H : Hp} {v : V} {r : RowD} (h : TRow H v r) : RowAt H v r := by
  cases r with
  | ask op ns =>
    obtain ⟨a, t, e, h1, h2⟩ := h
    exact ⟨a, t, e, .inr h1, .inr h2⟩
  | go n =>
    obtain ⟨a, e, h1⟩ := h
    exact ⟨a, e, .inr h1⟩
  | fin w =>
    obtain ⟨a, e, h1⟩ := h
    exact ⟨a, e, .inr h1⟩
/-- the row is one of a body with these operations and so many rows -/
def OkRow (o : Ops) (many : Int) : RowD → Prop
  | .ask op ns => opLook o op = some (ns.length : Int) ∧ ns.length ≤ 1000 ∧ ∀ n ∈ ns, 0 ≤ n ∧ n < many
  | .go n => 0 ≤ n ∧ n < many
  | .fin w => isNm w = true ∧ w.length ≤ 8
def spWord : Sp := fun vs H Q _ => ∃ (a : Addr) (x : Str) (xs : List V), vs = [.ref a] ∧ SqA H a (.str x :: xs) ∧ ∀ H', Same H H' → Q (.str x) H'
def spNexts : Sp := fun vs H Q _ => ∃ (t d : Addr) (ns : List Int) (op : Str) (o : Ops) (many : Int), vs = [.ref t, .str op, .ref d, .int many] ∧ SqA H t (ns.map V.int) ∧ Rd H d (.dK (opsK o)) ∧
  opLook o op = some (ns.length : Int) ∧ ns.length ≤ 1000 ∧ (∀ n ∈ ns, 0 ≤ n ∧ n < many) ∧ ∀ H', Same H H' → Q (.bl true) H'
def spIsLine : Sp := fun vs H Q _ => ∃ (v : V) (d : Addr) (o : Ops) (many : Int) (r : RowD), vs = [v, .ref d, .int many] ∧ RowAt H v r ∧ Rd H d (.dK (opsK o)) ∧ OkRow o many r ∧ ∀ H', Same H H' → Q (.bl true) H'
def spLineOf : Sp := fun vs H Q _ => ∃ (v : V) (r : RowD), vs = [v] ∧ RowAt H v r ∧ ∀ (v' : V) (H' : Hp), Same H H' → TRow H' v' r → Q v' H'
theorem inW_int {i lo hi : Int} (h1 : lo ≤ i) (h2 : i ≤ hi) : inW (.int i) lo hi = true := by
  show (decide (lo ≤ i) && decide (i ≤ hi)) = true
  rw [decide_eq_true h1, decide_eq_true h2]
  rfl
theorem btInt {K : PySem.W.Frag} {H : Hp} (i : Int) : Bt K H (.int i) "int" := ⟨.base (.int i), by decide⟩
theorem btStr {K : PySem.W.Frag} {H : Hp} (x : Str) : Bt K H (.str x) "str" := ⟨.base (.str x), by decide⟩
theorem btSeq {K : PySem.W.Frag} {H : Hp} {a : Addr} {xs : List V} (h : SqA H a xs) : ∃ t, Bt K H (.ref a) t ∧ (t == "list" || t == "tuple") = true := by
  rcases h with h | h
  · exact ⟨"list", ⟨.base (.lst h), by decide⟩, by decide⟩
  · exact ⟨"tuple", ⟨.base (.tup h), by decide⟩, by decide⟩
theorem nm_len {x : Str} (h : isNm x = true) : x.length ≤ 8 := by
  unfold isNm at h
  rw [Bool.and_eq_true, Bool.and_eq_true] at h
  exact of_decide_eq_true h.1.2
theorem trues_all (n : Nat) : (List.replicate n true).all id = true := by simp
theorem trues_map (n : Nat) : (List.replicate n true).map V.bl = List.replicate n (V.bl true) := by simp
section
variable {P : Program} {w : World} {K : PySem.W.Frag} {mg : Str → Option Value} {base : Heap}
variable {fII fIW a_is_row a_is_index a_is_name a_is_text_in a_are_counts a_word_of a_are_nexts a_is_line a_line_of a_are_operations : Addr}
theorem sc_is_text_in : FnScope ["thing", "table"] ["thing", "table"] (defScope s_is_text_in) := ⟨rfl, rfl, rfl, by decide +kernel, rfl, by decide +kernel, by decide +kernel⟩
theorem ok_is_text_in {f : Addr} {fd : FuncData} (F : Fun K "is_text_in" "is_text_in" s_is_text_in f fd) (T : TxtF K mg fII fIW) : FnOk P w K mg base CX0 1 f fd ["thing", "table"] (spTextIn K) := by
  refine F.ok sc_is_text_in (fun vs H Q E h => ?_) (fun cdv A outer s H vs Q E hr h => ?_)
  · obtain ⟨v, t, d, kvs, rfl, _⟩ := h
    rfl
  · obtain ⟨v, t, d, kvs, rfl, b, hd, k⟩ := h
    refine ⟨_, (pss_one (ps_ret (pe_and (pe_callB call_isi (by rfl) T.b_isinstance (by decide +kernel) (pa_cons (pv 0) (pa_cons (pe_bltn (v := .ty "str") rfl T.b_str (by decide +kernel) rfl) pa_nil))) (pe_one (pe_cmp (pc_din (hu_of hr) (pv 0) (pv 1)) rfl))))), ?_⟩
    have hk : (kb t "str") = (t == "str") := by simp [kb]
    refine ⟨_, rfl, v, _, _, _, _, rfl, .ty _, b.ty, b.kit (u := "str") (by decide), _, rfl, ?_⟩
    rw [hk]
    by_cases h1 : (t == "str") = true
    · obtain ⟨x, rfl⟩ := b.str h1
      rw [h1]
      refine iteT ?_
      exact ⟨_, rfl, _, rfl, d, _, rfl, .inl ⟨kvs, .inr x, hd, rfl, rfl⟩, k⟩
    · rw [Bool.eq_false_iff.mpr h1]
      refine iteF ?_
      have e : hasT kvs v = false := by
        cases b.ty with
        | base z => cases z <;> first | rfl | (exact absurd (by decide) h1)
        | _ => rfl
      rw [e] at k
      exact k
theorem sc_are_counts : FnScope ["thing", "most", "low", "high", "name", "many"] ["thing", "most", "low", "high"] (defScope s_are_counts) := ⟨rfl, rfl, rfl, by decide +kernel, rfl, by decide +kernel, by decide +kernel⟩
theorem ok_are_counts {f : Addr} {fd fd_is_name fd_is_integer fd_is_within : FuncData} (F : Fun K "are_counts" "are_counts" s_are_counts f fd) (T : TxtF K mg fII fIW) (TG : TxtG K mg a_is_row a_is_index a_is_name a_is_text_in a_are_counts a_word_of a_are_nexts a_is_line a_line_of a_are_operations)
    (F_is_name : Fun K "is_name" "is_name" s_is_name a_is_name fd_is_name) (b_is_name : Binds K fd_is_name ["thing"] []) (FI : Fun K "is_integer" "is_integer" s_is_integer fII fd_is_integer) (bI : Binds K fd_is_integer ["thing"] [])
    (FW : Fun K "is_within" "is_within" s_is_within fIW fd_is_within) (b_is_within : Binds K fd_is_within ["thing", "low", "high"] []) : FnOk P w K mg base CX0 3 f fd ["thing", "most", "low", "high"] spCounts := by
  have GN : FnOk P w K mg base CX0 1 a_is_name fd_is_name ["thing"] (spName K) := ok_is_name F_is_name T
  have GW : FnOk P w K mg base CX0 2 fIW fd_is_within ["thing", "low", "high"] (spWithin K) := ok_is_within FW T FI bI
  refine F.ok sc_are_counts (fun vs H Q E h => ?_) (fun cdv A outer s H vs Q E hr h => ?_)
  · obtain ⟨a, o, most, lo, hi, rfl, _⟩ := h
    rfl
  · obtain ⟨a, o, most, lo, hi, rfl, ha, l1, l2, all, k⟩ := h
    refine ⟨_, (pss_cons (ps_if (PW.pt (pw_or (pt_not (pt_val (pe_callB call_isi (by rfl) T.b_isinstance (by decide +kernel) (pa_cons (pv 0) (pa_cons (pe_bltn (v := .ty "dict") rfl T.b_dict (by decide +kernel) rfl) pa_nil))))) (pw_or1 (pt_cmpR op_gt (pe_callB call_lenD (by rfl) T.b_len PySem.boot_len (pa_cons (pv 0) pa_nil)) (pv 1) (nomark _))))) (pss_one (ps_ret pe_bl)) pss_nil)
      (pss_one (ps_ret (pe_callB (cr_all rfl) (by rfl) T.b_all (by decide +kernel) (pa_cons (pe_lock (pe_lc (own := [("name", 4), ("many", 5)]) (g := gTup K 2 (gCons (gName 4) (gCons (gName 5) gNil))) (tt := tYes) rfl sc_are_counts.nd (pi_items (pv 0)) (blkOk_by (own := [("name", 4), ("many", 5)]) (N := ["thing", "most", "low", "high", "name", "many"]) (sc := defScope s_are_counts) (by decide +kernel)) (fun _ _ _ _ _ => pg_tup rfl (pgs_cons (pg_name (i := 4) sc_are_counts.nd rfl (Or.inl rfl)) (pgs_cons (pg_name (i := 5) sc_are_counts.nd rfl (Or.inl rfl)) pgs_nil))) (fun _ _ _ _ _ => pts_nil) (fun _ _ _ _ _ => (pe_and (pe_call GN (hr.mono (by decide)) (by rfl) TG.g_is_name TG.k_is_name b_is_name .nil pass0 (pa_cons (pv 4) pa_nil)) (pe_one (pe_call GW hr (by rfl) T.g_is_within T.k_is_within b_is_within .nil pass0 (pa_cons (pv 5) (pa_cons (pv 2) (pa_cons (pv 3) pa_nil))))))))) pa_nil))))), ?_⟩
    have bD : Bt K H (.ref a) "dict" := ⟨.base (.dK ha), by decide⟩
    refine ⟨_, rfl, _, _, _, _, _, rfl, .ty _, bD.ty, bD.kit (u := "dict") (by decide), _, rfl, ?_⟩
    refine iteF ?_
    refine ⟨_, rfl, a, _, rfl, ha, _, rfl, _, _, rfl, rfl, _, rfl, ?_⟩
    have lk : (opsK o).length = o.length := List.length_map ..
    rw [lk, decide_eq_false (show ¬ most < (o.length : Int) by omega)]
    refine iteF ?_
    refine ⟨a, _, ha, trivial, fun od => ⟨_, rfl, a, od, opsK o, rfl, upd_same, fun D nD => lc_it walk_items (fun i Hx => Same (upd H a (.frz od (.dK (opsK o)))) Hx ∧ Hx D = some (.lst (List.replicate i (V.bl true)))) ⟨sameNew nD _, upd_same⟩ (fun i Hx _ z => z.1 _ _ upd_same) (fun i y Ha Hb hi' z1 z2 => ?_) fun Hx z => ?_⟩⟩
    · obtain ⟨sx, ex⟩ := z1
      obtain ⟨T', x, y, rfl, nT, rfl, h1, h2⟩ := z2
      have hi2 : i < o.length := by rw [← lk]; exact hi'
      have e1 : (opsK o)[i]? = some (Sum.inr (o[i]).1, V.int (o[i]).2) := by
        unfold opsK
        rw [List.getElem?_map, List.getElem?_eq_getElem hi2]
        rfl
      dsimp only at h1 h2
      rw [e1] at h1 h2
      have h1' : V.str (o[i]).1 = x := Option.some.inj h1
      have h2' : V.int (o[i]).2 = y := Option.some.inj h2
      subst h1' h2'
      obtain ⟨g1, g2, g3⟩ := all _ (List.getElem_mem hi2)
      refine ⟨T', _, rfl, .inl (.inl upd_same), rfl, _, _, rfl, _, _, rfl, rfl, rfl, ?_⟩
      refine ⟨_, rfl, _, _, rfl, btStr _, fun x' e' => ?_, fun Hy sy => ⟨_, rfl, ?_⟩⟩
      · have e2 : (o[i]).1 = x' := V.str.inj e'
        rw [← e2]
        have := nm_len g1
        rw [sizeLine_eq]
        omega
      · rw [show nameV (.str (o[i]).1) = true from g1]
        refine iteT ?_
        refine ⟨_, rfl, _, rfl, _, rfl, _, _, _, _, rfl, btInt _, ?_⟩
        rw [inW_int g2 g3]
        have exy := sy _ _ (show upd Ha T' _ D = _ by rw [upd_ne (ne_of_none ex nT)]; exact ex)
        refine ⟨_, exy, ?_, fun b u e => ?_, ?_⟩
        · rw [List.length_replicate, sizeLine_eq]
          omega
        · have nb : b ≠ D := fun z => by
            rw [z] at e
            exact absurd (e.symm.trans nD) (by simp)
          rw [upd_ne nb]
          exact sy _ _ (by rw [upd_ne (ne_of_none (sx _ _ e) nT)]; exact sx _ _ e)
        · rw [List.replicate_succ']
          exact upd_same
    · obtain ⟨sx, ex⟩ := z
      have nDa : D ≠ a := fun z => by
        rw [z, upd_same] at nD
        cases nD
      refine ⟨sx _ _ upd_same, D, List.replicate (opsK o).length true, rfl, SqL.of (by rw [upd_ne nDa, trues_map]; exact ex), ?_⟩
      rw [trues_all]
      exact k _ (same_unlock ha sx)
end
end Mine

set_option maxRecDepth 100000
set_option maxHeartbeats 4000000
namespace Mine
open PySem L2
theorem at0' {α : Type} {a : α} {l : List α} : atI (a :: l) 0 = some a := atI_nat (j := 0) rfl
theorem at1' {α : Type} {a b : α} {l : List α} : atI (a :: b :: l) 1 = some b := atI_nat (j := 1) rfl
theorem at2' {α : Type} {a b c : α} {l : List α} : atI (a :: b :: c :: l) 2 = some c := atI_nat (j := 2) rfl
theorem nx_all {ns : List Int} {t : Addr} : (ns.map V.int).length = ns.length := List.length_map ..
section
variable {P : Program} {w : World} {K : PySem.W.Frag} {mg : Str → Option Value} {base : Heap}
variable {fII fIW a_is_row a_is_index a_is_name a_is_text_in a_are_counts a_word_of a_are_nexts a_is_line a_line_of a_are_operations : Addr}
theorem sc_are_operations : FnScope ["thing"] ["thing"] (defScope s_are_operations) := ⟨rfl, rfl, rfl, by decide +kernel, rfl, by decide +kernel, by decide +kernel⟩
theorem ok_are_operations {f : Addr} {fd fd_are_counts : FuncData} (F : Fun K "are_operations" "are_operations" s_are_operations f fd) (TG : TxtG K mg a_is_row a_is_index a_is_name a_is_text_in a_are_counts a_word_of a_are_nexts a_is_line a_line_of a_are_operations)
    (GC : FnOk P w K mg base CX0 3 a_are_counts fd_are_counts ["thing", "most", "low", "high"] spCounts) (b_are_counts : Binds K fd_are_counts ["thing", "most", "low", "high"] []) : FnOk P w K mg base CX0 4 f fd ["thing"] spOps := by
  refine F.ok sc_are_operations (fun vs H Q E h => ?_) (fun cdv A outer s H vs Q E hr h => ?_)
  · obtain ⟨a, o, rfl, _⟩ := h
    rfl
  · obtain ⟨a, o, rfl, ha, ok, k⟩ := h
    refine ⟨_, (pss_one (ps_ret (pe_call GC (hr.mono (by decide)) (by rfl) TG.g_are_counts TG.k_are_counts b_are_counts .nil pass0 (pa_cons (pv 0) (pa_cons (globI rfl TG.c_MOST_OPERATIONS) (pa_cons pe_int (pa_cons (globI rfl TG.c_MOST_ANSWERS) pa_nil))))))), ?_⟩
    have := ok.few
    exact ⟨_, rfl, a, o, 8, 0, 6, rfl, ha, by omega, by omega, ok.each, k⟩
theorem sc_word_of : FnScope ["row"] ["row"] (defScope s_word_of) := ⟨rfl, rfl, rfl, by decide +kernel, rfl, by decide +kernel, by decide +kernel⟩
theorem ok_word_of {f : Addr} {fd fd_is_row : FuncData} (F : Fun K "word_of" "word_of" s_word_of f fd) (T : TxtF K mg fII fIW) (TG : TxtG K mg a_is_row a_is_index a_is_name a_is_text_in a_are_counts a_word_of a_are_nexts a_is_line a_line_of a_are_operations)
    (GR : FnOk P w K mg base CX0 1 a_is_row fd_is_row ["thing"] (spIsRow K)) (b_is_row : Binds K fd_is_row ["thing"] []) : FnOk P w K mg base CX0 2 f fd ["row"] spWord := by
  refine F.ok sc_word_of (fun vs H Q E h => ?_) (fun cdv A outer s H vs Q E hr h => ?_)
  · obtain ⟨a, x, xs, rfl, _⟩ := h
    rfl
  · obtain ⟨a, x, xs, rfl, ha, k⟩ := h
    refine ⟨_, (pss_cons (ps_if (PW.pt (pw_and (pt_val (pe_call GR (hr.mono (by decide)) (by rfl) TG.g_is_row TG.k_is_row b_is_row .nil pass0 (pa_cons (pv 0) pa_nil))) (pw_and (pt_cmpR op_gt (pe_callB call_len_seq (by rfl) T.b_len PySem.boot_len (pa_cons (pv 0) pa_nil)) pe_int (nomark _)) (pw_and1 (pt_val (pe_callB call_isi (by rfl) T.b_isinstance (by decide +kernel) (pa_cons (pe_ix ix_seq (pv 0) pe_int (fun _ _ => rfl)) (pa_cons (pe_bltn (v := .ty "str") rfl T.b_str (by decide +kernel) rfl) pa_nil)))))))) (pss_one (ps_ret (pe_ix ix_seq (pv 0) pe_int (fun _ _ => rfl)))) pss_nil)
      (pss_one (ps_ret pe_str))), ?_⟩
    obtain ⟨t, b, e⟩ := btSeq (K := K) ha
    refine ⟨_, rfl, _, t, rfl, b, fun H1 s1 => ⟨_, rfl, ?_⟩⟩
    rw [e]
    refine iteT ?_
    have ha1 := s1.sqa ha
    refine ⟨_, rfl, a, _, rfl, ha1.sq, _, _, rfl, rfl, _, rfl, ?_⟩
    rw [decide_eq_true (show (0 : Int) < (((V.str x :: xs).length : Nat) : Int) by rw [List.length_cons]; omega)]
    refine iteT ?_
    refine ⟨_, rfl, ha1.ix at0' ?_⟩
    refine ⟨_, _, _, _, _, rfl, .ty _, (btStr (K := K) (H := H1) x).ty, (btStr (K := K) (H := H1) x).kit (u := "str") (by decide), _, rfl, ?_⟩
    refine iteT ?_
    exact ⟨_, rfl, ha1.ix at0' (k _ s1)⟩
theorem sc_are_nexts : FnScope ["nexts", "operation", "counts", "many", "index"] ["nexts", "operation", "counts", "many"] (defScope s_are_nexts) := ⟨rfl, rfl, rfl, by decide +kernel, rfl, by decide +kernel, by decide +kernel⟩
theorem ok_are_nexts {f : Addr} {fd fd_is_row fd_is_index : FuncData} (F : Fun K "are_nexts" "are_nexts" s_are_nexts f fd) (T : TxtF K mg fII fIW) (TG : TxtG K mg a_is_row a_is_index a_is_name a_is_text_in a_are_counts a_word_of a_are_nexts a_is_line a_line_of a_are_operations)
    (GR : FnOk P w K mg base CX0 1 a_is_row fd_is_row ["thing"] (spIsRow K)) (b_is_row : Binds K fd_is_row ["thing"] [])
    (GI : FnOk P w K mg base CX0 3 a_is_index fd_is_index ["thing", "many"] (spIndex K)) (b_is_index : Binds K fd_is_index ["thing", "many"] []) : FnOk P w K mg base CX0 4 f fd ["nexts", "operation", "counts", "many"] spNexts := by
  refine F.ok sc_are_nexts (fun vs H Q E h => ?_) (fun cdv A outer s H vs Q E hr h => ?_)
  · obtain ⟨t, d, ns, op, o, many, rfl, _⟩ := h
    rfl
  · obtain ⟨t, d, ns, op, o, many, rfl, ht, hd, hl, l2, all, k⟩ := h
    refine ⟨_, (pss_cons (ps_if (PW.pt (pw_or (pt_not (pt_val (pe_call GR (hr.mono (by decide)) (by rfl) TG.g_is_row TG.k_is_row b_is_row .nil pass0 (pa_cons (pv 0) pa_nil)))) (pw_or1 (pt_cmpR op_ne (pe_callB call_len_seq (by rfl) T.b_len PySem.boot_len (pa_cons (pv 0) pa_nil)) (pe_dget (hu_of hr) (pv 2) (pv 1) (fun _ _ => rfl)) (nomark _))))) (pss_one (ps_ret pe_bl)) pss_nil)
      (pss_one (ps_ret (pe_callB (cr_all rfl) (by rfl) T.b_all (by decide +kernel) (pa_cons (pe_lc (own := [("index", 4)]) (g := gName 4) (tt := tYes) (wi := iSeq K (tVar 0)) rfl sc_are_nexts.nd (pi_seq (pv 0)) (blkOk_by (own := [("index", 4)]) (N := ["nexts", "operation", "counts", "many", "index"]) (sc := defScope s_are_nexts) (by decide +kernel)) (fun _ _ _ _ _ => pg_name (i := 4) sc_are_nexts.nd rfl (Or.inl rfl)) (fun _ _ _ _ _ => pts_nil) (fun _ _ _ _ _ => (pe_call GI (hr.mono (by decide)) (by rfl) TG.g_is_index TG.k_is_index b_is_index .nil pass0 (pa_cons (pv 4) (pa_cons (pv 3) pa_nil))))) pa_nil))))), ?_⟩
    obtain ⟨ty, b, e⟩ := btSeq (K := K) ht
    refine ⟨_, rfl, _, ty, rfl, b, fun H1 s1 => ⟨_, rfl, ?_⟩⟩
    rw [e]
    refine iteF ?_
    have ht1 := s1.sqa ht
    have hd1 : Rd H1 d (.dK (opsK o)) := hd.elim (fun z => .inl (s1 _ _ z)) fun ⟨od, z⟩ => .inr ⟨od, s1 _ _ z⟩
    refine ⟨_, rfl, t, _, rfl, ht1.sq, _, rfl, _, rfl, d, _, rfl, .inl ⟨opsK o, .inr op, hd1, rfl, (by rw [val_ops, hl]; rfl)⟩, rfl, _, rfl, ?_⟩
    rw [List.length_map, decide_eq_true (show V.int (ns.length : Int) = V.int (ns.length : Int) from rfl)]
    refine iteF ?_
    have turn : ∀ (Hf : Hp) (D : Addr), Same H1 Hf → Hf D = none → ∀ i (y : V) Ha, i < (ns.map V.int).length → (Same Hf Ha ∧ Ha D = some (.lst (List.replicate i (V.bl true)))) → (ns.map V.int)[i]? = some y →
        inW y 0 (many - 1) = true ∧ (∃ z : Int, y = .int z) ∧ Ha D = some (.lst (List.replicate i (V.bl true))) ∧ (List.replicate i (V.bl true)).length < sizeLine ∧ (Same Hf (upd Ha D (.lst (List.replicate i (V.bl true) ++ [.bl true]))) ∧ upd Ha D (.lst (List.replicate i (V.bl true) ++ [.bl true])) D = some (.lst (List.replicate (i + 1) (V.bl true)))) := by
      intro Hf D sf nD i y Ha hi ⟨sx, ex⟩ hy
      rw [List.getElem?_map] at hy
      rw [List.length_map] at hi
      rw [List.getElem?_eq_getElem hi] at hy
      have e1 : V.int ns[i] = y := Option.some.inj hy
      subst e1
      obtain ⟨b1, b2⟩ := all _ (List.getElem_mem hi)
      refine ⟨inW_int b1 (by omega), ⟨_, rfl⟩, ex, ?_, fun b u e => ?_, ?_⟩
      · rw [List.length_replicate, sizeLine_eq]
        omega
      · have nb : b ≠ D := fun z => by
          rw [z] at e
          exact absurd (e.symm.trans nD) (by simp)
        rw [upd_ne nb]
        exact sx _ _ e
      · rw [List.replicate_succ']
        exact upd_same
    have fin : ∀ (D : Addr) (Hx : Hp), H1 D = none → (Same H1 Hx ∧ Hx D = some (.lst (List.replicate (ns.map V.int).length (V.bl true)))) → rAll K [.ref D] Hx fun v H' => Q v H' := by
      intro D Hx nD ⟨sx, ex⟩
      refine ⟨D, List.replicate (ns.map V.int).length true, rfl, SqL.of (by rw [trues_map]; exact ex), ?_⟩
      rw [trues_all]
      exact k _ (s1.trans sx)
    rcases ht1 with ht1 | ht1
    · refine .inl ⟨_, rfl, t, rfl, ⟨_, SqL.of ht1⟩, fun D nD => lc_it walk_list (fun i Hx => Same H1 Hx ∧ Hx D = some (.lst (List.replicate i (V.bl true)))) ⟨sameNew nD _, upd_same⟩ (fun i Hx _ z => SqL.of (z.1 _ _ ht1)) (fun i y Ha Hb hi z1 z2 => ?_) fun Hx z => fin D Hx nD z⟩
      obtain ⟨rfl, hy⟩ := z2
      obtain ⟨w1, ⟨z, rfl⟩, w3, w4, w5⟩ := turn H1 D (Same.refl _) nD i y _ hi z1 hy
      refine ⟨rfl, _, rfl, _, rfl, _, _, many, rfl, btInt z, ?_⟩
      rw [w1]
      exact ⟨_, w3, w4, w5⟩
    · refine .inr ⟨_, rfl, t, rfl, ⟨_, .inl (.inl ht1)⟩, fun D nD => lc_it walk_tup (fun i Hx => Same H1 Hx ∧ Hx D = some (.lst (List.replicate i (V.bl true)))) ⟨sameNew nD _, upd_same⟩ (fun i Hx _ z => .inl (.inl (z.1 _ _ ht1))) (fun i y Ha Hb hi z1 z2 => ?_) fun Hx z => fin D Hx nD z⟩
      obtain ⟨rfl, hy⟩ := z2
      obtain ⟨w1, ⟨z, rfl⟩, w3, w4, w5⟩ := turn H1 D (Same.refl _) nD i y _ hi z1 hy
      refine ⟨rfl, _, rfl, _, rfl, _, _, many, rfl, btInt z, ?_⟩
      rw [w1]
      exact ⟨_, w3, w4, w5⟩
end
end Mine

set_option maxRecDepth 100000
set_option maxHeartbeats 4000000
namespace L2
open PySem PySem.Spec PyProof.Rows
/-- tuple(x), x a list or a tuple: some tuple of the same things -/
def rTupG : List V → Hp → VK → Prop := fun xs H Q => ∃ p ys, xs = [.ref p] ∧ SqA H p ys ∧ ∀ (q : Addr) (H' : Hp), Same H H' → H' q = some (.tup ys) → Q (.ref q) H'
theorem call_tupleG {X : Cx} : CallR X (.type "tuple") rTupG := fun pins s σ H xs us Q I r ⟨p, ys, e, h, k⟩ => call_tuple_of pins s σ H xs us Q I r ⟨p, ys, e, h.elim (fun h => .inl ⟨SqL.of h, fun l hl => k l _ (sameNew hl _) upd_same⟩) fun h => .inr ⟨.inl (.inl h), k p H (Same.refl _) h⟩⟩
/-- list(x): a new list of the same things -/
def rLstG : List V → Hp → VK → Prop := fun xs H Q => ∃ p ys, xs = [.ref p] ∧ SqA H p ys ∧ New H (.lst ys) Q
theorem call_listG {X : Cx} : CallR X (.type "list") rLstG := fun pins s σ H xs us Q I r ⟨p, ys, e, h, k⟩ => call_list_of pins s σ H xs us Q I r ⟨p, ys, e, h.sq, fun l hl => k.at hl⟩
end L2
namespace Mine
open PySem L2
theorem strNe {x y : Str} (h : x ≠ y) : decide (V.str x = V.str y) = false := decide_eq_false fun z => h (V.str.inj z)
theorem strEq (x : Str) : decide (V.str x = V.str x) = true := decide_eq_true rfl
theorem intEq (i : Int) : decide (V.int i = V.int i) = true := decide_eq_true rfl
theorem ask_end : ("ask" : Str) ≠ "end" := by decide +kernel
theorem end_ask : ("end" : Str) ≠ "ask" := by decide +kernel
theorem go_ask : ("go" : Str) ≠ "ask" := by decide +kernel
theorem go_end : ("go" : Str) ≠ "end" := by decide +kernel
section
variable {P : Program} {w : World} {K : PySem.W.Frag} {mg : Str → Option Value} {base : Heap}
variable {fII fIW a_is_row a_is_index a_is_name a_is_text_in a_are_counts a_word_of a_are_nexts a_is_line a_line_of a_are_operations : Addr}
theorem sc_is_line : FnScope ["row", "counts", "many", "word"] ["row", "counts", "many"] (defScope s_is_line) := ⟨rfl, rfl, rfl, by decide +kernel, rfl, by decide +kernel, by decide +kernel⟩
theorem ok_is_line {f : Addr} {fd fd_word_of fd_is_text_in fd_are_nexts fd_is_name fd_is_index : FuncData} (F : Fun K "is_line" "is_line" s_is_line f fd) (T : TxtF K mg fII fIW) (TG : TxtG K mg a_is_row a_is_index a_is_name a_is_text_in a_are_counts a_word_of a_are_nexts a_is_line a_line_of a_are_operations)
    (GWo : FnOk P w K mg base CX0 2 a_word_of fd_word_of ["row"] spWord) (b_word_of : Binds K fd_word_of ["row"] [])
    (GT : FnOk P w K mg base CX0 1 a_is_text_in fd_is_text_in ["thing", "table"] (spTextIn K)) (b_is_text_in : Binds K fd_is_text_in ["thing", "table"] [])
    (GX : FnOk P w K mg base CX0 4 a_are_nexts fd_are_nexts ["nexts", "operation", "counts", "many"] spNexts) (b_are_nexts : Binds K fd_are_nexts ["nexts", "operation", "counts", "many"] [])
    (GNm : FnOk P w K mg base CX0 1 a_is_name fd_is_name ["thing"] (spName K)) (b_is_name : Binds K fd_is_name ["thing"] [])
    (GI : FnOk P w K mg base CX0 3 a_is_index fd_is_index ["thing", "many"] (spIndex K)) (b_is_index : Binds K fd_is_index ["thing", "many"] []) : FnOk P w K mg base CX0 5 f fd ["row", "counts", "many"] spIsLine := by
  refine F.ok sc_is_line (fun vs H Q E h => ?_) (fun cdv A outer s H vs Q E hr h => ?_)
  · obtain ⟨v, d, o, many, r, rfl, _⟩ := h
    rfl
  · obtain ⟨v, d, o, many, r, rfl, hv, hd, ok, k⟩ := h
    refine ⟨_, (pss_cons (ps_set (i := 3) sc_is_line.nd rfl (Or.inl rfl) (pe_call GWo (hr.mono (by decide)) (by rfl) TG.g_word_of TG.k_word_of b_word_of .nil pass0 (pa_cons (pv 0) pa_nil)))
      (pss_cons (ps_if (pt_cmpR op_eq (pv 3) pe_str (nomark _)) (pss_one (ps_ret (pe_and (pe_cmpR op_eq (pe_callB call_len_seq (by rfl) T.b_len PySem.boot_len (pa_cons (pv 0) pa_nil)) pe_int (nomark _)) (pe_and (pe_call GT (hr.mono (by decide)) (by rfl) TG.g_is_text_in TG.k_is_text_in b_is_text_in .nil pass0 (pa_cons (pe_ix ix_seq (pv 0) pe_int (fun _ _ => rfl)) (pa_cons (pv 1) pa_nil))) (pe_one (pe_call GX (hr.mono (by decide)) (by rfl) TG.g_are_nexts TG.k_are_nexts b_are_nexts .nil pass0 (pa_cons (pe_ix ix_seq (pv 0) pe_int (fun _ _ => rfl)) (pa_cons (pe_ix ix_seq (pv 0) pe_int (fun _ _ => rfl)) (pa_cons (pv 1) (pa_cons (pv 2) pa_nil)))))))))) pss_nil)
      (pss_cons (ps_if (pt_cmpR op_eq (pv 3) pe_str (nomark _)) (pss_one (ps_ret (pe_and (pe_cmpR op_eq (pe_callB call_len_seq (by rfl) T.b_len PySem.boot_len (pa_cons (pv 0) pa_nil)) pe_int (nomark _)) (pe_one (pe_call GNm (hr.mono (by decide)) (by rfl) TG.g_is_name TG.k_is_name b_is_name .nil pass0 (pa_cons (pe_ix ix_seq (pv 0) pe_int (fun _ _ => rfl)) pa_nil)))))) pss_nil)
      (pss_one (ps_ret (pe_and (pe_cmpR op_eq (pv 3) pe_str (nomark _)) (pe_and (pe_cmpR op_eq (pe_callB call_len_seq (by rfl) T.b_len PySem.boot_len (pa_cons (pv 0) pa_nil)) pe_int (nomark _)) (pe_one (pe_call GI (hr.mono (by decide)) (by rfl) TG.g_is_index TG.k_is_index b_is_index .nil pass0 (pa_cons (pe_ix ix_seq (pv 0) pe_int (fun _ _ => rfl)) (pa_cons (pv 2) pa_nil))))))))))), ?_⟩
    have rd : ∀ {H' : Hp}, Same H H' → Rd H' d (.dK (opsK o)) := fun s => hd.elim (fun z => .inl (s _ _ z)) fun ⟨od, z⟩ => .inr ⟨od, s _ _ z⟩
    cases r with
    | ask op ns =>
      obtain ⟨a, t, rfl, ha, ht⟩ := hv
      obtain ⟨o1, o2, o3⟩ := ok
      refine ⟨_, rfl, a, _, _, rfl, ha, fun H1 s1 => ?_⟩
      have ha1 := s1.sqa ha
      refine ⟨_, rfl, rfl, _, rfl, ?_⟩
      rw [strEq]
      refine iteT ?_
      refine ⟨_, rfl, a, _, rfl, ha1.sq, rfl, _, rfl, ?_⟩
      refine iteT ?_
      refine ⟨_, rfl, ha1.ix at1' ⟨_, rfl, _, _, d, _, rfl, btStr _, rd s1, _, rfl, ?_⟩⟩
      have hh : hasT (opsK o) (.str op) = true := by
        show (valV (opsK o) (.inr op)).isSome = true
        rw [val_ops, o1]
        rfl
      rw [hh]
      refine iteT ?_
      refine ⟨_, rfl, ha1.ix at2' ⟨_, rfl, ha1.ix at1' ⟨_, rfl, _, rfl, t, d, ns, op, o, many, rfl, s1.sqa ht, rd s1, o1, o2, o3, fun H2 s2 => k _ (s1.trans s2)⟩⟩⟩
    | fin x =>
      obtain ⟨a, rfl, ha⟩ := hv
      refine ⟨_, rfl, a, _, _, rfl, ha, fun H1 s1 => ?_⟩
      have ha1 := s1.sqa ha
      refine ⟨_, rfl, rfl, _, rfl, ?_⟩
      rw [strNe end_ask]
      refine iteF ?_
      refine ⟨_, rfl, rfl, _, rfl, ?_⟩
      rw [strEq]
      refine iteT ?_
      refine ⟨_, rfl, a, _, rfl, ha1.sq, rfl, _, rfl, ?_⟩
      refine iteT ?_
      refine ⟨_, rfl, ha1.ix at1' ⟨_, _, rfl, btStr _, fun x' e' => ?_, fun H2 s2 => ?_⟩⟩
      · have e2 : x = x' := V.str.inj e'
        rw [← e2, sizeLine_eq]
        have := ok.2
        omega
      · rw [show nameV (.str x) = true from ok.1]
        exact k _ (s1.trans s2)
    | go n =>
      obtain ⟨a, rfl, ha⟩ := hv
      refine ⟨_, rfl, a, _, _, rfl, ha, fun H1 s1 => ?_⟩
      have ha1 := s1.sqa ha
      refine ⟨_, rfl, rfl, _, rfl, ?_⟩
      rw [strNe go_ask]
      refine iteF ?_
      refine ⟨_, rfl, rfl, _, rfl, ?_⟩
      rw [strNe go_end]
      refine iteF ?_
      refine ⟨_, rfl, rfl, _, rfl, ?_⟩
      rw [strEq]
      refine iteT ?_
      refine ⟨_, rfl, a, _, rfl, ha1.sq, rfl, _, rfl, ?_⟩
      refine iteT ?_
      refine ⟨_, rfl, ha1.ix at1' ⟨_, rfl, _, _, many, rfl, btInt n, ?_⟩⟩
      rw [inW_int ok.1 (by have := ok.2; omega)]
      exact k _ s1
theorem sc_line_of : FnScope ["row"] ["row"] (defScope s_line_of) := ⟨rfl, rfl, rfl, by decide +kernel, rfl, by decide +kernel, by decide +kernel⟩
theorem ok_line_of {f : Addr} {fd : FuncData} (F : Fun K "line_of" "line_of" s_line_of f fd) (T : TxtF K mg fII fIW) : FnOk P w K mg base CX0 1 f fd ["row"] spLineOf := by
  refine F.ok sc_line_of (fun vs H Q E h => ?_) (fun cdv A outer s H vs Q E hr h => ?_)
  · obtain ⟨v, r, rfl, _⟩ := h
    rfl
  · obtain ⟨v, r, rfl, hv, k⟩ := h
    refine ⟨_, (pss_cons (ps_if (pt_cmpR op_eq (pe_ix ix_seq (pv 0) pe_int (fun _ _ => rfl)) pe_str (nomark _)) (pss_one (ps_ret (pe_tupG (pa_cons pe_str (pa_cons (pe_ix ix_seq (pv 0) pe_int (fun _ _ => rfl)) (pa_cons (pe_callTy call_tupleG (by rfl) T.b_tuple (by decide +kernel) (pa_cons (pe_ix ix_seq (pv 0) pe_int (fun _ _ => rfl)) pa_nil)) pa_nil)))))) pss_nil)
      (pss_one (ps_ret (pe_callTy call_tupleG (by rfl) T.b_tuple (by decide +kernel) (pa_cons (pv 0) pa_nil))))), ?_⟩
    cases r with
    | ask op ns =>
      obtain ⟨a, t, rfl, ha, ht⟩ := hv
      refine ⟨_, rfl, ha.ix at0' ⟨rfl, _, rfl, ?_⟩⟩
      rw [strEq]
      refine iteT ?_
      refine ⟨_, rfl, ha.ix at1' ⟨_, rfl, ha.ix at2' ⟨t, _, rfl, ht, fun p H1 s1 e1 => ?_⟩⟩⟩
      refine ⟨by show 3 ≤ sizeLine; decide, fun p2 H2 n2 s2 e2 => ?_⟩
      exact k _ _ (s1.trans s2) ⟨p2, p, rfl, e2, s2 _ _ e1⟩
    | fin x =>
      obtain ⟨a, rfl, ha⟩ := hv
      refine ⟨_, rfl, ha.ix at0' ⟨rfl, _, rfl, ?_⟩⟩
      rw [strNe end_ask]
      refine iteF ?_
      exact ⟨_, rfl, a, _, rfl, ha, fun p H1 s1 e1 => k _ _ s1 ⟨p, rfl, e1⟩⟩
    | go n =>
      obtain ⟨a, rfl, ha⟩ := hv
      refine ⟨_, rfl, ha.ix at0' ⟨rfl, _, rfl, ?_⟩⟩
      rw [strNe go_ask]
      refine iteF ?_
      exact ⟨_, rfl, a, _, rfl, ha, fun p H1 s1 e1 => k _ _ s1 ⟨p, rfl, e1⟩⟩
end
end Mine

/-! Where a walk along a function of the numbers below n comes to rest: plain mathematics. -/
namespace Mach
def itr (f : Nat → Nat) : Nat → Nat → Nat
  | 0, i => i
  | k + 1, i => itr f k (f i)
theorem itr_add (f : Nat → Nat) : ∀ a b i, itr f (a + b) i = itr f b (itr f a i)
  | 0, b, i => by rw [Nat.zero_add]; rfl
  | a + 1, b, i => by
    rw [Nat.succ_add]
    exact itr_add f a b (f i)
theorem itr_succ (f : Nat → Nat) (k i : Nat) : itr f (k + 1) i = f (itr f k i) := by
  rw [itr_add f k 1 i]
  rfl
theorem itr_lt {f : Nat → Nat} {n : Nat} (hf : ∀ i, i < n → f i < n) : ∀ k i, i < n → itr f k i < n
  | 0, _, h => h
  | k + 1, i, h => itr_lt hf k (f i) (hf i h)
theorem pigeon : ∀ (n : Nat) (l : List Nat), l.Nodup → (∀ x ∈ l, x < n) → l.length ≤ n
  | 0, [], _, _ => Nat.le_refl _
  | 0, x :: _, _, h => absurd (h x List.mem_cons_self) (Nat.not_lt_zero _)
  | n + 1, l, nd, h => by
    by_cases m : n ∈ l
    · have e := List.length_erase_of_mem m
      have ih := pigeon n (l.erase n) (nd.erase n) (fun x hx => by
        have h1 := (nd.mem_erase_iff).mp hx
        have h2 := h x h1.2
        have h3 := h1.1
        omega)
      omega
    · have ih := pigeon n l nd (fun x hx => by
        have h2 := h x hx
        have h3 : x ≠ n := fun z => m (z ▸ hx)
        omega)
      omega
/-- two places of the way are the same -/
theorem again {f : Nat → Nat} {n i : Nat} (hf : ∀ i, i < n → f i < n) (hi : i < n) : ∃ a b, a < b ∧ b ≤ n ∧ itr f a i = itr f b i := by
  by_cases h : ∃ a b, a < b ∧ b ≤ n ∧ itr f a i = itr f b i
  · exact h
  · have nd : ((List.range (n + 1)).map fun k => itr f k i).Nodup := by
      rw [List.Nodup, List.pairwise_map]
      refine List.Pairwise.imp_of_mem (fun {a b} ha hb lt e => h ⟨a, b, lt, ?_, e⟩) List.pairwise_lt_range
      have := List.mem_range.mp hb
      omega
    have := pigeon n _ nd (fun x hx => by
      obtain ⟨k, _, e⟩ := List.mem_map.mp hx
      rw [← e]
      exact itr_lt hf k i hi)
    rw [List.length_map, List.length_range] at this
    omega
/-- behind n steps a walk is on its ring -/
theorem ring_of {f : Nat → Nat} {n i : Nat} (hf : ∀ i, i < n → f i < n) (hi : i < n) : ∃ p, 0 < p ∧ itr f p (itr f n i) = itr f n i := by
  obtain ⟨a, b, lt, le, e⟩ := again hf hi
  refine ⟨b - a, by omega, ?_⟩
  have e1 : itr f n i = itr f (n - a) (itr f a i) := by
    rw [← itr_add]
    congr 1
    omega
  have e2 : itr f (b - a) (itr f a i) = itr f b i := by
    rw [← itr_add]
    congr 1
    omega
  rw [e1, ← itr_add, Nat.add_comm, itr_add, e2, ← e]
theorem ring_many {f : Nat → Nat} {p j : Nat} (h : itr f p j = j) : ∀ t, itr f (p * t) j = j
  | 0 => rfl
  | t + 1 => by
    rw [Nat.mul_succ, itr_add, ring_many h t, h]
theorem foldl_min : ∀ (l : List Nat) (a : Nat), (l.foldl Nat.min a = a ∨ l.foldl Nat.min a ∈ l) ∧ l.foldl Nat.min a ≤ a ∧ ∀ x ∈ l, l.foldl Nat.min a ≤ x
  | [], a => ⟨.inl rfl, Nat.le_refl _, fun _ h => nomatch h⟩
  | y :: l, a => by
    obtain ⟨h1, h2, h3⟩ := foldl_min l (Nat.min a y)
    refine ⟨?_, ?_, ?_⟩
    · rcases h1 with h1 | h1
      · by_cases q : a ≤ y
        · left
          show l.foldl Nat.min (Nat.min a y) = a
          rw [h1]
          exact Nat.min_eq_left q
        · right
          show l.foldl Nat.min (Nat.min a y) ∈ y :: l
          rw [h1, show Nat.min a y = y from Nat.min_eq_right (by omega)]
          exact List.mem_cons_self
      · exact .inr (List.mem_cons_of_mem _ h1)
    · exact Nat.le_trans h2 (Nat.min_le_left _ _)
    · intro x hx
      rcases List.mem_cons.mp hx with e | hx
      · rw [e]
        exact Nat.le_trans h2 (Nat.min_le_right _ _)
      · exact h3 x hx
/-- where a walk rests: the least number on the ring to which it comes (a fixed one is a ring by itself) -/
def stopAt (f : Nat → Nat) (n i : Nat) : Nat := ((List.range n).map fun k => itr f k (itr f n i)).foldl Nat.min (itr f n i)
theorem stop_mem (f : Nat → Nat) (n i : Nat) : ∃ k, stopAt f n i = itr f k (itr f n i) := by
  obtain ⟨h, _⟩ := foldl_min ((List.range n).map fun k => itr f k (itr f n i)) (itr f n i)
  rcases h with h | h
  · exact ⟨0, h⟩
  · obtain ⟨k, _, e⟩ := List.mem_map.mp h
    exact ⟨k, e.symm⟩
theorem stop_lt {f : Nat → Nat} {n i : Nat} (hf : ∀ i, i < n → f i < n) (hi : i < n) : stopAt f n i < n := by
  obtain ⟨k, e⟩ := stop_mem f n i
  rw [e]
  exact itr_lt hf k _ (itr_lt hf n i hi)
/-- from a place on the ring each place of the ring is met within n steps -/
theorem ring_short {f : Nat → Nat} {n j : Nat} (hf : ∀ i, i < n → f i < n) (hj : j < n) (k : Nat) : ∃ k', k' < n ∧ itr f k' j = itr f k j := by
  induction k using Nat.strongRecOn with
  | ind k ih =>
    by_cases h : k < n
    · exact ⟨k, h, rfl⟩
    · obtain ⟨a, b, lt, le, e⟩ := again hf hj
      have e2 : itr f k j = itr f (k - (b - a)) j := by
        have h1 : k = b + (k - b) := by omega
        have h2 : k - (b - a) = a + (k - b) := by omega
        rw [h2, itr_add, e, ← itr_add, ← h1]
      obtain ⟨k', h1, h2⟩ := ih (k - (b - a)) (by omega)
      exact ⟨k', h1, h2.trans e2.symm⟩
theorem stop_le {f : Nat → Nat} {n i : Nat} (hf : ∀ i, i < n → f i < n) (hi : i < n) (k : Nat) : stopAt f n i ≤ itr f k (itr f n i) := by
  obtain ⟨_, _, h⟩ := foldl_min ((List.range n).map fun k => itr f k (itr f n i)) (itr f n i)
  obtain ⟨k', lt, e⟩ := ring_short hf (itr_lt hf n i hi) k
  rw [← e]
  exact h _ (List.mem_map.mpr ⟨k', List.mem_range.mpr lt, rfl⟩)
theorem stop_unique {f : Nat → Nat} {n i s : Nat} (hf : ∀ i, i < n → f i < n) (hi : i < n) (h1 : ∃ k, s = itr f k (itr f n i)) (h2 : ∀ k, s ≤ itr f k (itr f n i)) : stopAt f n i = s := by
  obtain ⟨k, e⟩ := h1
  obtain ⟨k', e'⟩ := stop_mem f n i
  have a1 := stop_le hf hi k
  have a2 := h2 k'
  omega
theorem stop_step {f : Nat → Nat} {n i : Nat} (hf : ∀ i, i < n → f i < n) (hi : i < n) : stopAt f n (f i) = stopAt f n i := by
  have e : itr f n (f i) = f (itr f n i) := itr_succ f n i
  obtain ⟨p, p0, hp⟩ := ring_of hf hi
  refine stop_unique hf (hf i hi) ?_ fun k => ?_
  · obtain ⟨k, ek⟩ := stop_mem f n i
    refine ⟨k + p - 1, ?_⟩
    rw [ek, e]
    show _ = itr f (k + p - 1 + 1) (itr f n i)
    rw [show k + p - 1 + 1 = p + k by omega, itr_add, hp]
  · rw [e]
    exact stop_le hf hi (k + 1)
/-- on a ring that is written out: the least of it -/
theorem stop_ring {f : Nat → Nat} {n j m s : Nat} (hf : ∀ i, i < n → f i < n) (hj : j < n) (m0 : 0 < m) (h : itr f m j = j) (h1 : ∃ k, k < m ∧ s = itr f k j) (h2 : ∀ k, k < m → s ≤ itr f k j) : stopAt f n j = s := by
  have all : ∀ k, ∃ k', k' < m ∧ itr f k j = itr f k' j := fun k => by
    refine ⟨k % m, Nat.mod_lt _ m0, ?_⟩
    have e : k = m * (k / m) + k % m := (Nat.div_add_mod k m).symm
    conv => lhs; rw [e]
    rw [itr_add, ring_many h]
  refine stop_unique hf hj ?_ fun k => ?_
  · obtain ⟨k, _, e⟩ := h1
    refine ⟨k + (m * n - n), ?_⟩
    rw [e, ← itr_add]
    have hn : n ≤ m * n := Nat.le_mul_of_pos_left n m0
    rw [show n + (k + (m * n - n)) = m * n + k by omega, itr_add, ring_many h]
  · rw [← itr_add]
    obtain ⟨k', lt, e⟩ := all (n + k)
    rw [e]
    exact h2 k' lt
theorem stop_fix {f : Nat → Nat} {n j : Nat} (hf : ∀ i, i < n → f i < n) (hj : j < n) (h : f j = j) : stopAt f n j = j :=
  stop_ring hf hj (m := 1) (by decide) h ⟨0, by decide, rfl⟩ fun k hk => by
    have : k = 0 := by omega
    subst this
    exact Nat.le_refl _
end Mach

set_option maxRecDepth 100000
set_option maxHeartbeats 4000000
/-! Defs that are run where nothing is being shown (repr of containers asks for it): the same promise, at such places alone. -/
namespace L2
open PySem PySem.Spec PyProof.Rows
def Bare (A : Around) : Prop := A.guards = some []
theorem Bare.deeper {A : Around} (h : Bare A) (env : Env) : Bare (A.deeper env) := h
structure FnG (P : Program) (w : World) (K : PySem.W.Frag) (mg : Str → Option Value) (base : Heap) (CX : CXT) (k : Nat) (f : Addr) (fd : FuncData) (ps : List Str) (sp : Sp) : Prop where
  len : ∀ vs H Q E, sp vs H Q E → vs.length = ps.length
  run : ∀ (A : Around) (outer : List Env) (s : Shared) (H : Hp) (args : Args) (us : List Value) (vs : List V) (Q : VK) (E : XK), Bare A → Room k A → Env0 P w K mg base A outer s H → BindsTo s fd args (ps.zip us) → Vals vs us → sp vs H Q E →
    codeAny (model P w) A (.call (.ref f) args) (CR CX outer P w H s Q E) s
theorem FnOk.toG {P : Program} {w : World} {K : PySem.W.Frag} {mg : Str → Option Value} {base : Heap} {CX : CXT} {k : Nat} {f : Addr} {fd : FuncData} {ps : List Str} {sp : Sp} (F : FnOk P w K mg base CX k f fd ps sp) : FnG P w K mg base CX k f fd ps sp :=
  ⟨F.len, fun A outer s H args us vs Q E _ => F.run A outer s H args us vs Q E⟩
section
variable {P : Program} {w : World} {K : PySem.W.Frag} {mg : Str → Option Value} {base : Heap} {CX : CXT} {k : Nat} {f : Addr} {x qual : Str} {st : Stmt} {fd : FuncData} {N ps : List Str} {sp : Sp}
/-- a def by its body, at places where nothing is being shown -/
theorem Fun.okGX (F : Fun K x qual st f fd) (S : FnScope N ps (defScope st)) (len : ∀ vs H Q E, sp vs H Q E → vs.length = ps.length)
    (hbody : ∀ (cdv : Value) (A : Around) (outer : List Env) (s : Shared) (H : Hp) (vs : List V) (Q : VK) (E : XK), Bare A → Room k (A.deeper (envOfC qual (defScope st) s.heap.objs.size f cdv)) → sp vs H Q E →
      ∃ t, PSs (cxOf CX P w K mg base N qual (defScope st) f cdv A outer s H E) (defBody st) t ∧ t { nx := fun _ H' => Q .non H', rt := Q } (start N vs) H) : FnG P w K mg base CX (k + 1) f fd ps sp := by
  obtain ⟨oc, od, kV, doc, pm, an, cdv, ct, osl, rfl, lk, hcd⟩ := F.ex
  refine ⟨len, fun A outer s H args us vs Q E bare hr e0 hb r hsp => ?_⟩
  have same : ∀ b o, base.get? b = some o → s.heap.get? b = some o := fun b o e => (e0.bs b o e).1
  have KX : K.In s.heap := e0.mod.kin.keeps same
  have hkind : ∀ y ∈ ps.zip us, (defScope st).names.lookup y.1 = some .local ∨ ((defScope st).names.lookup y.1 = some .cell ∧ ((cellsFrom (s.heap.objs.size + 1) (defScope st).names []).lookup y.1).isSome = true) := by
    rintro ⟨n, v⟩ hy
    rcases S.par n (List.of_mem_zip hy).1 with q | q
    · exact .inl q
    · exact .inr ⟨q, PySem.W.cellsFrom_some _ _ _ (.inl q)⟩
  refine codeAny_call_function hr.depth (KX _ _ lk) rfl S.co S.gen rfl (PySem.W.codeRec_of KX hcd) (hb _ _ _ _ ?_)
  refine wpAny_newFunctionEnv_cells S.kind hkind fun env he s1 ic => ?_
  subst he
  refine ⟨(e0.mod.nolimit.keeps same).keeps ic.toInCall.keep, codeAny_func ?_⟩
  obtain ⟨t, ht, hq⟩ := hbody cdv A outer s H vs Q E bare (hr.deeper _) hsp
  have I := inv_start (CX := CX) (E := E) S hr.hd e0 (len _ _ _ _ hsp) r ic
  refine wpAny_mono (ht.run [] s1 (start N vs) H _ I hq) (fun fl s' hs => ?_) fun e s' hs => hs
  cases fl with
  | ret u =>
    obtain ⟨v, σ', H', J, rv, q⟩ := hs
    exact ⟨v, H', J.os, J.bare, J.base, J.hok, rv, q⟩
  | next =>
    obtain ⟨σ', H', J, q⟩ := hs
    exact ⟨V.non, H', J.os, J.bare, J.base, J.hok, rfl, q⟩
  | brk =>
    obtain ⟨_, _, _, q⟩ := hs
    exact False.elim q
  | cont =>
    obtain ⟨_, _, _, q⟩ := hs
    exact False.elim q
/-- the same for a def that lets nothing out -/
theorem Fun.okG (F : Fun K x qual st f fd) (S : FnScope N ps (defScope st)) (len : ∀ vs H Q E, sp vs H Q E → vs.length = ps.length)
    (hbody : ∀ (cdv : Value) (A : Around) (outer : List Env) (s : Shared) (H : Hp) (vs : List V) (Q : VK) (E : XK), Bare A → Room k (A.deeper (envOfC qual (defScope st) s.heap.objs.size f cdv)) → sp vs H Q E →
      ∃ t, PSs (cxOf CX0 P w K mg base N qual (defScope st) f cdv A outer s H E).nox (defBody st) t ∧ t { nx := fun _ H' => Q .non H', rt := Q } (start N vs) H) : FnG P w K mg base CX0 (k + 1) f fd ps sp :=
  F.okGX S len fun cdv A outer s H vs Q E hA hr h => by
    obtain ⟨t, h1, h2⟩ := hbody cdv A outer s H vs Q E hA hr h
    exact ⟨t, h1.nox, h2⟩
end
section
variable {X : Cx} {CX : CXT} {k : Nat} {f : Addr} {fd : FuncData} {ps : List Str} {sp : Sp} {dvs : List V} {ds : List Value} {E : XK} {x : Str} {p pos : Pos} {e : Expr} {es : List Expr} {t : TA}
theorem run_fnG {pins : List (Addr × Obj)} {σ : St} {H : Hp} {s : Shared} {Q : VK} {us : List Value} {vs : List V} (F : FnG X.prog X.w X.K X.mg X.base CX k f fd ps sp) (hA : Bare X.A) (hr : Room k X.A) (hb : Binds X.K fd ps ds) (hd : Vals dvs ds) (hx : Passes CX X E)
    (I : Inv X pins σ H s) (r : Vals vs us) (h : sp (vs ++ dvs) H Q E) : wpAny (model X.prog X.w) X.A (call (.ref f) us) (EP X pins σ Q) X.xe s := by
  have r2 : Vals (vs ++ dvs) (us ++ ds) := r.append hd
  have hl : (us ++ ds).length = ps.length := by
    rw [← r2.length]
    exact F.len _ _ _ _ h
  refine wpAny_call (codeAny_mono (F.run X.A X.stack s H ⟨us, []⟩ (us ++ ds) (vs ++ dvs) Q E hA hr I.env0 (hb s us I.kIn hl) r2 h) fun r s' hq => ?_)
  cases r with
  | error er => exact hx pins σ H s er s' I hq
  | ok fl =>
    cases fl with
    | ret u => exact I.after hq
    | next => exact False.elim hq
    | brk => exact False.elim hq
    | cont => exact False.elim hq
theorem pe_callG (F : FnG X.prog X.w X.K X.mg X.base CX k f fd ps sp) (hA : Bare X.A) (hr : Room k X.A) (hg : Gl X x) (hm : X.mg x = some (.ref f)) (hk : PySem.W.keepIn X.K (.ref f) = true) (hb : Binds X.K fd ps ds) (hd : Vals dvs ds) (hx : Passes CX X E)
    (ha : PA X (e :: es) t) (hdb : (x == ("__debug__" : Str)) = false := by decide) (he : starEach (e :: es) X.env = (false, eval e X.env) :: starEach es X.env := by rfl) (hpl : (backTo pos (starEach es X.env)).any (·.1) = false := by rfl) :
    PE X (.Call (.Name x p) (e :: es) [] pos) (tCall sp dvs E t) := by
  refine ⟨fun pins s σ H Q I h => ?_⟩
  refine wpAny_Call_Name_kw (ld_glob I hg hm ?_ hdb)
  exact PySem.W.callWith_K (h₀ := X.base) I.ok.mod.kin hk (thn (ha.run pos pins s σ H _ I h) fun us s1 ⟨vs, H1, I1, r, q⟩ => ⟨I1.kIn, run_fnG F hA hr hb hd hx I1 r q⟩) he hpl
end
/-! ### what repr says -/
def keyD : Key → PyData
  | .inl i => .int i
  | .inr x => .str x
/-- x, shown as d: data without dicts, or a dict of ints -/
def Shw (K : PySem.W.Frag) (H : Hp) (x : V) (d : PyData) : Prop :=
  (Dp K H x d ∧ d.hasDict = false) ∨ ∃ (a : Addr) (kvs : List (Key × Int)), x = .ref a ∧ H a = some (.dK (kvs.map fun kv => (kv.1, V.int kv.2))) ∧ d = .dict (kvs.map fun kv => (keyD kv.1, .int kv.2))
theorem reads_dict {P : Program} {w : World} {h : Heap} : ∀ {es : List DictEntry} {vs : List (Key × Value)} {kvs : List (Key × Int)}, Pairs (mixKind P w) es vs → KV (kvs.map fun kv => (kv.1, V.int kv.2)) vs →
    ReadsAll h (es.map (·.key)) ((kvs.map fun kv => (keyD kv.1, PyData.int kv.2)).map (·.1)) [] ∧ ReadsAll h (es.map (·.val)) ((kvs.map fun kv => (keyD kv.1, PyData.int kv.2)).map (·.2)) []
  | [], vs, [], _, _ => ⟨.nil, .nil⟩
  | [], vs, k :: kvs, p, r => by
    cases p
    cases r
  | e :: es, vs, [], p, r => by
    cases r
    cases p
  | e :: es, vs, k :: kvs, p, r => by
    cases r with
    | cons r1 rr =>
      cases p with
      | cons q1 q2 pr =>
        obtain ⟨h1, h2⟩ := reads_dict (h := h) pr rr
        obtain ⟨e1, t, e2⟩ := r1
        refine ⟨ReadsAll.cons (as := []) (bs := []) ?_ h1, ReadsAll.cons (as := []) (bs := []) ?_ h2⟩
        · have z : keyIs k.1 e.key = true := by
            have e1' : k.1 = _ := e1
            rw [e1']
            exact q1
          rcases keyIs_shape z with ⟨i, t', e3, e4⟩ | ⟨y, t', e3, e4⟩
          · show Reads h e.key (keyD k.1) []
            rw [e3, e4]
            exact Reads.int i t'
          · show Reads h e.key (keyD k.1) []
            rw [e3, e4]
            exact Reads.str y t'
        · show Reads h e.val (.int k.2) []
          rw [q2, e2]
          exact Reads.int _ t
theorem shw_reads {X : Cx} {pins : List (Addr × Obj)} {σ : St} {H : Hp} {s : Shared} {x : V} {u : Value} {d : PyData} (I : Inv X pins σ H s) (h : Shw X.K H x d) (r : RelV x u) : ∃ as, Reads s.heap u d as ∧ (d.hasDict = true → sysModules ∉ as) := by
  rcases h with ⟨h, nd⟩ | ⟨a, kvs, rfl, e, rfl⟩
  · obtain ⟨as, q⟩ := Dp.reads I d x u h r
    exact ⟨as, q, fun z => by rw [nd] at z; cases z⟩
  · cases (show u = Value.ref a from r)
    obtain ⟨_, ns, vs, rk, o, es, ep, ho, hx, hd, _, hp, _⟩ := (show ObjOk X.prog X.w H s.heap a (.dK _) from I.hok a _ e)
    obtain ⟨h1, h2⟩ := reads_dict (h := s.heap) hp rk
    refine ⟨_, Reads.dict ho hx.1 hd h1 h2, fun _ m => ?_⟩
    have : sysModules = a := by simpa using m
    rw [this] at ns
    simp at ns
def rRepr (K : PySem.W.Frag) : List V → Hp → VK → Prop := fun xs H Q => ∃ (x : V) (d : PyData), xs = [x] ∧ Shw K H x d ∧ d.showable = true ∧ d.depth ≤ 60 ∧ d.shown.length ≤ sizeLine ∧ Q (.str d.shown) H
theorem call_repr {X : Cx} (hA : Bare X.A) (hu : X.A.units + 64 < cLine) : CallR X (.builtin "repr") (rRepr X.K) := by
  intro pins s σ H xs us Q I r h
  obtain ⟨x, d, rfl, hs, sh, dp, sz, q⟩ := h
  obtain ⟨u, rfl, rx⟩ := vals1 r
  obtain ⟨as, rd, nsys⟩ := shw_reads I hs rx
  cases rd with
  | none => exact PySem.P.repr_of_none ⟨.str "None", H, I.tok _, ⟨_, rfl⟩, q⟩
  | bool b => exact PySem.P.repr_of_bool ⟨.str (if b then "True" else "False"), H, I.tok _, ⟨_, rfl⟩, q⟩
  | int i t => exact PySem.P.repr_of_int (of_decide_eq_true sh) ⟨.str (toString i), H, I.tok _, ⟨_, rfl⟩, q⟩
  | str y t => exact PySem.P.repr_of_str ⟨.str (reprText y), H, I.tok _, ⟨_, rfl⟩, q⟩ sz
  | list h1 h2 h3 h4 =>
    exact repr_of_reads' (Reads.list h1 h2 h3 h4) sh nsys hA (by omega) (fun b o e => e) (fun h' u tk k => ⟨.str _, H, I.kept (t' := tk) k, ⟨_, rfl⟩, q⟩) sz
  | tuple h1 h2 h3 h4 =>
    exact repr_of_reads' (Reads.tuple h1 h2 h3 h4) sh nsys hA (by omega) (fun b o e => e) (fun h' u tk k => ⟨.str _, H, I.kept (t' := tk) k, ⟨_, rfl⟩, q⟩) sz
  | dict h1 h2 h3 h4 h5 =>
    exact repr_of_reads' (Reads.dict h1 h2 h3 h4 h5) sh nsys hA (by omega) (fun b o e => e) (fun h' u tk k => ⟨.str _, H, I.kept (t' := tk) k, ⟨_, rfl⟩, q⟩) sz
end L2

set_option maxRecDepth 100000
set_option maxHeartbeats 4000000
/-! The end of a law row for a promise that holds where nothing is being shown: the claim's caller shows nothing. -/
namespace L2
open PySem PySem.Spec PyProof.Rows
section
variable {P : Program} {w : World} {K : PySem.W.Frag} {mg mb : Str → Option Value} {CX : CXT} {k : Nat} {fa sc : Addr} {fd : FuncData} {x : Str} {sp : Sp} {st : Shared} {its : List Value} {ns : List Int}
/-- from an abstract heap in which at most the script is tracked -/
theorem callG_at (KX : K.In st.heap) (gN : st.heap.Ns mainGlobals mg) (bN : st.heap.Ns builtinsNs mb) (bb : ∀ x : Str, x ≠ "__name__" → mb x = bootBuiltins x) (nl : st.heap.NoLimit) (gz : st.gens = #[])
    (hs : st.heap.get? sc = some { cls := .type "list", data := .seq its.toArray }) (hr : Room k callerA)
    (F : ∀ base : Heap, K.In base → base.Ns mainGlobals mg → FnG P w K mg base CX k fa fd [x] sp) (hb : ∀ (s : Shared) (u : Value), BindsTo s fd ⟨[u], []⟩ [(x, u)])
    (noX : ∀ H e s', CX [] H st (fun _ _ _ => False) e s' → False) (H : Hp) (hO : Only H) (hsp : sp [.ref sc] H (fun v _ => v = .bl true) fun _ _ _ => False)
    (ok : HOk P w H st.heap) (one : ∀ b, H b ≠ none → b = sc) (hK : H sc ≠ none → K.lookup sc = none) :
    codeAny (model P w) callerA (.call (.ref fa) ⟨[.ref sc], []⟩) (fun r s' => r = .ok (.ret (.bool true)) ∧ OldK st.heap s'.heap ∧ s'.os = st.os ∧ AllBare s'.gens) st := by
  have low : ∀ {b : Addr} {o : Obj}, st.heap.get? b = some o → H b = none → (hidT st.heap H).get? b = some o := fun e n => hidT_get e n
  have isSc : ∀ {b : Addr}, (∃ u, H b = some u) → b = sc := fun {b} ⟨u, q⟩ => one b (by rw [q]; simp)
  have free : ∀ {b : Addr}, b ≠ sc → H b = none := fun {b} ne => by
    cases q : H b with
    | none => rfl
    | some u => exact absurd (isSc ⟨u, q⟩) ne
  have notDict : ∀ {b : Addr} {o : Obj} {es : Array DictEntry} {ep : Nat}, st.heap.get? b = some o → o.data = .dict es ep → H b = none := fun {b o es ep} e d => by
    refine free fun z => ?_
    rw [z, hs] at e
    have e2 := Option.some.inj e
    subst e2
    have d2 : Data.seq its.toArray _ = Data.dict es ep := d
    cases d2
  have nsLow : ∀ {b : Addr} {m : Str → Option Value}, st.heap.Ns b m → (hidT st.heap H).Ns b m := fun {b m} z => by
    obtain ⟨o, es, ep, e, d, r⟩ := z
    exact ⟨o, es, ep, low e (notDict e d), d, r⟩
  have KL : K.In (hidT st.heap H) := fun b o e => low (KX b o e) (by
    cases q : H b with
    | none => rfl
    | some u =>
      have z := isSc ⟨u, q⟩
      subst z
      rw [hK (by rw [q]; simp)] at e
      cases e)
  obtain ⟨mc, l1, l2⟩ := nl
  have M : Mod K mg (hidT st.heap H) := ⟨KL, nsLow gN, ⟨mb, nsLow bN, bb⟩, ⟨mc, nsLow l1, l2⟩⟩
  have e0 : Env0 P w K mg (hidT st.heap H) callerA [] st H := ⟨rfl, M, fun b o e => of_hidT e, Nat.le_of_eq (hidT_size _ _), trivial, fun b hb => absurd (show b ∈ ([] : List Addr) from hb) (by simp), ok, .of_eq gz⟩
  refine codeAny_mono ((F _ KL (nsLow gN)).run callerA [] st H ⟨[.ref sc], []⟩ [.ref sc] [.ref sc] _ _ rfl hr e0 (hb st (.ref sc)) (.cons rfl .nil) hsp) fun r s' h => ?_
  cases r with
  | error e => exact (noX H e s' h).elim
  | ok fl =>
    cases fl with
    | next => exact False.elim h
    | brk => exact False.elim h
    | cont => exact False.elim h
    | ret u =>
      obtain ⟨v, H', os, bare, un, ok', r', q⟩ := h
      have q' : v = .bl true := q
      subst q'
      obtain rfl : u = Value.bool true := r'
      refine ⟨rfl, OldK.of_keep fun b o e => ?_, os, bare⟩
      rcases hO b with z | ⟨ob, xs, z⟩
      · exact un.keep b o e z (fun z => absurd (show b ∈ ([] : List Addr) from z) (by simp)) (by simp)
      · obtain ⟨e1, _⟩ := ok b _ z
        obtain ⟨e2, _⟩ := ok' b _ (un.frzs b ob _ z)
        rw [e] at e1
        cases e1
        exact e2
theorem law_callG (KX : K.In st.heap) (gN : st.heap.Ns mainGlobals mg) (bN : st.heap.Ns builtinsNs mb) (bb : ∀ x : Str, x ≠ "__name__" → mb x = bootBuiltins x) (nl : st.heap.NoLimit) (gz : st.gens = #[])
    (hs : st.heap.get? sc = some { cls := .type "list", data := .seq its.toArray }) (hi : IntsAre its ns) (hl : ns.length ≤ sizeLine) (hr : Room k callerA)
    (F : ∀ base : Heap, K.In base → base.Ns mainGlobals mg → FnG P w K mg base CX k fa fd [x] sp) (hb : ∀ (s : Shared) (u : Value), BindsTo s fd ⟨[u], []⟩ [(x, u)])
    (hsp : ∀ H : Hp, Only H → SqL K H sc (ns.map V.int) → sp [.ref sc] H (fun v _ => v = .bl true) fun _ _ _ => False) (noX : ∀ H e s', CX [] H st (fun _ _ _ => False) e s' → False) :
    codeAny (model P w) callerA (.call (.ref fa) ⟨[.ref sc], []⟩) (fun r s' => r = .ok (.ret (.bool true)) ∧ OldK st.heap s'.heap ∧ s'.os = st.os ∧ AllBare s'.gens) st := by
  have rv := vals_ints hi
  cases hk : K.lookup sc with
  | some o =>
    have e := KX sc o hk
    rw [hs] at e
    cases e
    have only : Only (fun _ => none) := fun _ => .inl rfl
    refine callG_at KX gN bN bb nl gz hs hr F hb noX (fun _ => none) only (hsp _ only (.inr ⟨_, its.toArray, _, hk, rfl, rfl, rfl, by rw [List.size_toArray, hi.length]; exact hl, by simpa using rv⟩)) (fun b u z => nomatch z) (fun b z => absurd rfl z) fun z => absurd rfl z
  | none =>
    let H : Hp := fun b => if b = sc then some (.frz { cls := .type "list", data := .seq its.toArray } (.lst (ns.map V.int))) else none
    have at' : H sc = some (.frz { cls := .type "list", data := .seq its.toArray } (.lst (ns.map V.int))) := if_pos rfl
    have off : ∀ {b : Addr}, b ≠ sc → H b = none := fun ne => if_neg ne
    have only : Only H := fun b => by
      by_cases z : b = sc
      · rw [z]
        exact .inr ⟨_, _, at'⟩
      · exact .inl (off z)
    refine callG_at KX gN bN bb nl gz hs hr F hb noX H only (hsp H only (.inl (.inr ⟨_, at'⟩))) (fun b u z => ?_) (fun b z => ?_) fun _ => hk
    · by_cases q : b = sc
      · subst q
        rw [at'] at z
        cases z
        exact ⟨hs, by rw [List.length_map]; exact hl, its, _, rv, hs⟩
      · rw [off q] at z
        cases z
    · by_cases q : b = sc
      · exact q
      · exact absurd (off q) z
end
theorem walk_ofG {l : PySem.W.OpenLaw} {n k : Nat} {q : Program} {loose : List Str} {XP : (Str → Option Value) → Heap → Prop} {YP : World → Heap → Prop} {d : DefRec} {K : Params → PySem.W.Frag} {CX : World → CXT} {sp : World → Sp} {x : Str}
    (hn : l.most = some n) (hn2 : n ≤ sizeLine) (hdf : d.params.defaults = []) (hr : Room k callerA) (hY : ∀ (w : World) (h : Heap), YP w h → (K w.params).In h)
    (F : ∀ (w : World) (mg : Str → Option Value) (fa : Addr) (h : Heap), (K w.params).In h → h.Ns mainGlobals mg → mg d.name = some (.ref fa) →
      ∃ fd : FuncData, (∀ (s : Shared) (u : Value), BindsTo s fd ⟨[u], []⟩ [(x, u)]) ∧ ∀ base : Heap, (K w.params).In base → base.Ns mainGlobals mg → FnG l.prog w (K w.params) mg base (CX w) k fa fd [x] (sp w))
    (hsp : ∀ (w : World) (H : Hp) (a : Addr) (ns : List Int), ns.length ≤ n → Only H → SqL (K w.params) H a (ns.map V.int) → sp w [.ref a] H (fun v _ => v = .bl true) fun _ _ _ => False)
    (hCX : ∀ (w : World) (H : Hp) (s : Shared) (e : Value) (s' : Shared), CX w [] H s (fun _ _ _ => False) e s' → False) :
    PySem.W.WalkO q loose XP YP l.row.toRowW d [] (fun f vs => PySem.call f vs) := by
  refine Att.attach_call hn hdf fun w s₀ s₁ mg mb fa o pm cd doc a vs ns G Y ho hd hcd hmg hobj hints hlen hg => ?_
  have KX := hY w _ Y
  obtain ⟨fd, hb, hF⟩ := F w mg fa _ KX G.T.g hmg
  exact law_callG KX G.T.g G.T.b G.T.builtins G.T.nolimit hg hobj hints (Nat.le_trans hlen hn2) hr hF hb (fun H hO hS => hsp w H a ns hlen hO hS) fun H e s' => hCX w H s₁ e s'
end L2

set_option maxRecDepth 100000
set_option maxHeartbeats 4000000
/-! Things that are shown by repr: what is kept of them in later heaps. -/
namespace L2
open PySem PySem.Spec PyProof.Rows
theorem Same.seqT {K : PySem.W.Frag} {H H' : Hp} {a : Addr} {xs : List V} (s : Same H H') (h : SqT K H a xs) : SqT K H' a xs := by
  rcases h with (h | ⟨o, h⟩) | h
  · exact .inl (.inl (s _ _ h))
  · exact .inl (.inr ⟨o, s _ _ h⟩)
  · exact .inr h
mutual
theorem Dp.same {K : PySem.W.Frag} {H H' : Hp} (s : Same H H') : ∀ (d : PyData) (v : V), Dp K H v d → Dp K H' v d
  | .none, _, h => by
    cases h
    exact .non
  | .bool b, _, h => by
    cases h
    exact .bl b
  | .int i, _, h => by
    cases h
    exact .int i
  | .str x, _, h => by
    cases h
    exact .str x
  | .list ds, _, h => by
    cases h with
    | lst q ha => exact .lst (s.seq q) (DpAll.same s ds _ ha)
  | .tuple ds, _, h => by
    cases h with
    | tup q ha => exact .tup (s.seqT q) (DpAll.same s ds _ ha)
  | .dict _, _, h => by cases h
theorem DpAll.same {K : PySem.W.Frag} {H H' : Hp} (s : Same H H') : ∀ (ds : List PyData) (vs : List V), DpAll K H vs ds → DpAll K H' vs ds
  | [], _, h => by
    cases h
    exact .nil
  | d :: ds, _, h => by
    cases h with
    | cons h1 h2 => exact .cons (Dp.same s d _ h1) (DpAll.same s ds _ h2)
end
theorem Shw.same {K : PySem.W.Frag} {H H' : Hp} {x : V} {d : PyData} (s : Same H H') (h : Shw K H x d) : Shw K H' x d := by
  rcases h with ⟨h, n⟩ | ⟨a, kvs, e1, e2, e3⟩
  · exact .inl ⟨h.same s d x, n⟩
  · exact .inr ⟨a, kvs, e1, s _ _ e2, e3⟩
/-- what is asked of a thing that is shown -/
structure Fine (d : PyData) : Prop where
  sh : d.showable = true
  dp : d.depth ≤ 60
  sz : d.shown.length ≤ sizeLine
  ok : PyData.strOk d.shown = true
def Good (K : PySem.W.Frag) (H : Hp) (v : V) : Prop := ∃ d, Shw K H v d ∧ Fine d
theorem Good.same {K : PySem.W.Frag} {H H' : Hp} {v : V} (s : Same H H') (h : Good K H v) : Good K H' v := by
  obtain ⟨d, a, b⟩ := h
  exact ⟨d, a.same s, b⟩
theorem strOk_of (s : String) : PyData.strOk (Str.ofString s) = true := by
  unfold PyData.strOk
  rw [Str.ofString_eq_toList]
  simp only [List.all_toArray, List.all_map, List.all_eq_true, Function.comp, decide_eq_true_eq]
  intro c _
  have := c.valid
  show c.toNat < 0x110000
  have z : c.val.toNat < 0x110000 := by
    rcases this with h | ⟨_, h⟩
    · have h' : c.val.toNat < 0xd800 := h
      omega
    · exact h
  exact z
theorem fine_int {n : Int} (h0 : 0 ≤ n) (h : n < 10 ^ 30) : Fine (.int n) := by
  have l : n.natAbs < 2 ^ 100 := by
    have : (n.natAbs : Int) = n := by omega
    have h2 : (n.natAbs : Int) < 10 ^ 30 := by omega
    have h3 : n.natAbs < 10 ^ 30 := by exact_mod_cast h2
    exact Nat.lt_trans h3 (by decide)
  have l2 : n.natAbs.log2 < 1920 := Nat.lt_trans (PySem.Flt.log2_lt_of (by decide) l) (by decide)
  exact ⟨decide_eq_true l2, Nat.zero_le _, int_text_fits l2, strOk_of _⟩
/-! lists of texts as data -/
theorem strs_lay : ∀ ts : List Str, (∀ t ∈ ts, PyData.strOk t = true) → PyData.canLayAll0 (ts.map PyData.str) = true
  | [], _ => rfl
  | t :: ts, h => by
    show (PyData.strOk t && PyData.canLayAll0 (ts.map PyData.str)) = true
    rw [strs_lay ts fun u m => h u (List.mem_cons_of_mem _ m), h t List.mem_cons_self]
    rfl
theorem strs_flat : ∀ ts : List Str, PyData.depthAll (ts.map PyData.str) = 0
  | [] => rfl
  | t :: ts => by
    show max (PyData.depth (.str t)) (PyData.depthAll (ts.map PyData.str)) = 0
    rw [strs_flat ts]
    rfl
theorem strs_shaped (ts : List Str) (h : ∀ t ∈ ts, PyData.strOk t = true) : SeqAt.shaped (.list (ts.map PyData.str)) = true := by
  have h1 : PyData.canLay0 (.list (ts.map PyData.str)) = true := strs_lay ts h
  have h2 : PyData.depth (.list (ts.map PyData.str)) = 1 := by
    show PyData.depthAll (ts.map PyData.str) + 1 = 1
    rw [strs_flat ts]
  unfold SeqAt.shaped
  rw [h1, h2]
  rfl
theorem strs_all {K : PySem.W.Frag} {H : Hp} : ∀ ts : List Str, DpAll K H (ts.map V.str) (ts.map PyData.str)
  | [] => .nil
  | t :: ts => .cons (.str t) (strs_all ts)
theorem strs_dp {K : PySem.W.Frag} {H : Hp} {p : Addr} {ts : List Str} (h : H p = some (.lst (ts.map V.str))) : Dp K H (.ref p) (.list (ts.map PyData.str)) := .lst (SqL.of h) (strs_all ts)
theorem strs_same (ts : List Str) (h : ∀ t ∈ ts, PyData.strOk t = true) : PyData.eqv (.list (ts.map PyData.str)) (.list (ts.map PyData.str)) = true := SeqAt.eqv_refl _ (strs_lay ts h)
def rRepG : R2 := fun x y H Q => ∃ l k xs, x = .ref l ∧ y = .int k ∧ H l = some (.lst xs) ∧ -(2 ^ 63) ≤ k ∧ k < 2 ^ 63 ∧ xs.length * k.toNat ≤ sizeLine ∧ New H (.lst (List.replicate k.toNat xs).flatten) Q
theorem op_repG {X : Cx} : OpR X (binaryOp .Mult) rRepG := fun pins s σ H x y v u Q I rx ry ⟨l, k, xs, e1, e2, e3, e4, e5, e6, q⟩ => op_rep pins s σ H x y v u Q I rx ry ⟨l, k, xs, e1, e2, e3, e4, e5, e6, fun p n => q.at n⟩
end L2

set_option maxRecDepth 100000
set_option maxHeartbeats 4000000
namespace Mine
open PySem L2
abbrev s_rest_of : Stmt := top 29
abbrev s_stops_of : Stmt := top 28
theorem inV_ints {a : Int} : ∀ {ts : List Int}, inV (.int a) (ts.map V.int) = decide (a ∈ ts)
  | [] => by simp [inV]
  | t :: ts => by
    have ih := inV_ints (a := a) (ts := ts)
    unfold inV at ih ⊢
    rw [List.map_cons, List.any_cons, ih]
    show (t == a || decide (a ∈ ts)) = _
    by_cases h : t = a
    · subst h
      simp
    · have h2 : (t == a) = false := beq_eq_false_iff_ne.mpr h
      rw [h2, Bool.false_or]
      by_cases m : a ∈ ts
      · rw [decide_eq_true m, decide_eq_true (List.mem_cons_of_mem _ m)]
      · rw [decide_eq_false m, decide_eq_false (fun z => (List.mem_cons.mp z).elim (fun y => h y.symm) m)]
theorem flat_ints (ts : List Int) : (ts.map V.int).all flatV = true := by
  rw [List.all_map]
  exact List.all_eq_true.mpr fun _ _ => rfl
/-- min of the trail from where `at` stands, or `at` -/
def RestIs (ts : List Int) (a m : Int) : Prop := (a ∉ ts → m = a) ∧ ∀ j, ts[j]? = some a → (∀ i, i < j → ts[i]? ≠ some a) → m ∈ ts.drop j ∧ ∀ x ∈ ts.drop j, m ≤ x
def spRest (K : PySem.W.Frag) : Sp := fun vs H Q _ => ∃ (p : Addr) (ts : List Int) (a : Int), vs = [.ref p, .int a] ∧ H p = some (.lst (ts.map V.int)) ∧ ∀ (m : Int) (H' : Hp), Same H H' → RestIs ts a m → Q (.int m) H'
theorem first_at {a : Int} : ∀ {ts : List Int}, a ∈ ts → ∃ j : Nat, ts[j]? = some a ∧ ∀ i : Nat, i < j → ts[i]? ≠ some a
  | [], h => nomatch h
  | t :: ts, h => by
    by_cases e : t = a
    · exact ⟨0, by rw [e]; rfl, fun i hi => absurd hi (Nat.not_lt_zero i)⟩
    · obtain ⟨j, h1, h2⟩ := first_at (a := a) (ts := ts) ((List.mem_cons.mp h).elim (fun z => absurd z.symm e) id)
      refine ⟨j + 1, by simpa using h1, fun i hi => ?_⟩
      cases i with
      | zero => simpa using e
      | succ i => simpa using h2 i (by omega)
section
variable {P : Program} {w : World} {K : PySem.W.Frag} {mg : Str → Option Value} {base : Heap}
variable {fII fIW a_is_row a_is_index a_is_name a_is_text_in a_are_counts a_word_of a_are_nexts a_is_line a_line_of a_are_operations : Addr}
theorem sc_rest_of : FnScope ["trail", "at"] ["trail", "at"] (defScope s_rest_of) := ⟨rfl, rfl, rfl, by decide +kernel, rfl, by decide +kernel, by decide +kernel⟩
theorem ok_rest_of {f : Addr} {fd : FuncData} (F : Fun K "rest_of" "rest_of" s_rest_of f fd) (hmin : mg "min" = none) : FnOk P w K mg base CX0 1 f fd ["trail", "at"] (spRest K) := by
  refine F.ok sc_rest_of (fun vs H Q E h => ?_) (fun cdv A outer s H vs Q E hr h => ?_)
  · obtain ⟨p, ts, a, rfl, _⟩ := h
    rfl
  · obtain ⟨p, ts, a, rfl, hp, k⟩ := h
    refine ⟨_, (pss_cons (ps_if (pt_cmpR op_in_seq (pv 1) (pv 0) (by rfl)) (pss_one (ps_ret (pe_callB (cr_min rfl) (by rfl) hmin (by decide +kernel) (pa_cons (pe_slice sl_listG (pv 0) (po_some (pe_bm PySem.F.plainAttrs_list PySem.F.slot_list_index PySem.F.type_list_index mt_index (pv 0) (pa_cons (pv 1) pa_nil))) po_none) pa_nil)))) pss_nil)
      (pss_one (ps_ret (pv 1)))), ?_⟩
    refine ⟨_, rfl, _, rfl, p, _, rfl, .inl (SqL.of hp), rfl, flat_ints ts, _, rfl, ?_⟩
    show if inV (.int a) (ts.map V.int) = true then _ else _
    rw [inV_ints]
    refine ite2 (fun h1 => ?_) (fun h1 => ?_)
    · obtain ⟨j, hj, hf⟩ := first_at (of_decide_eq_true h1)
      have hjl : j < ts.length := (List.getElem?_eq_some_iff.mp hj).1
      refine ⟨_, rfl, _, rfl, .inl ⟨rfl, _, SqL.of hp⟩, _, rfl, p, _, _, j, .int a, rfl, rfl, SqL.of hp, rfl, flat_ints ts, by rw [List.getElem?_map, hj]; rfl, by show (a == a) = true; exact beq_self_eq_true a, fun m z hm hz => ?_, ?_⟩
      · rw [List.getElem?_map] at hz
        cases e : ts[m]? with
        | none => rw [e] at hz; cases hz
        | some b =>
          rw [e] at hz
          have e2 : V.int b = z := Option.some.inj hz
          subst e2
          show (b == a) = false
          exact beq_eq_false_iff_ne.mpr fun y => hf m hm (by rw [e, y])
      · refine ⟨_, rfl, p, _, rfl, SqL.of hp, fun q1 H1 n1 s1 e1 => ?_⟩
        have e2 : cutV (ts.map V.int) (some (j : Int)) none = (ts.drop j).map V.int := by
          unfold cutV
          rw [HT.sIx_nat, HT.sIx_none, List.length_map, Nat.min_eq_left (by omega), List.map_drop]
          exact List.take_of_length_le (by rw [List.length_drop, List.length_map]; omega)
        rw [e2] at e1
        refine ⟨q1, ts.drop j, rfl, SqL.of e1, by rw [List.length_drop]; omega, fun m h2 h3 => k m _ s1 ⟨fun z => absurd (of_decide_eq_true h1) z, fun j' hj' hf' => ?_⟩⟩
        have : j' = j := by
          by_cases lt : j' < j
          · exact absurd hj' (hf j' lt)
          · by_cases lt2 : j < j'
            · exact absurd hj (hf' j lt2)
            · omega
        subst this
        exact ⟨h2, h3⟩
    · exact ⟨_, rfl, k a _ (Same.refl _) ⟨fun _ => rfl, fun j hj _ => absurd (decide_eq_true (List.mem_of_getElem? hj)) h1⟩⟩
end
end Mine

set_option maxRecDepth 100000
set_option maxHeartbeats 4000000
namespace Mine
open PySem L2
def nxt (rs : List RowD) (i : Nat) : Nat := match rs[i]? with
  | some (.go k) => k.toNat
  | _ => i
def isGo (rs : List RowD) (i : Nat) : Bool := match rs[i]? with
  | some (.go _) => true
  | _ => false
def GoOk (rs : List RowD) : Prop := ∀ (i : Nat) (k : Int), rs[i]? = some (.go k) → 0 ≤ k ∧ k < rs.length
theorem nxt_lt {rs : List RowD} (h : GoOk rs) (i : Nat) (hi : i < rs.length) : nxt rs i < rs.length := by
  unfold nxt
  split
  · rename_i k e
    have := h i k e
    omega
  · exact hi
theorem nxt_fix {rs : List RowD} {i : Nat} (h : isGo rs i = false) : nxt rs i = i := by
  unfold isGo at h
  unfold nxt
  split
  · rename_i k e
    rw [e] at h
    cases h
  · rfl
abbrev way (rs : List RowD) (k i : Nat) : Nat := Mach.itr (nxt rs) k i
def stp (rs : List RowD) (i : Nat) : Nat := Mach.stopAt (nxt rs) rs.length i
theorem stp_way {rs : List RowD} (h : GoOk rs) : ∀ (k i : Nat), i < rs.length → stp rs (way rs k i) = stp rs i
  | 0, _, _ => rfl
  | k + 1, i, hi => by
    show stp rs (way rs k (nxt rs i)) = _
    rw [stp_way h k _ (nxt_lt h i hi)]
    exact Mach.stop_step (nxt_lt h) hi
/-- a list of ints by its places -/
def fl (n : Nat) (g : Nat → Int) : List V := (List.range n).map fun i => V.int (g i)
theorem fl_len {n : Nat} {g : Nat → Int} : (fl n g).length = n := by
  unfold fl
  rw [List.length_map, List.length_range]
theorem fl_get {n k : Nat} {g : Nat → Int} (h : k < n) : (fl n g)[k]? = some (V.int (g k)) := by
  unfold fl
  rw [List.getElem?_map, List.getElem?_range h]
  rfl
theorem fl_at {n k : Nat} {g : Nat → Int} (h : k < n) : atI (fl n g) (k : Int) = some (V.int (g k)) := atI_nat (fl_get h)
theorem fl_set {n k : Nat} {g : Nat → Int} {v : Int} (h : k < n) : (fl n g).set k (V.int v) = fl n (fun i => if i = k then v else g i) := by
  apply List.ext_getElem?
  intro i
  by_cases hi : i < n
  · rw [fl_get hi]
    by_cases e : i = k
    · subst e
      rw [List.getElem?_set_self (by rw [fl_len]; exact hi), if_pos rfl]
    · rw [List.getElem?_set_ne (Ne.symm e), fl_get hi, if_neg e]
  · rw [List.getElem?_eq_none (by rw [List.length_set, fl_len]; omega), List.getElem?_eq_none (by rw [fl_len]; omega)]
theorem fl_rep (n : Nat) : (List.replicate n [V.int (-1)]).flatten = fl n fun _ => -1 := by
  apply List.ext_getElem?
  intro i
  have e : (List.replicate n [V.int (-1)]).flatten = List.replicate n (V.int (-1)) := by simp
  rw [e]
  by_cases hi : i < n
  · rw [fl_get hi, List.getElem?_replicate, if_pos hi]
  · rw [List.getElem?_eq_none (by rw [List.length_replicate]; omega), List.getElem?_eq_none (by rw [fl_len]; omega)]
theorem ixn {n k : Nat} (h : k < n) : ixN n (k : Int) = some k := by
  unfold ixN
  rw [if_pos (by omega), if_pos (by omega)]
  simp
/-- the rows stand there as tuples -/
def Rows (H : Hp) (xs : List V) (rs : List RowD) : Prop := xs.length = rs.length ∧ ∀ (i : Nat) (r : RowD), rs[i]? = some r → ∃ x, xs[i]? = some x ∧ TRow H x r
theorem Rows.same {H H' : Hp} {xs : List V} {rs : List RowD} (s : Same H H') (h : Rows H xs rs) : Rows H' xs rs := ⟨h.1, fun i r e => by
  obtain ⟨x, h1, h2⟩ := h.2 i r e
  exact ⟨x, h1, h2.same s⟩⟩
def wordOf : RowD → Str
  | .ask _ _ => "ask"
  | .go _ => "go"
  | .fin _ => "end"
theorem TRow.head {H : Hp} {v : V} {r : RowD} (h : TRow H v r) : ∃ a xs, v = .ref a ∧ H a = some (.tup (.str (wordOf r) :: xs)) := by
  cases r with
  | ask op ns =>
    obtain ⟨a, t, e, h1, _⟩ := h
    exact ⟨a, _, e, h1⟩
  | go n =>
    obtain ⟨a, e, h1⟩ := h
    exact ⟨a, _, e, h1⟩
  | fin w =>
    obtain ⟨a, e, h1⟩ := h
    exact ⟨a, _, e, h1⟩
def spStops : Sp := fun vs H Q _ => ∃ (a : Addr) (xs : List V) (rs : List RowD), vs = [.ref a] ∧ H a = some (.lst xs) ∧ Rows H xs rs ∧ GoOk rs ∧ rs.length ≤ 100000 ∧ New H (.lst (fl rs.length fun i => (stp rs i : Int))) Q
/-- what holds ahead of the turn b of stops_of -/
structure StB (rs : List RowD) (b : Nat) (ss ws : Nat → Int) : Prop where
  any : ∀ i, i < rs.length → ss i = -1 ∨ ss i = stp rs i
  done : ∀ i, i < b → ss i = stp rs i
  ws : ∀ i, i < rs.length → ws i < b
/-- what holds within the walk from b, behind k steps -/
structure InW (rs : List RowD) (b k : Nat) (ss ws : Nat → Int) : Prop where
  go : ∀ j, j < k → isGo rs (way rs j b) = true
  new : ∀ j, j < k → ss (way rs j b) = -1
  mark : ∀ i, i < rs.length → (ws i = b ↔ ∃ j, j < k ∧ way rs j b = i)
  le : ∀ i, i < rs.length → ws i ≤ b
  ne : ∀ j j', j < j' → j' < k → way rs j b ≠ way rs j' b
/-- the walk's test -/
def goOn (rs : List RowD) (b k : Nat) (ss ws : Nat → Int) : Bool := decide (ss (way rs k b) < 0) && (!decide (ws (way rs k b) = b) && isGo rs (way rs k b))
theorem InW.room {rs : List RowD} {b k : Nat} {ss ws : Nat → Int} (ok : GoOk rs) (hb : b < rs.length) (w : InW rs b k ss ws) (h : ws (way rs k b) ≠ b) : k < rs.length := by
  have lt : ∀ j, way rs j b < rs.length := fun j => Mach.itr_lt (nxt_lt ok) j b hb
  have nd : ((List.range (k + 1)).map fun j => way rs j b).Nodup := by
    rw [List.Nodup, List.pairwise_map]
    refine List.Pairwise.imp_of_mem (fun {i j} hi hj l e => ?_) List.pairwise_lt_range
    have hj' := List.mem_range.mp hj
    by_cases q : j = k
    · subst q
      exact h (((w.mark _ (lt _)).mpr ⟨i, l, e⟩))
    · exact w.ne i j l (by omega) e
  have := Mach.pigeon _ _ nd (fun x hx => by
    obtain ⟨j, _, e⟩ := List.mem_map.mp hx
    rw [← e]
    exact lt j)
  rw [List.length_map, List.length_range] at this
  omega
theorem InW.more {rs : List RowD} {b k : Nat} {ss ws : Nat → Int} (ok : GoOk rs) (hb : b < rs.length) (w : InW rs b k ss ws) (h0 : ss (way rs k b) = -1) (h1 : ws (way rs k b) ≠ b) (h2 : isGo rs (way rs k b) = true) :
    InW rs b (k + 1) ss (fun i => if i = way rs k b then (b : Int) else ws i) := by
  have lt : ∀ j, way rs j b < rs.length := fun j => Mach.itr_lt (nxt_lt ok) j b hb
  refine ⟨fun j hj => ?_, fun j hj => ?_, fun i hi => ?_, fun i hi => ?_, fun j j' l hj e => ?_⟩
  · by_cases q : j = k
    · rw [q]
      exact h2
    · exact w.go j (by omega)
  · by_cases q : j = k
    · rw [q]
      exact h0
    · exact w.new j (by omega)
  · by_cases q : i = way rs k b
    · rw [if_pos q]
      exact ⟨fun _ => ⟨k, by omega, q.symm⟩, fun _ => rfl⟩
    · rw [if_neg q, w.mark i hi]
      constructor
      · rintro ⟨j, hj, e⟩
        exact ⟨j, by omega, e⟩
      · rintro ⟨j, hj, e⟩
        refine ⟨j, ?_, e⟩
        by_cases z : j = k
        · rw [z] at e
          exact absurd e.symm q
        · omega
  · show (if i = way rs k b then (b : Int) else ws i) ≤ b
    split
    · exact Int.le_refl _
    · exact w.le i hi
  · by_cases q : j' = k
    · subst q
      exact h1 (((w.mark _ (lt _)).mpr ⟨j, l, e⟩))
    · exact w.ne j j' l (by omega) e
/-- where the walk ends, what rest_of hands back is where it rests -/
theorem InW.rest {rs : List RowD} {b k : Nat} {ss ws : Nat → Int} (ok : GoOk rs) (hb : b < rs.length) (w : InW rs b k ss ws) (any : ∀ i, i < rs.length → ss i = -1 ∨ ss i = stp rs i) (hend : goOn rs b k ss ws = false) (neg : ss (way rs k b) < 0) {m : Int}
    (h : RestIs ((List.range k).map fun j => (way rs j b : Int)) (way rs k b : Int) m) : m = stp rs (way rs k b) := by
  have lt : ∀ j, way rs j b < rs.length := fun j => Mach.itr_lt (nxt_lt ok) j b hb
  by_cases mk : ws (way rs k b) = b
  · obtain ⟨j, hj, e⟩ := (w.mark _ (lt k)).mp mk
    have hget : ∀ i, i < k → ((List.range k).map fun j => (way rs j b : Int))[i]? = some (way rs i b : Int) := fun i hi => by
      rw [List.getElem?_map, List.getElem?_range hi]
      rfl
    obtain ⟨h1, h2⟩ := h.2 j (by rw [hget j hj, e]) (fun i hi z => by
      rw [hget i (by omega)] at z
      have z2 : (way rs i b : Int) = (way rs k b : Int) := Option.some.inj z
      exact w.ne i j hi hj (by omega))
    have hmem : ∀ x, x ∈ ((List.range k).map fun j => (way rs j b : Int)).drop j ↔ ∃ i, i < k - j ∧ x = (way rs i (way rs k b) : Int) := fun x => by
      have ee : ∀ i, way rs (j + i) b = way rs i (way rs k b) := fun i => by
        rw [← e]
        exact Mach.itr_add _ j i b
      constructor
      · intro hx
        obtain ⟨i, hi⟩ := List.mem_iff_getElem?.mp hx
        rw [List.getElem?_drop] at hi
        have hik : j + i < k := by
          have := (List.getElem?_eq_some_iff.mp hi).1
          simpa using this
        rw [hget _ hik] at hi
        have z : (way rs (j + i) b : Int) = x := Option.some.inj hi
        refine ⟨i, by omega, ?_⟩
        rw [← ee i]
        exact z.symm
      · rintro ⟨i, hi, rfl⟩
        refine List.mem_iff_getElem?.mpr ⟨i, ?_⟩
        rw [List.getElem?_drop, hget _ (by omega), ee i]
    obtain ⟨i0, hi0, e0⟩ := (hmem m).mp h1
    have st : stp rs (way rs k b) = way rs i0 (way rs k b) := by
      refine Mach.stop_ring (nxt_lt ok) (lt k) (m := k - j) (by omega) ?_ ⟨i0, hi0, rfl⟩ fun i hi => ?_
      · show way rs (k - j) (way rs k b) = way rs k b
        conv => lhs; rw [← e]
        show Mach.itr (nxt rs) (k - j) (Mach.itr (nxt rs) j b) = Mach.itr (nxt rs) k b
        rw [← Mach.itr_add]
        congr 1
        omega
      · have := h2 _ ((hmem _).mpr ⟨i, hi, rfl⟩)
        rw [e0] at this
        exact Int.ofNat_le.mp this
    rw [st]
    exact e0
  · have ng : isGo rs (way rs k b) = false := by
      unfold goOn at hend
      rw [decide_eq_true neg, decide_eq_false mk, Bool.true_and] at hend
      simpa using hend
    have hn : (way rs k b : Int) ∉ ((List.range k).map fun j => (way rs j b : Int)) := fun hx => by
      obtain ⟨j, hj, e⟩ := List.mem_map.mp hx
      have e2 : way rs j b = way rs k b := by omega
      have g := w.go j (List.mem_range.mp hj)
      rw [e2, ng] at g
      cases g
    rw [h.1 hn]
    have : stp rs (way rs k b) = way rs k b := Mach.stop_fix (nxt_lt ok) (lt k) (nxt_fix ng)
    rw [this]
end Mine

set_option maxRecDepth 100000
set_option maxHeartbeats 4000000
namespace Mine
open PySem L2
/-- both lists of marks stand there -/
structure At (H0 : Hp) (sa wa : Addr) (n : Nat) (ss ws : Nat → Int) (H : Hp) : Prop where
  same : Same H0 H
  s : H sa = some (.lst (fl n ss))
  w : H wa = some (.lst (fl n ws))
  ns : H0 sa = none
  nw : H0 wa = none
  ne : sa ≠ wa
theorem same_updN {H H' : Hp} {p : Addr} {o : HO} (s : Same H H') (n : H p = none) : Same H (upd H' p o) := fun b u e => by
  rw [upd_ne (ne_of_none e n)]
  exact s b u e
theorem At.go {H0 H H' : Hp} {sa wa : Addr} {n : Nat} {ss ws : Nat → Int} (t : At H0 sa wa n ss ws H) (s : Same H H') : At H0 sa wa n ss ws H' := ⟨t.same.trans s, s _ _ t.s, s _ _ t.w, t.ns, t.nw, t.ne⟩
def set1 (f : Nat → Int) (k : Nat) (v : Int) : Nat → Int := fun i => if i = k then v else f i
theorem At.setW {H0 H : Hp} {sa wa : Addr} {n k : Nat} {ss ws : Nat → Int} {v : Int} (t : At H0 sa wa n ss ws H) (h : k < n) : At H0 sa wa n ss (set1 ws k v) (upd H wa (.lst ((fl n ws).set k (V.int v)))) := by
  refine ⟨same_updN t.same t.nw, ?_, ?_, t.ns, t.nw, t.ne⟩
  · rw [upd_ne t.ne]
    exact t.s
  · rw [upd_same, fl_set h]
    rfl
theorem At.setS {H0 H : Hp} {sa wa : Addr} {n k : Nat} {ss ws : Nat → Int} {v : Int} (t : At H0 sa wa n ss ws H) (h : k < n) : At H0 sa wa n (set1 ss k v) ws (upd H sa (.lst ((fl n ss).set k (V.int v)))) := by
  refine ⟨same_updN t.same t.ns, ?_, ?_, t.ns, t.nw, t.ne⟩
  · rw [upd_same, fl_set h]
    rfl
  · rw [upd_ne (Ne.symm t.ne)]
    exact t.w
/-- a third list, made behind both -/
theorem At.other {H0 H : Hp} {sa wa ta : Addr} {n : Nat} {ss ws : Nat → Int} {o : HO} (t : At H0 sa wa n ss ws H) (h0 : H0 ta = none) (h1 : ta ≠ sa) (h2 : ta ≠ wa) : At H0 sa wa n ss ws (upd H ta o) := by
  refine ⟨same_updN t.same h0, ?_, ?_, t.ns, t.nw, t.ne⟩
  · rw [upd_ne (Ne.symm h1)]
    exact t.s
  · rw [upd_ne (Ne.symm h2)]
    exact t.w
theorem none_of {H H' : Hp} {p : Addr} (s : Same H H') (h : H' p = none) : H p = none := by
  cases e : H p with
  | none => rfl
  | some u =>
    rw [s _ _ e] at h
    cases h
def Up (rs : List RowD) (ss ss' : Nat → Int) : Prop := ∀ i, i < rs.length → ss' i = ss i ∨ ss' i = stp rs i
theorem Up.refl (rs : List RowD) (ss : Nat → Int) : Up rs ss ss := fun _ _ => .inl rfl
theorem Up.set {rs : List RowD} {ss ss' : Nat → Int} (u : Up rs ss ss') (k : Nat) : Up rs ss (set1 ss' k (stp rs k)) := fun i hi => by
  unfold set1
  by_cases e : i = k
  · rw [if_pos e, e]
    exact .inr rfl
  · rw [if_neg e]
    exact u i hi
theorem set1_same (f : Nat → Int) (k : Nat) (v : Int) : set1 f k v k = v := if_pos rfl
theorem Up.done {rs : List RowD} {ss ss' : Nat → Int} (u : Up rs ss ss') {i : Nat} (hi : i < rs.length) (h : ss i = stp rs i) : ss' i = stp rs i := (u i hi).elim (fun e => e.trans h) id
theorem Up.any {rs : List RowD} {ss ss' : Nat → Int} (u : Up rs ss ss') {i : Nat} (hi : i < rs.length) (h : ss i = -1 ∨ ss i = stp rs i) : ss' i = -1 ∨ ss' i = stp rs i := (u i hi).elim (fun e => by rw [e]; exact h) .inr
theorem set1_done {rs : List RowD} {ss : Nat → Int} {i : Nat} (h : ss i = stp rs i) (k : Nat) : set1 ss k (stp rs k) i = stp rs i := by
  unfold set1
  by_cases e : i = k
  · rw [if_pos e, e]
  · rw [if_neg e]
    exact h
theorem ask_go : ("ask" : Str) ≠ "go" := by decide +kernel
theorem end_go : ("end" : Str) ≠ "go" := by decide +kernel
theorem go_dec {rs : List RowD} {i : Nat} {r : RowD} (e : rs[i]? = some r) : decide (V.str (wordOf r) = V.str "go") = isGo rs i := by
  unfold isGo
  rw [e]
  cases r with
  | ask op ns => exact strNe ask_go
  | go k => exact strEq _
  | fin x => exact strNe end_go
theorem isGo_row {rs : List RowD} {i : Nat} (h : isGo rs i = true) : ∃ k, rs[i]? = some (.go k) := by
  unfold isGo at h
  split at h
  · rename_i k e
    exact ⟨k, e⟩
  · cases h
theorem InW.start {rs : List RowD} {b : Nat} {ss ws : Nat → Int} (t : StB rs b ss ws) : InW rs b 0 ss ws :=
  ⟨fun j hj => absurd hj (Nat.not_lt_zero _), fun j hj => absurd hj (Nat.not_lt_zero _), fun i hi => ⟨fun e => by have := t.ws i hi; omega, fun ⟨j, hj, _⟩ => absurd hj (Nat.not_lt_zero _)⟩, fun i hi => Int.le_of_lt (t.ws i hi), fun j j' _ hj => absurd hj (Nat.not_lt_zero _)⟩
theorem di {i j : Int} : decide (V.int i = V.int j) = decide (i = j) := by
  by_cases h : i = j
  · rw [decide_eq_true h, h]
    exact decide_eq_true rfl
  · rw [decide_eq_false h]
    exact decide_eq_false fun z => h (V.int.inj z)
theorem range_snoc (f : Nat → V) (k : Nat) : (List.range (k + 1)).map f = (List.range k).map f ++ [f k] := by
  rw [List.range_succ, List.map_append]
  rfl
theorem pt_imp {X : Cx} {e : Expr} {t t' : TT} (h : PT X e t) (m : ∀ σ H Q, t' σ H Q → t σ H Q) : PT X e t' := ⟨fun pins s σ H Q I q => h.run pins s σ H Q I (m σ H Q q)⟩
theorem ps_imp {X : Cx} {e : Stmt} {t t' : TS} (h : PS X e t) (m : ∀ D σ H, t' D σ H → t D σ H) : PS X e t' := ⟨fun pins s σ H D I q => h.run pins s σ H D I (m D σ H q)⟩
/-- the walk's test, as it is read -/
def tOn : TT := fun σ H Q => ∃ (a sa wa : Addr) (xs : List V) (rs : List RowD) (b k : Nat) (ss ws : Nat → Int) (v4 v6 : Option V), σ = [some (.ref a), some (.ref sa), some (.ref wa), some (.int b), v4, some (.int (way rs k b : Int)), v6] ∧
  H a = some (.lst xs) ∧ Rows H xs rs ∧ H sa = some (.lst (fl rs.length ss)) ∧ H wa = some (.lst (fl rs.length ws)) ∧ way rs k b < rs.length ∧ Q (goOn rs b k ss ws) H
theorem Rows.at {H : Hp} {xs : List V} {rs : List RowD} (r : Rows H xs rs) {i : Nat} (hi : i < rs.length) : ∃ (q : Addr) (zs : List V) (d : RowD), rs[i]? = some d ∧ xs[i]? = some (.ref q) ∧ TRow H (.ref q) d ∧ H q = some (.tup (.str (wordOf d) :: zs)) := by
  obtain ⟨x, h1, h2⟩ := r.2 i _ (List.getElem?_eq_getElem hi)
  obtain ⟨q, zs, rfl, h3⟩ := h2.head
  exact ⟨q, zs, _, List.getElem?_eq_getElem hi, h1, h2, h3⟩
/-- where the walk rests is set, if it is not known -/
def tSettle : TS := fun D σ H => ∃ (H0 : Hp) (sa wa ta : Addr) (rs : List RowD) (b k : Nat) (ss ws : Nat → Int) (v0 v6 : Option V), σ = [v0, some (.ref sa), some (.ref wa), some (.int b), some (.ref ta), some (.int (way rs k b : Int)), v6] ∧
  GoOk rs ∧ b < rs.length ∧ At H0 sa wa rs.length ss ws H ∧ ta ≠ sa ∧ H ta = some (.lst ((List.range k).map fun j => V.int (way rs j b : Int))) ∧ (∀ i, i < rs.length → ss i = -1 ∨ ss i = stp rs i) ∧ InW rs b k ss ws ∧ goOn rs b k ss ws = false ∧
  ∀ (ss' : Nat → Int) (H' : Hp), At H0 sa wa rs.length ss' ws H' → H' ta = some (.lst ((List.range k).map fun j => V.int (way rs j b : Int))) → Up rs ss ss' → ss' (way rs k b) = stp rs (way rs k b) → D.nx σ H'
section
variable {P : Program} {w : World} {K : PySem.W.Frag} {mg : Str → Option Value} {base : Heap}
variable {fII fIW a_rest : Addr}
theorem sc_stops_of : FnScope ["lines", "stops", "walks", "begin", "trail", "at", "passed"] ["lines"] (defScope s_stops_of) := ⟨rfl, rfl, rfl, by decide +kernel, rfl, by decide +kernel, by decide +kernel⟩
theorem ok_stops_of {f : Addr} {fd fd_rest : FuncData} (F : Fun K "stops_of" "stops_of" s_stops_of f fd) (T : TxtF K mg fII fIW) (h_range : mg "range" = none)
    (GR : FnOk P w K mg base CX0 1 a_rest fd_rest ["trail", "at"] (spRest K)) (b_rest : Binds K fd_rest ["trail", "at"] []) (g_rest : mg "rest_of" = some (.ref a_rest)) (k_rest : PySem.W.keepIn K (.ref a_rest) = true) : FnOk P w K mg base CX0 2 f fd ["lines"] spStops := by
  refine F.ok sc_stops_of (fun vs H Q E h => ?_) (fun cdv A outer s H vs Q E hr h => ?_)
  · obtain ⟨a, xs, rs, rfl, _⟩ := h
    rfl
  · obtain ⟨a, xs, rs, rfl, ha, rows, ok, big, k⟩ := h
    refine ⟨_, (pss_cons (ps_set (i := 1) sc_stops_of.nd rfl (Or.inl rfl) (pe_op op_repG (pe_lstG (pa_cons (pe_un un_neg pe_int) pa_nil)) (pe_callB call_len_seq (by rfl) T.b_len PySem.boot_len (pa_cons (pv 0) pa_nil))))
      (pss_cons (ps_set (i := 2) sc_stops_of.nd rfl (Or.inl rfl) (pe_op op_repG (pe_lstG (pa_cons (pe_un un_neg pe_int) pa_nil)) (pe_callB call_len_seq (by rfl) T.b_len PySem.boot_len (pa_cons (pv 0) pa_nil))))
      (pss_cons (ps_for PassesOwn.never rfl (pi_range1 (by rfl) h_range (pa_cons (pe_callB call_len_seq (by rfl) T.b_len PySem.boot_len (pa_cons (pv 0) pa_nil)) pa_nil)) (pg_name (i := 3) sc_stops_of.nd rfl (Or.inl rfl)) (pss_cons (ps_set (i := 4) sc_stops_of.nd rfl (Or.inl rfl) (pe_lstG pa_nil))
      (pss_cons (ps_set (i := 5) sc_stops_of.nd rfl (Or.inl rfl) (pv 3))
      (pss_cons (ps_while PassesOwn.never (pt_imp (t' := tOn) (PW.pt (pw_and (pt_cmpR op_lt (pe_ix ix_list (pv 1) (pv 5) (fun _ _ => rfl)) pe_int (nomark _)) (pw_and (pt_cmpR op_ne (pe_ix ix_list (pv 2) (pv 5) (fun _ _ => rfl)) (pv 3) (nomark _)) (pw_and1 (pt_cmpR op_eq (pe_ix ix_tup (pe_ix ix_list (pv 0) (pv 5) (fun _ _ => rfl)) pe_int (fun _ _ => rfl)) pe_str (nomark _)))))) (fun σ H Q q => by
      obtain ⟨a, sa, wa, xs, rs, b, k, ss, ws, v4, v6, rfl, ha, rows, hs, hw, lt, q⟩ := q
      obtain ⟨p, zs, d, ed, hx, _, hp⟩ := rows.at lt
      refine ⟨_, rfl, _, rfl, sa, _, _, _, rfl, rfl, SqL.of hs, fl_at lt, _, _, rfl, rfl, _, rfl, ?_⟩
      refine ite2 (fun h1 => ?_) (fun h1 => ?_)
      · refine ⟨_, rfl, _, rfl, wa, _, _, _, rfl, rfl, SqL.of hw, fl_at lt, _, rfl, rfl, _, rfl, ?_⟩
        rw [di]
        refine ite2 (fun h2 => ?_) (fun h2 => ?_)
        · refine ⟨_, rfl, _, rfl, a, xs, _, _, rfl, rfl, SqL.of ha, atI_nat hx, p, _, _, _, rfl, rfl, .inl (.inl hp), at0', rfl, _, rfl, ?_⟩
          rw [go_dec ed]
          have e : goOn rs b k ss ws = isGo rs (way rs k b) := by
            unfold goOn
            rw [h1, h2]
            rfl
          rw [e] at q
          exact q
        · have e : goOn rs b k ss ws = false := by
            unfold goOn
            rw [h1, Bool.eq_false_iff.mpr h2]
            rfl
          rw [e] at q
          exact q
      · have e : goOn rs b k ss ws = false := by
          unfold goOn
          rw [Bool.eq_false_iff.mpr h1]
          rfl
        rw [e] at q
        exact q)) (pss_cons (ps_asg (pv 3) (pg_sub (pv 2) (pv 5) set_list))
      (pss_cons (ps_expr (pe_bm PySem.F.plainAttrs_list PySem.F.slot_list_append PySem.F.type_list_append mt_append (pv 4) (pa_cons (pv 5) pa_nil)))
      (pss_one (ps_set (i := 5) sc_stops_of.nd rfl (Or.inl rfl) (pe_ix ix_tup (pe_ix ix_list (pv 0) (pv 5) (fun _ _ => rfl)) pe_int (fun _ _ => rfl)))))))
      (pss_cons (ps_imp (t' := tSettle) (ps_if (pt_cmpR op_lt (pe_ix ix_list (pv 1) (pv 5) (fun _ _ => rfl)) pe_int (nomark _)) (pss_one (ps_asg (pe_call GR (hr.mono (by decide)) (by rfl) g_rest k_rest b_rest .nil pass0 (pa_cons (pv 4) (pa_cons (pv 5) pa_nil))) (pg_sub (pv 1) (pv 5) set_list))) pss_nil) (fun D σ H q => by
      obtain ⟨H0, sa, wa, ta, rs, b, k, ss, ws, v0, v6, rfl, ok, hb, t, tas, et, any, iw, ge, kk⟩ := q
      have lt : way rs k b < rs.length := Mach.itr_lt (nxt_lt ok) k b hb
      refine ⟨_, rfl, _, rfl, sa, _, _, _, rfl, rfl, SqL.of t.s, fl_at lt, _, _, rfl, rfl, _, rfl, ?_⟩
      refine ite2 (fun h1 => ?_) (fun h1 => ?_)
      · refine ⟨_, rfl, _, rfl, ta, (List.range k).map fun j => (way rs j b : Int), _, rfl, by rw [et, List.map_map]; rfl, fun m H' s1 rest => ?_⟩
        refine ⟨_, rfl, _, rfl, sa, _, _, way rs k b, rfl, rfl, s1 _ _ t.s, by rw [fl_len]; exact ixn lt, ?_⟩
        have e := iw.rest ok hb any ge (of_decide_eq_true h1) rest
        subst e
        exact kk _ _ ((t.go s1).setS lt) (by rw [upd_ne tas]; exact s1 _ _ et) ((Up.refl _ _).set _) (set1_same _ _ _)
      · exact kk ss H t et (Up.refl _ _) ((any _ lt).elim (fun z => absurd (decide_eq_true (by omega)) h1) id)))
      (pss_one (ps_for PassesOwn.never rfl (pi_list (pv 4)) (pg_name (i := 6) sc_stops_of.nd rfl (Or.inl rfl)) (pss_one (ps_asg (pe_ix ix_list (pv 1) (pv 5) (fun _ _ => rfl)) (pg_sub (pv 1) (pv 6) set_list))))))))))
      (pss_one (ps_ret (pv 1)))))), ?_⟩
    have hl : (xs.length : Int) = rs.length := by rw [rows.1]
    have one : ∀ v : V, [v].length ≤ sizeLine := fun v => by rw [sizeLine_eq]; exact Nat.succ_le_of_lt (by decide)
    refine ⟨_, rfl, one _, fun p0 H1 n0 s1 e0 => ?_⟩
    have room : ∀ v : V, [v].length * (xs.length : Int).toNat ≤ sizeLine := fun v => by
      rw [sizeLine_eq, Int.toNat_natCast]
      have := rows.1
      show 1 * xs.length ≤ _
      omega
    refine ⟨_, rfl, a, xs, rfl, .inl (SqL.of (s1 _ _ ha)), ?_⟩
    refine ⟨p0, _, _, rfl, rfl, e0, by omega, by omega, room _, fun sa H2 n2 s2 e2 => ?_⟩
    refine ⟨_, rfl, one _, fun p1 H3 n3 s3 e3 => ?_⟩
    refine ⟨_, rfl, a, xs, rfl, .inl (SqL.of (s3 _ _ (s2 _ _ (s1 _ _ ha)))), ?_⟩
    refine ⟨p1, _, _, rfl, rfl, e3, by omega, by omega, room _, fun wa H4 n4 s4 e4 => ?_⟩
    have nsa : H sa = none := none_of s1 n2
    have nwa : H wa = none := none_of (s1.trans (s2.trans s3)) n4
    have nea : sa ≠ wa := fun z => by
      rw [← z, s3 _ _ e2] at n4
      cases n4
    have at0 : At H sa wa rs.length (fun _ => -1) (fun _ => -1) H4 := by
      refine ⟨s1.trans (s2.trans (s3.trans s4)), ?_, ?_, nsa, nwa, nea⟩
      · rw [s4 _ _ (s3 _ _ e2), Int.toNat_natCast, rows.1]
        exact congrArg (fun z => some (HO.lst z)) (fl_rep _)
      · rw [e4, Int.toNat_natCast, rows.1]
        exact congrArg (fun z => some (HO.lst z)) (fl_rep _)
    refine ⟨_, rfl, a, xs, rfl, .inl (SqL.of (s4 _ _ (s3 _ _ (s2 _ _ (s1 _ _ ha))))), ?_⟩
    rw [rows.1]
    refine ⟨_, rfl, by omega, by omega, for_range (n := rs.length) (fun b σ H' => ∃ (ss ws : Nat → Int) (v3 v4 v5 v6 : Option V), σ = [some (.ref a), some (.ref sa), some (.ref wa), v3, v4, v5, v6] ∧ At H sa wa rs.length ss ws H' ∧ StB rs b ss ws) ?_ (fun b σ H' hb z => ?_) (fun σ H' z => ?_)⟩
    · exact ⟨_, _, _, _, _, _, rfl, at0, fun _ _ => .inl rfl, fun i hi => absurd hi (Nat.not_lt_zero _), fun i hi => by show (-1 : Int) < 0; decide⟩
    · obtain ⟨ss, ws, v3, v4, v5, v6, rfl, t, stb⟩ := z
      have lt : ∀ j, way rs j b < rs.length := fun j => Mach.itr_lt (nxt_lt ok) j b hb
      have rowsIn : ∀ {H''}, Same H H'' → Rows H'' xs rs := fun s => rows.same s
      rw [Int.zero_add]
      refine ⟨Nat.zero_le _, fun ta H5 n5 s5 e5 => ?_⟩
      have t5 := t.go s5
      have nta : H ta = none := none_of t.same n5
      have tas : ta ≠ sa := fun z => by
        rw [z, t.s] at n5
        cases n5
      have taw : ta ≠ wa := fun z => by
        rw [z, t.w] at n5
        cases n5
      refine ⟨_, rfl, ?_⟩
      refine ⟨fun m σ H' => ∃ (k : Nat) (ws' : Nat → Int), m = rs.length - k ∧ σ = [some (.ref a), some (.ref sa), some (.ref wa), some (.int b), some (.ref ta), some (.int (way rs k b : Int)), v6] ∧ At H sa wa rs.length ss ws' H' ∧ H' ta = some (.lst ((List.range k).map fun j => V.int (way rs j b : Int))) ∧ InW rs b k ss ws', ⟨_, 0, ws, rfl, rfl, t5, e5, InW.start stb⟩, ?_⟩
      rintro m σ H' ⟨k', ws', rfl, rfl, t', et, iw⟩
      refine ⟨a, sa, wa, xs, rs, b, k', ss, ws', _, _, rfl, t'.same _ _ ha, rowsIn t'.same, t'.s, t'.w, lt k', ?_⟩
      refine ite2 (fun g => ?_) (fun g => ?_)
      · have g1 : ws' (way rs k' b) ≠ b ∧ isGo rs (way rs k' b) = true ∧ ss (way rs k' b) < 0 := by
          unfold goOn at g
          simp only [Bool.and_eq_true, decide_eq_true_eq, Bool.not_eq_true', decide_eq_false_iff_not] at g
          exact ⟨g.2.1, g.2.2, g.1⟩
        obtain ⟨g1, g2, g3⟩ := g1
        have g4 : ss (way rs k' b) = -1 := (stb.any _ (lt k')).elim id fun z => by omega
        obtain ⟨kk, hkk⟩ := isGo_row g2
        refine ⟨fun σ' H'' => ∃ ws'', σ' = [some (.ref a), some (.ref sa), some (.ref wa), some (.int b), some (.ref ta), some (.int (way rs (k' + 1) b : Int)), v6] ∧ At H sa wa rs.length ss ws'' H'' ∧ H'' ta = some (.lst ((List.range (k' + 1)).map fun j => V.int (way rs j b : Int))) ∧ InW rs b (k' + 1) ss ws'', fun σ' H'' ⟨ws'', z1, z2, z3, z4⟩ => ⟨rs.length - (k' + 1), by have := iw.room ok hb g1; omega, k' + 1, ws'', rfl, z1, z2, z3, z4⟩, ?_⟩
        refine ⟨_, rfl, _, rfl, _, rfl, wa, _, _, way rs k' b, rfl, rfl, t'.w, by rw [fl_len]; exact ixn (lt k'), ?_⟩
        have t2 := t'.setW (v := (b : Int)) (lt k')
        have et2 : upd H' wa (.lst ((fl rs.length ws').set (way rs k' b) (V.int b))) ta = some (.lst ((List.range k').map fun j => V.int (way rs j b : Int))) := by
          rw [upd_ne taw]
          exact et
        refine ⟨_, rfl, .inl ⟨rfl, _, SqL.of et2⟩, _, rfl, ta, _, _, rfl, rfl, et2, by rw [List.length_map, List.length_range, sizeLine_eq]; have := iw.room ok hb g1; omega, ?_⟩
        have t3 := t2.other (o := .lst ((List.range k').map (fun j => V.int (way rs j b : Int)) ++ [V.int (way rs k' b : Int)])) nta tas taw
        obtain ⟨x, hx1, hx2⟩ := rows.2 _ _ hkk
        obtain ⟨q, rfl, hq⟩ := hx2
        refine ⟨_, rfl, _, rfl, a, xs, _, _, rfl, rfl, SqL.of (t3.same _ _ ha), atI_nat hx1, q, _, _, _, rfl, rfl, .inl (.inl (t3.same _ _ hq)), at1', ?_⟩
        have e1 : kk = (way rs (k' + 1) b : Int) := by
          have : way rs (k' + 1) b = nxt rs (way rs k' b) := Mach.itr_succ _ _ _
          rw [this]
          unfold nxt
          rw [hkk]
          have := ok _ _ hkk
          show kk = (kk.toNat : Int)
          omega
        refine ⟨_, ?_, t3, ?_, iw.more ok hb g4 g1 g2⟩
        · rw [e1]
          rfl
        · rw [upd_same, range_snoc]
      · refine ⟨H, sa, wa, ta, rs, b, k', ss, ws', _, _, rfl, ok, hb, t', tas, et, stb.any, iw, Bool.eq_false_iff.mpr g, fun ss1 H6 t6 et6 up6 st6 => ?_⟩
        have stw : ∀ i, stp rs (way rs i b) = stp rs b := fun i => stp_way ok i b hb
        refine ⟨_, rfl, ta, rfl, ⟨_, SqL.of et6⟩, for_list (K := K) (a := ta) (xs := (List.range k').map fun j => V.int (way rs j b : Int)) (fun j σ H7 => ∃ (ss2 : Nat → Int) (v6 : Option V), σ = [some (.ref a), some (.ref sa), some (.ref wa), some (.int b), some (.ref ta), some (.int (way rs k' b : Int)), v6] ∧ At H sa wa rs.length ss2 ws' H7 ∧ H7 ta = some (.lst ((List.range k').map fun j => V.int (way rs j b : Int))) ∧ Up rs ss ss2 ∧ ss2 (way rs k' b) = stp rs b ∧ ∀ i, i < j → ss2 (way rs i b) = stp rs b)
          ⟨ss1, _, rfl, t6, et6, up6, by rw [st6, stw], fun i hi => absurd hi (Nat.not_lt_zero _)⟩ (fun i σ H7 _ z => by obtain ⟨_, _, _, _, z, _⟩ := z; exact SqL.of z) (fun j x σ H7 hx z => ?_) (fun σ H7 z => ?_)⟩
        · obtain ⟨ss2, w6, rfl, t7, et7, up7, st7, dn7⟩ := z
          have hj : j < k' := by
            have := (List.getElem?_eq_some_iff.mp hx).1
            rw [List.length_map, List.length_range] at this
            exact this
          rw [List.getElem?_map, List.getElem?_range hj] at hx
          have hx2 : V.int (way rs j b : Int) = x := Option.some.inj hx
          subst hx2
          refine ⟨_, rfl, _, rfl, sa, _, _, _, rfl, rfl, SqL.of t7.s, fl_at (lt k'), _, rfl, _, rfl, sa, _, _, way rs j b, rfl, rfl, t7.s, by rw [fl_len]; exact ixn (lt j), ?_⟩
          rw [st7]
          refine ⟨set1 ss2 (way rs j b) (stp rs b), _, rfl, t7.setS (lt j), ?_, ?_, ?_, fun i hi => ?_⟩
          · rw [upd_ne tas]
            exact et7
          · have := up7.set (way rs j b)
            rw [stw] at this
            exact this
          · have := set1_done (rs := rs) (ss := ss2) (i := way rs k' b) (by rw [st7, stw]) (way rs j b)
            rw [stw, stw] at this
            exact this
          · by_cases z : i = j
            · rw [z]
              exact set1_same _ _ _
            · have := set1_done (rs := rs) (ss := ss2) (i := way rs i b) (by rw [dn7 i (by omega), stw]) (way rs j b)
              rw [stw, stw] at this
              exact this
        · obtain ⟨ss2, w6, rfl, t7, et7, up7, st7, dn7⟩ := z
          refine ⟨ss2, ws', _, _, _, _, rfl, t7, fun i hi => up7.any hi (stb.any i hi), fun i hi => ?_, fun i hi => ?_⟩
          · by_cases z : i = b
            · subst z
              by_cases k0 : k' = 0
              · subst k0
                exact st7
              · exact dn7 0 (by rw [List.length_map, List.length_range]; omega)
            · exact up7.done (by omega) (stb.done i (by omega))
          · have := iw.le i hi
            omega
    · obtain ⟨ss, ws, v3, v4, v5, v6, rfl, t, stb⟩ := z
      have e : (fl rs.length ss) = fl rs.length fun i => (stp rs i : Int) := List.map_congr_left fun i hi => by rw [stb.done i (List.mem_range.mp hi)]
      exact ⟨_, rfl, k sa H' nsa t.same (by rw [t.s, e])⟩
end
end Mine

set_option maxRecDepth 100000
set_option maxHeartbeats 4000000
namespace Mine
open PySem L2
abbrev s_nexts_of : Stmt := top 31
abbrev s_rests_from : Stmt := top 30
def nextsD : RowD → List Int
  | .ask _ ns => ns
  | _ => []
def targets : RowD → List Int
  | .ask _ ns => ns
  | .go k => [k]
  | .fin _ => []
/-- all rows lead to rows -/
def Fit (rs : List RowD) : Prop := ∀ (i : Nat) (d : RowD), rs[i]? = some d → ∀ n ∈ targets d, 0 ≤ n ∧ n < rs.length
theorem Fit.go {rs : List RowD} (f : Fit rs) : GoOk rs := fun i k e => f i _ e k List.mem_cons_self
theorem Fit.nexts {rs : List RowD} (f : Fit rs) {i : Nat} {d : RowD} (e : rs[i]? = some d) {n : Int} (h : n ∈ nextsD d) : 0 ≤ n ∧ n < rs.length := f i d e n (by cases d <;> first | exact h | exact nomatch h)
def addTo (m : List Nat) (i : Nat) : List Nat := if i ∈ m then m else m ++ [i]
def grow (rs : List RowD) (m : List Nat) (ns : List Int) : List Nat := ns.foldl (fun m n => addTo m (stp rs n.toNat)) m
def metS (rs : List RowD) (m : List Nat) (d : Nat) : List Nat := match m[d]? with
  | some i => grow rs m (match rs[i]? with | some r => nextsD r | none => [])
  | none => m
def metAt (rs : List RowD) (b : Nat) : Nat → List Nat
  | 0 => [stp rs b]
  | d + 1 => metS rs (metAt rs b d) d
/-- the rows of rest that a run can come to, breadth first -/
def metOf (rs : List RowD) (b : Nat) : List Nat := metAt rs b rs.length
theorem stp_lt {rs : List RowD} (h : GoOk rs) {i : Nat} (hi : i < rs.length) : stp rs i < rs.length := Mach.stop_lt (nxt_lt h) hi
/-- no double, all below -/
def Few (n : Nat) (m : List Nat) : Prop := m.Nodup ∧ ∀ x ∈ m, x < n
theorem Few.len {n : Nat} {m : List Nat} (f : Few n m) : m.length ≤ n := Mach.pigeon n m f.1 f.2
theorem Few.add {n i : Nat} {m : List Nat} (f : Few n m) (h : i < n) : Few n (addTo m i) := by
  unfold addTo
  by_cases e : i ∈ m
  · rw [if_pos e]
    exact f
  · rw [if_neg e]
    refine ⟨?_, fun x hx => (List.mem_append.mp hx).elim (f.2 x) fun z => by rw [List.mem_singleton.mp z]; exact h⟩
    rw [List.nodup_append]
    exact ⟨f.1, by simp, fun x hx y hy z => by rw [List.mem_singleton.mp hy] at z; exact e (z ▸ hx)⟩
theorem grow_few {rs : List RowD} (ok : GoOk rs) : ∀ {ns : List Int} {m : List Nat}, Few rs.length m → (∀ n ∈ ns, 0 ≤ n ∧ n < rs.length) → Few rs.length (grow rs m ns)
  | [], _, f, _ => f
  | n :: ns, m, f, h => grow_few ok (ns := ns) (f.add (stp_lt ok (by have := h n List.mem_cons_self; omega))) fun x hx => h x (List.mem_cons_of_mem _ hx)
theorem add_len {m : List Nat} {i : Nat} : m.length ≤ (addTo m i).length := by
  unfold addTo
  split
  · exact Nat.le_refl _
  · rw [List.length_append]
    exact Nat.le_add_right _ _
theorem grow_len {rs : List RowD} : ∀ {ns : List Int} {m : List Nat}, m.length ≤ (grow rs m ns).length
  | [], _ => Nat.le_refl _
  | n :: ns, m => Nat.le_trans add_len (grow_len (ns := ns))
theorem metAt_few {rs : List RowD} (f : Fit rs) {b : Nat} (hb : b < rs.length) : ∀ d, Few rs.length (metAt rs b d)
  | 0 => ⟨by show [stp rs b].Nodup; simp, fun x hx => by rw [List.mem_singleton.mp hx]; exact stp_lt f.go hb⟩
  | d + 1 => by
    have ih := metAt_few f hb d
    show Few _ (metS rs (metAt rs b d) d)
    unfold metS
    split
    · rename_i i e
      refine grow_few f.go ih fun n hn => ?_
      split at hn
      · rename_i r er
        exact f.nexts er hn
      · exact nomatch hn
    · exact ih
theorem metAt_over {rs : List RowD} {b d : Nat} (h : (metAt rs b d).length ≤ d) : ∀ k, metAt rs b (d + k) = metAt rs b d
  | 0 => rfl
  | k + 1 => by
    have ih := metAt_over h k
    show metS rs (metAt rs b (d + k)) (d + k) = _
    rw [ih]
    unfold metS
    rw [List.getElem?_eq_none (by omega)]
theorem metAt_end {rs : List RowD} {b d : Nat} (hd : d ≤ rs.length) (h : (metAt rs b d).length ≤ d) : metAt rs b d = metOf rs b := by
  have := metAt_over h (rs.length - d)
  rw [show d + (rs.length - d) = rs.length by omega] at this
  exact this.symm
theorem metAt_step {rs : List RowD} {b d i : Nat} {r : RowD} (h : (metAt rs b d)[d]? = some i) (hr : rs[i]? = some r) : metAt rs b (d + 1) = grow rs (metAt rs b d) (nextsD r) := by
  show metS rs (metAt rs b d) d = _
  unfold metS
  rw [h]
  show grow rs _ (match rs[i]? with | some r => nextsD r | none => []) = _
  rw [hr]
def natsV (m : List Nat) : List V := m.map fun (i : Nat) => V.int (i : Int)
def knK (m : List Nat) : List (Key × V) := m.map fun (i : Nat) => (Sum.inl (i : Int), V.bl true)
theorem val_kn (m : List Nat) (j : Nat) : (valV (knK m) (.inl (j : Int))).isSome = decide (j ∈ m) := by
  induction m with
  | nil => rfl
  | cons i m ih =>
    by_cases h : i = j
    · subst h
      unfold knK
      rw [List.map_cons, valV_pos rfl]
      simp
    · have h2 : ¬ (Sum.inl (i : Int) : Key) = Sum.inl (j : Int) := fun z => h (by have := Sum.inl.inj z; omega)
      unfold knK at ih ⊢
      rw [List.map_cons, valV_neg h2, ih]
      by_cases q : j ∈ m
      · rw [decide_eq_true q, decide_eq_true (List.mem_cons_of_mem _ q)]
      · rw [decide_eq_false q, decide_eq_false (fun z => (List.mem_cons.mp z).elim (fun y => h y.symm) q)]
/-- both lists of what was met stand there -/
structure MetI (H0 : Hp) (ma ka : Addr) (m : List Nat) (H : Hp) : Prop where
  same : Same H0 H
  em : H ma = some (.lst (natsV m))
  ek : H ka = some (.dK (knK m))
  nm : H0 ma = none
  nk : H0 ka = none
  ne : ma ≠ ka
theorem MetI.go {H0 H H' : Hp} {ma ka : Addr} {m : List Nat} (t : MetI H0 ma ka m H) (s : Same H H') : MetI H0 ma ka m H' := ⟨t.same.trans s, s _ _ t.em, s _ _ t.ek, t.nm, t.nk, t.ne⟩
theorem MetI.put {H0 H : Hp} {ma ka : Addr} {m : List Nat} {i : Nat} (t : MetI H0 ma ka m H) (h : i ∉ m) : MetI H0 ma ka (addTo m i) (upd (upd H ka (.dK (putK (knK m) (.inl (i : Int)) (.bl true)))) ma (.lst (natsV m ++ [.int (i : Int)]))) := by
  have e : addTo m i = m ++ [i] := if_neg h
  refine ⟨same_updN (same_updN t.same t.nk) t.nm, ?_, ?_, t.nm, t.nk, t.ne⟩
  · rw [upd_same, e]
    unfold natsV
    rw [List.map_append]
    rfl
  · rw [upd_ne (Ne.symm t.ne), upd_same, putK_new, e]
    · unfold knK
      rw [List.map_append]
      rfl
    · have := val_kn m i
      rw [decide_eq_false h] at this
      cases q : valV (knK m) (.inl (i : Int)) with
      | none => rfl
      | some v =>
        rw [q] at this
        cases this
def spNextsOf : Sp := fun vs H Q _ => ∃ (q : Addr) (d : RowD), vs = [.ref q] ∧ TRow H (.ref q) d ∧ ∀ (t : Addr) (H' : Hp), Same H H' → H' t = some (.tup ((nextsD d).map V.int)) → Q (.ref t) H'
def spRests : Sp := fun vs H Q _ => ∃ (a sa : Addr) (xs : List V) (rs : List RowD) (b : Nat), vs = [.ref a, .ref sa, .int b] ∧ H a = some (.lst xs) ∧ Rows H xs rs ∧ Fit rs ∧ H sa = some (.lst (fl rs.length fun i => (stp rs i : Int))) ∧ b < rs.length ∧ rs.length ≤ 100000 ∧ New H (.lst (natsV (metOf rs b))) Q
section
variable {P : Program} {w : World} {K : PySem.W.Frag} {mg : Str → Option Value} {base : Heap}
variable {fII fIW a_nexts : Addr}
theorem sc_nexts_of : FnScope ["line"] ["line"] (defScope s_nexts_of) := ⟨rfl, rfl, rfl, by decide +kernel, rfl, by decide +kernel, by decide +kernel⟩
theorem ok_nexts_of {f : Addr} {fd : FuncData} (F : Fun K "nexts_of" "nexts_of" s_nexts_of f fd) : FnOk P w K mg base CX0 1 f fd ["line"] spNextsOf := by
  refine F.ok sc_nexts_of (fun vs H Q E h => ?_) (fun cdv A outer s H vs Q E hr h => ?_)
  · obtain ⟨q, d, rfl, _⟩ := h
    rfl
  · obtain ⟨q, d, rfl, row, k⟩ := h
    refine ⟨_, (pss_cons (ps_if (pt_cmpR op_eq (pe_ix ix_tup (pv 0) pe_int (fun _ _ => rfl)) pe_str (nomark _)) (pss_one (ps_ret (pe_ix ix_tup (pv 0) pe_int (fun _ _ => rfl)))) pss_nil)
      (pss_one (ps_ret (pe_tupG pa_nil)))), ?_⟩
    cases d with
    | ask op ns =>
      obtain ⟨a, t, e, h1, h2⟩ := row
      cases e
      refine ⟨_, rfl, _, _, _, _, rfl, rfl, .inl (.inl h1), at0', rfl, _, rfl, ?_⟩
      rw [strEq]
      refine iteT ?_
      exact ⟨_, rfl, _, _, _, _, rfl, rfl, .inl (.inl h1), at2', k t H (Same.refl _) h2⟩
    | go n =>
      obtain ⟨a, e, h1⟩ := row
      cases e
      refine ⟨_, rfl, _, _, _, _, rfl, rfl, .inl (.inl h1), at0', rfl, _, rfl, ?_⟩
      rw [strNe go_ask]
      refine iteF ?_
      exact ⟨Nat.zero_le _, fun t H' n s e => k t H' s e⟩
    | fin x =>
      obtain ⟨a, e, h1⟩ := row
      cases e
      refine ⟨_, rfl, _, _, _, _, rfl, rfl, .inl (.inl h1), at0', rfl, _, rfl, ?_⟩
      rw [strNe end_ask]
      refine iteF ?_
      exact ⟨Nat.zero_le _, fun t H' n s e => k t H' s e⟩
theorem sc_rests_from : FnScope ["lines", "stops", "begin", "met", "known", "done", "index"] ["lines", "stops", "begin"] (defScope s_rests_from) := ⟨rfl, rfl, rfl, by decide +kernel, rfl, by decide +kernel, by decide +kernel⟩
theorem ok_rests_from {f : Addr} {fd fd_nexts : FuncData} (F : Fun K "rests_from" "rests_from" s_rests_from f fd) (T : TxtF K mg fII fIW)
    (GN : FnOk P w K mg base CX0 1 a_nexts fd_nexts ["line"] spNextsOf) (b_nexts : Binds K fd_nexts ["line"] []) (g_nexts : mg "nexts_of" = some (.ref a_nexts)) (k_nexts : PySem.W.keepIn K (.ref a_nexts) = true) : FnOk P w K mg base CX0 2 f fd ["lines", "stops", "begin"] spRests := by
  refine F.ok sc_rests_from (fun vs H Q E h => ?_) (fun cdv A outer s H vs Q E hr h => ?_)
  · obtain ⟨a, sa, xs, rs, b, rfl, _⟩ := h
    rfl
  · obtain ⟨a, sa, xs, rs, b, rfl, ha, rows, fit, hs, hb, big, k⟩ := h
    refine ⟨_, (pss_cons (ps_set (i := 3) sc_rests_from.nd rfl (Or.inl rfl) (pe_lstG (pa_cons (pe_ix ix_list (pv 1) (pv 2) (fun _ _ => rfl)) pa_nil)))
      (pss_cons (ps_set (i := 4) sc_rests_from.nd rfl (Or.inl rfl) (pe_disp (pps_cons (pe_ix ix_list (pv 1) (pv 2) (fun _ _ => rfl)) pe_bl pps_nil) rfl rfl (fun z => by cases z) (by show 1 ≤ 15; decide)))
      (pss_cons (ps_set (i := 5) sc_rests_from.nd rfl (Or.inl rfl) pe_int)
      (pss_cons (ps_while PassesOwn.never (pt_cmpR op_lt (pv 5) (pe_callB call_len_seq (by rfl) T.b_len PySem.boot_len (pa_cons (pv 3) pa_nil)) (nomark _)) (pss_cons (ps_for PassesOwn.never rfl (pi_tup (pe_call GN (hr.mono (by decide)) (by rfl) g_nexts k_nexts b_nexts .nil pass0 (pa_cons (pe_ix ix_list (pv 0) (pe_ix ix_list (pv 3) (pv 5) (fun _ _ => rfl)) (fun _ _ => rfl)) pa_nil))) (pg_name (i := 6) sc_rests_from.nd rfl (Or.inl rfl)) (pss_one (ps_if (pt_cmp (pc_dnotin (hu_of hr) (pe_ix ix_list (pv 1) (pv 6) (fun _ _ => rfl)) (pv 4)) rfl) (pss_cons (ps_asg pe_bl (pg_sub (pv 4) (pe_ix ix_list (pv 1) (pv 6) (fun _ _ => rfl)) (set_dict (hu_of hr))))
      (pss_one (ps_expr (pe_bm PySem.F.plainAttrs_list PySem.F.slot_list_append PySem.F.type_list_append mt_append (pv 3) (pa_cons (pe_ix ix_list (pv 1) (pv 6) (fun _ _ => rfl)) pa_nil))))) pss_nil)))
      (pss_one (ps_aug (i := 5) sc_rests_from.nd rfl (Or.inl rfl) pe_int ip_add))))
      (pss_one (ps_ret (pv 3))))))), ?_⟩
    have one : ∀ v : V, [v].length ≤ sizeLine := fun v => by rw [sizeLine_eq]; exact Nat.succ_le_of_lt (by decide)
    refine ⟨_, rfl, _, rfl, sa, _, _, _, rfl, rfl, SqL.of hs, fl_at hb, one _, fun ma H1 n1 s1 e1 => ?_⟩
    refine fun ka nk => ?_
    have e2 : upd H1 ka (.dK []) sa = some (.lst (fl rs.length fun i => (stp rs i : Int))) := sameNew nk _ _ _ (s1 _ _ hs)
    refine ⟨_, rfl, _, rfl, sa, _, _, _, rfl, rfl, SqL.of e2, fl_at hb, ?_⟩
    refine ⟨upd_same, [(.inl (stp rs b : Int), .bl true)], rfl, by show 1 ≤ 15; decide, ?_⟩
    have mi : MetI H ma ka [stp rs b] (upd (upd H1 ka (.dK [])) ka (.dK (mergeK [] [(.inl (stp rs b : Int), .bl true)]))) := by
      have ne : ma ≠ ka := fun z => by
        rw [← z, e1] at nk
        cases nk
      refine ⟨?_, ?_, ?_, n1, none_of s1 nk, ne⟩
      · exact same_updN (same_updN s1 (none_of s1 nk)) (none_of s1 nk)
      · rw [upd_ne ne, upd_ne ne]
        exact e1
      · rw [upd_same]
        rfl
    refine ⟨fun m σ H' => ∃ (d : Nat) (v6 : Option V), m = rs.length - d ∧ σ = [some (.ref a), some (.ref sa), some (.int b), some (.ref ma), some (.ref ka), some (.int (d : Int)), v6] ∧ MetI H ma ka (metAt rs b d) H' ∧ d ≤ (metAt rs b d).length, ⟨_, 0, none, rfl, rfl, mi, Nat.zero_le _⟩, ?_⟩
    rintro m σ H' ⟨d, v6, rfl, rfl, t, hd⟩
    have few := metAt_few fit hb d
    have fl1 := few.len
    have nl : ∀ m : List Nat, (natsV m).length = m.length := fun m => List.length_map _
    refine ⟨_, rfl, _, rfl, ma, _, rfl, .inl (SqL.of t.em), _, _, rfl, rfl, _, rfl, ?_⟩
    rw [nl]
    refine ite2 (fun h1 => ?_) (fun h1 => ?_)
    · have hlt : d < (metAt rs b d).length := by
        have := of_decide_eq_true h1
        omega
      obtain ⟨i, ei⟩ : ∃ i, (metAt rs b d)[d]? = some i := ⟨_, List.getElem?_eq_getElem hlt⟩
      have hi : i < rs.length := few.2 _ (List.mem_of_getElem? ei)
      obtain ⟨q, zs, dd, ed, hx, row, hq⟩ := rows.at hi
      have st := metAt_step ei ed
      refine ⟨fun σ' H'' => ∃ v6, σ' = [some (.ref a), some (.ref sa), some (.int b), some (.ref ma), some (.ref ka), some (.int ((d + 1 : Nat) : Int)), v6] ∧ MetI H ma ka (metAt rs b (d + 1)) H'', fun σ' H'' ⟨v6, z1, z2⟩ => ⟨rs.length - (d + 1), by omega, d + 1, v6, rfl, z1, z2, by rw [st]; exact Nat.le_trans hlt grow_len⟩, ?_⟩
      have en : (natsV (metAt rs b d))[d]? = some (.int (i : Int)) := by
        unfold natsV
        rw [List.getElem?_map, ei]
        rfl
      refine ⟨_, rfl, _, rfl, _, rfl, ma, _, _, _, rfl, rfl, SqL.of t.em, atI_nat en, a, xs, _, _, rfl, rfl, SqL.of (t.same _ _ ha), atI_nat hx, q, dd, rfl, row.same t.same, fun tt H2 s2 et => ?_⟩
      refine ⟨tt, rfl, ⟨_, .inl (.inl et)⟩, for_tup (K := K) (a := tt) (xs := (nextsD dd).map V.int) (fun j σ H3 => ∃ v6, σ = [some (.ref a), some (.ref sa), some (.int b), some (.ref ma), some (.ref ka), some (.int (d : Int)), v6] ∧ MetI H ma ka (grow rs (metAt rs b d) ((nextsD dd).take j)) H3 ∧ H3 tt = some (.tup ((nextsD dd).map V.int))) ⟨_, rfl, t.go s2, et⟩ (fun j σ H3 _ z => by obtain ⟨_, _, _, z⟩ := z; exact .inl (.inl z)) (fun j x σ H3 hx z => ?_) (fun σ H3 z => ?_)⟩
      · obtain ⟨w6, rfl, t3, et3⟩ := z
        have hj : j < (nextsD dd).length := by
          have := (List.getElem?_eq_some_iff.mp hx).1
          rw [List.length_map] at this
          exact this
        have ej : (nextsD dd)[j]? = some (nextsD dd)[j] := List.getElem?_eq_getElem hj
        generalize (nextsD dd)[j] = n at ej
        rw [List.getElem?_map, ej] at hx
        have hx2 : V.int n = x := Option.some.inj hx
        subst hx2
        have mem := List.mem_of_getElem? ej
        obtain ⟨n0, n1⟩ := fit.nexts ed mem
        have e0 : n = (n.toNat : Int) := by omega
        have hn : n.toNat < rs.length := by omega
        have atS : atI (fl rs.length fun i => (stp rs i : Int)) n = some (V.int (stp rs n.toNat : Int)) := by
          conv => lhs; rw [e0]
          exact fl_at hn
        have few3 : Few rs.length (grow rs (metAt rs b d) ((nextsD dd).take j)) := grow_few fit.go few fun x hx => fit.nexts ed (List.mem_of_mem_take hx)
        have len3 := few3.len
        have tk : grow rs (metAt rs b d) ((nextsD dd).take (j + 1)) = addTo (grow rs (metAt rs b d) ((nextsD dd).take j)) (stp rs n.toNat) := by
          unfold grow
          rw [List.take_succ, ej, List.foldl_append]
          rfl
        refine ⟨_, rfl, _, rfl, sa, _, _, _, rfl, rfl, SqL.of (t3.same _ _ hs), atS, _, rfl, ka, _, rfl, .inl ⟨_, .inl (stp rs n.toNat : Int), .inl t3.ek, rfl, rfl⟩, _, rfl, ?_⟩
        rw [val_kn]
        refine ite2 (fun h2 => ?_) (fun h2 => ?_)
        · have nin : stp rs n.toNat ∉ grow rs (metAt rs b d) ((nextsD dd).take j) := fun z => by
            rw [decide_eq_true z] at h2
            cases h2
          have kl : (knK (grow rs (metAt rs b d) ((nextsD dd).take j))).length < sizeLine := by
            unfold knK
            rw [List.length_map, sizeLine_eq]
            omega
          refine ⟨_, rfl, _, rfl, _, rfl, sa, _, _, _, rfl, rfl, SqL.of (t3.same _ _ hs), atS, ka, _, rfl, .inl ⟨_, .inl (stp rs n.toNat : Int), t3.ek, rfl, kl, rfl⟩, ?_⟩
          have s4 : Same H (upd H3 ka (.dK (putK (knK (grow rs (metAt rs b d) ((nextsD dd).take j))) (.inl (stp rs n.toNat : Int)) (.bl true)))) := same_updN t3.same t3.nk
          have em4 : upd H3 ka (.dK (putK (knK (grow rs (metAt rs b d) ((nextsD dd).take j))) (.inl (stp rs n.toNat : Int)) (.bl true))) ma = some (.lst (natsV (grow rs (metAt rs b d) ((nextsD dd).take j)))) := by
            rw [upd_ne t3.ne]
            exact t3.em
          refine ⟨_, rfl, .inl ⟨rfl, _, SqL.of em4⟩, _, rfl, _, rfl, sa, _, _, _, rfl, rfl, SqL.of (s4 _ _ hs), atS, ma, _, _, rfl, rfl, em4, by rw [nl, sizeLine_eq]; omega, ?_⟩
          refine ⟨_, rfl, by rw [tk]; exact t3.put nin, ?_⟩
          have a1 : tt ≠ ma := fun z => by
            rw [z, t3.em] at et3
            cases et3
          have a2 : tt ≠ ka := fun z => by
            rw [z, t3.ek] at et3
            cases et3
          rw [upd_ne a1, upd_ne a2]
          exact et3
        · have yin : stp rs n.toNat ∈ grow rs (metAt rs b d) ((nextsD dd).take j) := by
            by_cases z : stp rs n.toNat ∈ grow rs (metAt rs b d) ((nextsD dd).take j)
            · exact z
            · rw [decide_eq_false z] at h2
              exact absurd rfl h2
          have ad : addTo (grow rs (metAt rs b d) ((nextsD dd).take j)) (stp rs n.toNat) = grow rs (metAt rs b d) ((nextsD dd).take j) := if_pos yin
          exact ⟨_, rfl, by rw [tk, ad]; exact t3, et3⟩
      · obtain ⟨w6, rfl, t3, et3⟩ := z
        refine ⟨_, rfl, _, _, rfl, rfl, _, rfl, ?_⟩
        rw [List.length_map, List.take_length, ← st] at t3
        exact t3
    · have hge : (metAt rs b d).length ≤ d := by
        by_cases z : (metAt rs b d).length ≤ d
        · exact z
        · exact absurd (decide_eq_true (by omega)) h1
      exact ⟨_, rfl, k ma H' t.nm t.same (by rw [t.em, metAt_end (by omega) hge])⟩
end
end Mine

set_option maxRecDepth 100000
set_option maxHeartbeats 4000000
/-! sorted(d), the keys texts, however many -/
namespace L2
open PySem PySem.Spec PyProof.Rows
theorem each_strs : ∀ {vs : List Value} {ks : List Str}, StrsAre vs ks → PySem.W.EachIs (fun v (k : Str) => ∃ t, v = Value.str k t) vs ks
  | _, _, .nil => .nil
  | _, _, .cons y t r => .cons ⟨t, rfl⟩ (each_strs r)
theorem strs_each : ∀ {vs : List Value} {ks : List Str}, PySem.W.EachIs (fun v (k : Str) => ∃ t, v = Value.str k t) vs ks → StrsAre vs ks
  | _, _, .nil => .nil
  | _, _, .cons h r => by
    obtain ⟨t, rfl⟩ := h
    exact .cons _ t (strs_each r)
theorem sorted_strs {ks : List Str} : sortedS (ks.mergeSort (PySem.W.dataLe false PyData.str)) = true := by
  have le : PySem.W.dataLe false PyData.str = fun a b : Str => decide (a.cps.toList ≤ b.cps.toList) := PySem.W.dataLe_str (fun k : Str => k)
  rw [le]
  have tr : ∀ a b c : Str, decide (a.cps.toList ≤ b.cps.toList) = true → decide (b.cps.toList ≤ c.cps.toList) = true → decide (a.cps.toList ≤ c.cps.toList) = true := fun a b c h1 h2 => decide_eq_true (List.le_trans (of_decide_eq_true h1) (of_decide_eq_true h2))
  have to : ∀ a b : Str, (decide (a.cps.toList ≤ b.cps.toList) || decide (b.cps.toList ≤ a.cps.toList)) = true := fun a b => by
    rcases List.le_total a.cps.toList b.cps.toList with h | h
    · rw [decide_eq_true h, Bool.true_or]
    · rw [decide_eq_true h, Bool.or_true]
  have p := List.pairwise_mergeSort tr to ks
  generalize ks.mergeSort (fun a b : Str => decide (a.cps.toList ≤ b.cps.toList)) = l at p
  cases l with
  | nil => rfl
  | cons x r =>
    refine risingS_of_pairwise x r (p.imp fun {a b} h => ?_)
    rw [ltCps_eq]
    exact decide_eq_false (List.not_lt.mpr (of_decide_eq_true h))
section
variable {X : Cx}
theorem call_sortedDA (hcalm : X.calm = true) (hu : X.A.units + 64 < cLine) : CallR X (.builtin "sorted") (fun xs H Q => ∃ (a : Addr) (kvs : List (Key × V)) (ks : List Str), xs = [.ref a] ∧ Rd H a (.dK kvs) ∧ kvs.map (·.1) = ks.map Sum.inr ∧ ks.length ≤ 100000 ∧
    ∀ ys p, ys.Perm ks → sortedS ys = true → H p = none → Q (.ref p) (upd H p (.lst (ys.map V.str)))) := by
  intro pins s σ H xs us Q I r q
  obtain ⟨a, kvs, ks, ex, hd, hks, h64, q⟩ := q
  subst ex
  obtain ⟨u, eu, rx⟩ := vals1 r
  subst eu
  cases rx
  obtain ⟨z, lo, vs, rel, dd⟩ := dk_rd I.hok hd
  obtain ⟨ep, hat⟩ := dd.dictAt
  have hkeys : vs.map (·.1) = ks.map Sum.inr := rel.keys.symm.trans hks
  have hl : vs.length = ks.length := by
    have e := congrArg List.length hkeys
    rw [List.length_map, List.length_map] at e
    exact e
  have h16 : vs.length ≤ sizeLine := by rw [hl, sizeLine_eq]; omega
  refine Calls.call_function_entry PyProof.Rows.kind_sorted PyProof.Rows.plain_sorted PyProof.Rows.entry_sorted (PyProof.Rows.args_sorted1 _) ?_
  unfold Builtin.«sorted»
  refine wpAny_bind (m := checkCount "sorted" 1 1 _) (wpAny_pure ?_)
  refine wpAny_bind (PySem.W.kdu_collect (A := X.A.in1) (PySem.W.kdl_dict (knd := mixKind X.prog X.w) (kvs := vs) (ep := ep) lo) (I.ok.hd hcalm) hat h16 fun h' tk acc hk hacc => ?_)
  have hal : acc.toList.length = ks.length := by rw [Array.length_toList, hacc.1, hl]
  have hS : StrsAre acc.toList ks := strs_at hal fun j v e => by
    obtain ⟨k, x, e1, e2⟩ := hacc.2 j v (by rw [← Array.getElem?_toList]; exact e)
    have e3 : (vs.map (·.1))[j]? = some k := by rw [List.getElem?_map, e1]; all_goals rfl
    rw [hkeys, List.getElem?_map] at e3
    cases e4 : ks[j]? with
    | none => rw [e4] at e3; cases e3
    | some y =>
      rw [e4] at e3
      have e5 : Sum.inr y = k := Option.some.inj e3
      subst e5
      obtain ⟨t, ev⟩ := Value.isStrOf_shape (x := y) (v := v) e2
      exact ⟨y, t, rfl, ev⟩
  have I1 : Inv X pins σ H { s with heap := h', toks := tk } := I.kept hk
  refine wpAny_bind (wpAny_newList ?_ (by rw [hal, sizeLine_eq]; omega))
  have hoL : (h'.push (seqObj "list" acc.toList.toArray 0)).get? h'.objs.size = some (seqObj "list" acc.toList.toArray 0) := Heap.get?_push_size _ rfl
  show wpAny _ _ _ _ _ { s with heap := h'.push (seqObj "list" acc.toList.toArray 0), toks := tk }
  refine wpAny_bind (wpAny_holding (PySem.W.list_sort_data (s := { s with heap := h'.push (seqObj "list" acc.toList.toArray 0), toks := tk }) (R := fun v (k : Str) => ∃ t, v = Value.str k t) (bs := ks) (enc := PyData.str) hoL (each_strs hS) ((each_strs hS).mono fun v k ⟨t, e⟩ => ⟨[], by rw [e]; exact .str k t, by simp⟩) (PySem.W.AllAlike.of fun _ _ => rfl) (PySem.W.Sortable.others fun k => ⟨nofun, nofun⟩) (by rw [sizeLine_eq]; omega) (fun k _ => ?_) fun out ho he => ?_))
  · show X.A.in1.units + 1 + 0 < cLine
    have : X.A.in1.units ≤ X.A.units + 1 := by first | exact Nat.le_refl _ | exact Nat.le_succ _
    omega
  have g1 := strs_each he
  have g2 : (ks.mergeSort (PySem.W.dataLe false PyData.str)).Perm ks := List.mergeSort_perm _ _
  obtain ⟨e', he'⟩ := PyProof.Rows.sortedHeap_at (vs := acc.toList) (out := List.toArray out) hoL
  have hlen : ((ks.mergeSort (PySem.W.dataLe false PyData.str)).map V.str).length ≤ sizeLine := by
    rw [List.length_map, g2.length_eq, sizeLine_eq]
    omega
  refine wpAny_pure ⟨_, rfl, .ref h'.objs.size, upd H h'.objs.size (.lst ((ks.mergeSort (PySem.W.dataLe false PyData.str)).map V.str)), I1.laid (t' := tk) (fun b u e => ?_) (Nat.le_refl _)
    (show ObjOk X.prog X.w _ _ _ (.lst ((ks.mergeSort (PySem.W.dataLe false PyData.str)).map V.str)) from ⟨hlen, out, e', vals_of_strs g1, he'⟩), rfl, q _ _ g2 sorted_strs (I1.hok.fresh (Nat.le_refl _))⟩
  have hb : b < h'.objs.size := Heap.lt_size e
  rw [PyProof.Rows.sortedHeap_old (Nat.ne_of_lt hb) (by rw [size_push']; exact Nat.lt_succ_of_lt hb)]
  exact Heap.get?_push_of_some _ e
end
end L2

set_option maxRecDepth 100000
set_option maxHeartbeats 4000000
namespace L2
open PySem PySem.Spec PyProof.Rows
/-- a dict comprehension over a list that stays -/
theorem dc_list {K : PySem.W.Frag} {a : Addr} {xs : List V} {g : TG} {tt : TT} {tk tv : TE} {vs : List Nat} {σ : St} {H1 : Hp} {D : Addr} {Qd : Hp → Prop} (Pv : Nat → Hp → Prop) (h0 : Pv 0 (upd H1 D (.dK []))) (hl : ∀ i H, i ≤ xs.length → Pv i H → SqL K H a xs)
    (hs : ∀ i x H, xs[i]? = some x → Pv i H → g x (wipe σ vs) H fun σ2 H2 => wipe σ2 vs = wipe σ vs ∧ tt σ2 H2 fun b H3 =>
      if b = true then tk σ2 H3 fun y H4 => tv σ2 H4 fun z H5 => ∃ kvs k, y = kV k ∧ H5 D = some (.dK kvs) ∧ kvs.length < sizeLine ∧ Pv (i + 1) (upd H5 D (.dK (putK kvs k z))) else Pv (i + 1) H3) (hd : ∀ H, Pv xs.length H → Qd H) :
    ∃ W : Nat → Nat → Hp → Prop, (∃ m, W 0 m (upd H1 D (.dK []))) ∧ ∀ i m H, W i m H →
      ((Itl K a).stop i H ∧ Qd H) ∨ ((Itl K a).go i H ∧ ∃ Nx : Hp → Prop, (∀ H', Nx H' → ∃ m', m' < m ∧ W (i + 1) m' H') ∧ ∀ x H', (Itl K a).yld i H x H' → g x (wipe σ vs) H' fun σ2 H2 => wipe σ2 vs = wipe σ vs ∧ tt σ2 H2 fun b H3 =>
        if b = true then tk σ2 H3 fun y H4 => tv σ2 H4 fun z H5 => ∃ kvs k, y = kV k ∧ H5 D = some (.dK kvs) ∧ kvs.length < sizeLine ∧ Nx (upd H5 D (.dK (putK kvs k z))) else Nx H3) := by
  refine ⟨fun i m H => m = xs.length - i ∧ i ≤ xs.length ∧ Pv i H, ⟨xs.length, by simp, Nat.zero_le _, h0⟩, ?_⟩
  rintro i m H ⟨rfl, hi, p⟩
  have q := hl i H hi p
  by_cases hlt : i < xs.length
  · refine .inr ⟨⟨xs, xs[i], q, by simp [hlt]⟩, Pv (i + 1), fun H' p' => ⟨xs.length - (i + 1), by omega, rfl, hlt, p'⟩, fun x H' y => ?_⟩
    obtain ⟨e, y⟩ := y
    subst e
    exact hs i x _ (y xs q) p
  · have e : i = xs.length := by omega
    subst e
    exact .inl ⟨⟨xs, q, Nat.le_refl _⟩, hd H p⟩
end L2
namespace Mine
open PySem L2
abbrev s_in_order : Stmt := top 21
abbrev s_firsts_of : Stmt := top 33
theorem Rd.same {H H' : Hp} {a : Addr} {o : HO} (s : Same H H') (h : Rd H a o) : Rd H' a o := h.elim (fun z => .inl (s _ _ z)) fun ⟨od, z⟩ => .inr ⟨od, s _ _ z⟩
/-- the number of a name -/
def lookI (o : Ops) (x : Str) : Int := (opLook o x).getD 0
theorem look_mem : ∀ {o : Ops}, (o.map (·.1)).Nodup → ∀ p ∈ o, opLook o p.1 = some p.2
  | p0 :: o, nd, p, h => by
    rw [List.map_cons, List.nodup_cons] at nd
    rcases List.mem_cons.mp h with e | h
    · subst e
      simp [opLook]
    · have ne : p0.1 ≠ p.1 := fun z => nd.1 (z ▸ List.mem_map_of_mem h)
      have ih := look_mem nd.2 p h
      unfold opLook at ih ⊢
      rw [List.find?_cons, decide_eq_false ne]
      exact ih
theorem look_some {o : Ops} (nd : (o.map (·.1)).Nodup) {x : Str} (h : x ∈ o.map (·.1)) : opLook o x = some (lookI o x) := by
  obtain ⟨p, hp, rfl⟩ := List.mem_map.mp h
  unfold lookI
  rw [look_mem nd p hp]
  rfl
def pick (o : Ops) (ys : List Str) : Ops := ys.map fun y => (y, lookI o y)
theorem pick_perm {o : Ops} (nd : (o.map (·.1)).Nodup) {ys : List Str} (p : ys.Perm (o.map (·.1))) : (pick o ys).Perm o := by
  have e : o = pick o (o.map (·.1)) := by
    unfold pick
    rw [List.map_map]
    refine (List.map_id o).symm.trans (List.map_congr_left fun q hq => ?_)
    show q = (q.1, lookI o q.1)
    unfold lookI
    rw [look_mem nd q hq]
    rfl
  conv => rhs; rw [e]
  exact p.map _
theorem pick_names {o : Ops} {ys : List Str} : (pick o ys).map (·.1) = ys := by
  unfold pick
  rw [List.map_map]
  exact List.map_id ys
theorem opsK_keys (o : Ops) : (opsK o).map (·.1) = (o.map (·.1)).map Sum.inr := by
  unfold opsK
  rw [List.map_map, List.map_map]
  rfl
theorem opsK_len (o : Ops) : (opsK o).length = o.length := List.length_map _
/-- the same operations, sorted -/
def Ordered (o o' : Ops) : Prop := o'.Perm o ∧ PyProof.Rows.sortedS (o'.map (·.1)) = true
def spOrder : Sp := fun vs H Q _ => ∃ (t : Addr) (o : Ops), vs = [.ref t] ∧ Rd H t (.dK (opsK o)) ∧ (o.map (·.1)).Nodup ∧ o.length < 64 ∧ ∀ o', Ordered o o' → New H (.dK (opsK o')) Q
theorem val_new {o : Ops} {ys : List Str} {i : Nat} {y : Str} (nd : ys.Nodup) (h : ys[i]? = some y) : valV (opsK (pick o (ys.take i))) (.inr y) = none := by
  rw [val_ops]
  have : opLook (pick o (ys.take i)) y = none := by
    unfold opLook
    rw [List.find?_eq_none.mpr]
    · rfl
    · intro p hp
      unfold pick at hp
      obtain ⟨z, hz, rfl⟩ := List.mem_map.mp hp
      intro q
      have e : z = y := of_decide_eq_true q
      subst e
      obtain ⟨j, hj⟩ := List.mem_iff_getElem?.mp hz
      rw [List.getElem?_take] at hj
      split at hj
      · rename_i lt
        have hjl := (List.getElem?_eq_some_iff.mp hj).1
        have hil := (List.getElem?_eq_some_iff.mp h).1
        have := (List.getElem?_inj hjl nd).mp (hj.trans h.symm)
        omega
      · cases hj
  rw [this]
  rfl
section
variable {P : Program} {w : World} {K : PySem.W.Frag} {mg : Str → Option Value} {base : Heap}
theorem sc_in_order : FnScope ["table", "name"] ["table"] (defScope s_in_order) := ⟨rfl, rfl, rfl, by decide +kernel, rfl, by decide +kernel, by decide +kernel⟩
theorem ok_in_order {f : Addr} {fd : FuncData} (F : Fun K "in_order" "in_order" s_in_order f fd) (h_sorted : mg "sorted" = none) : FnOk P w K mg base CX0 1 f fd ["table"] spOrder := by
  refine F.ok sc_in_order (fun vs H Q E h => ?_) (fun cdv A outer s H vs Q E hr h => ?_)
  · obtain ⟨t, o, rfl, _⟩ := h
    rfl
  · obtain ⟨t, o, rfl, ht, nd, few, k⟩ := h
    refine ⟨_, (pss_one (ps_ret (pe_dc (own := [("name", 1)]) (g := gName 1) (tt := tYes) rfl sc_in_order.nd (pi_list (pe_callB (call_sortedD rfl) (by rfl) h_sorted (by decide +kernel) (pa_cons (pv 0) pa_nil))) (blkOk_by (own := [("name", 1)]) (N := ["table", "name"]) (sc := defScope s_in_order) (by decide +kernel)) (fun _ _ _ _ _ => pg_name (i := 1) sc_in_order.nd rfl (Or.inl rfl)) (fun _ _ _ _ _ => pts_nil) (fun _ _ _ _ _ => pv 1) (fun _ _ _ _ _ => pe_dget (hu_of hr) (pv 0) (pv 1) (fun _ _ => rfl))))), ?_⟩
    refine ⟨_, rfl, t, _, o.map (·.1), rfl, ht, opsK_keys o, by rw [List.length_map]; exact few, fun ys p perm srt np => ?_⟩
    have nd2 : ys.Nodup := perm.nodup_iff.mpr nd
    have yl : ys.length < 64 := by
      have := perm.length_eq
      rw [List.length_map] at this
      omega
    refine ⟨p, rfl, ⟨_, SqL.of upd_same⟩, fun D nD => dc_list (xs := ys.map V.str) (fun i Hx => Same H Hx ∧ Hx p = some (.lst (ys.map V.str)) ∧ H D = none ∧ Hx D = some (.dK (opsK (pick o (ys.take i))))) ?_ (fun i Hx _ z => SqL.of z.2.1) (fun i x Hx hx z => ?_) (fun Hx z => ?_)⟩
    · have nD0 : H D = none := none_of (sameNew np _) nD
      have ne : p ≠ D := fun z => by
        rw [← z, upd_same] at nD
        cases nD
      refine ⟨same_updN (sameNew np _) nD0, ?_, nD0, upd_same⟩
      rw [upd_ne ne, upd_same]
    · obtain ⟨z1, z2, z3, z4⟩ := z
      have hi : i < ys.length := by
        have := (List.getElem?_eq_some_iff.mp hx).1
        rw [List.length_map] at this
        exact this
      have ey : ys[i]? = some ys[i] := List.getElem?_eq_getElem hi
      generalize ys[i] = y at ey
      rw [List.getElem?_map, ey] at hx
      have hx2 : V.str y = x := Option.some.inj hx
      subst hx2
      have my : y ∈ o.map (·.1) := perm.mem_iff.mp (List.mem_of_getElem? ey)
      refine ⟨rfl, ?_⟩
      unfold tYes
      simp only [↓reduceIte]
      refine ⟨_, rfl, _, rfl, _, rfl, t, _, rfl, .inl ⟨opsK o, .inr y, Rd.same z1 ht, rfl, (by rw [val_ops, look_some nd my]; rfl)⟩, _, .inr y, rfl, z4, ?_, same_updN z1 z3, ?_, z3, ?_⟩
      · rw [opsK_len, sizeLine_eq]
        unfold pick
        rw [List.length_map, List.length_take]
        omega
      · have ne : p ≠ D := fun z => by
          rw [← z] at z4
          rw [z4] at z2
          cases z2
        rw [upd_ne ne]
        exact z2
      · rw [upd_same, putK_new _ (val_new nd2 ey)]
        unfold pick
        rw [List.take_succ, ey, List.map_append]
        unfold opsK
        rw [List.map_append]
        rfl
    · obtain ⟨z1, z2, z3, z4⟩ := z
      rw [List.length_map, List.take_length] at z4
      exact k _ ⟨pick_perm nd perm, by rw [pick_names]; exact srt⟩ D Hx z3 z1 z4
end
def nameOf : RowD → Str
  | .ask op _ => op
  | .go _ => ""
  | .fin x => x
def addStr (m : List Str) (t : Str) : List Str := if t ∈ m then m else m ++ [t]
def takeIn (x : Str) (m : List Str) (d : RowD) : List Str := if wordOf d = x then addStr m (nameOf d) else m
/-- what stands behind the word, each once -/
def distinct (x : Str) (ds : List RowD) : List Str := ds.foldl (takeIn x) []
def tks (m : List Str) : List (Key × V) := m.map fun t => (Sum.inr t, V.bl true)
theorem val_tks (m : List Str) (t : Str) : (valV (tks m) (.inr t)).isSome = decide (t ∈ m) := by
  induction m with
  | nil => simp [tks, valV_nil]
  | cons y m ih =>
    by_cases h : y = t
    · subst h
      unfold tks
      rw [List.map_cons, valV_pos rfl]
      simp
    · have h2 : ¬ (Sum.inr y : Key) = Sum.inr t := fun z => h (Sum.inr.inj z)
      unfold tks at ih ⊢
      rw [List.map_cons, valV_neg h2, ih]
      by_cases q : t ∈ m
      · rw [decide_eq_true q, decide_eq_true (List.mem_cons_of_mem _ q)]
      · rw [decide_eq_false q, decide_eq_false (fun z => (List.mem_cons.mp z).elim (fun y => h y.symm) q)]
theorem put_tks (m : List Str) (t : Str) : putK (tks m) (.inr t) (.bl true) = tks (addStr m t) := by
  unfold addStr
  by_cases q : t ∈ m
  · rw [if_pos q]
    unfold putK
    have := val_tks m t
    rw [valV_any, this, decide_eq_true q, if_pos rfl]
    unfold tks
    rw [List.map_map]
    refine List.map_congr_left fun y _ => ?_
    show (if (Sum.inr y : Key) = Sum.inr t then ((Sum.inr y : Key), V.bl true) else (Sum.inr y, V.bl true)) = _
    split <;> rfl
  · rw [if_neg q]
    have := val_tks m t
    rw [decide_eq_false q] at this
    cases e : valV (tks m) (.inr t) with
    | none =>
      rw [putK_new _ e]
      unfold tks
      rw [List.map_append]
      rfl
    | some v =>
      rw [e] at this
      cases this
theorem addStr_len (m : List Str) (t : Str) : (addStr m t).length ≤ m.length + 1 := by
  unfold addStr
  split
  · omega
  · rw [List.length_append]
    exact Nat.le_refl _
theorem fold_len (x : Str) : ∀ (ds : List RowD) (m : List Str), (ds.foldl (takeIn x) m).length ≤ m.length + ds.length
  | [], _ => Nat.le_refl _
  | d :: ds, m => by
    have h := fold_len x ds (takeIn x m d)
    have h2 : (takeIn x m d).length ≤ m.length + 1 := by
      unfold takeIn
      split
      · exact addStr_len _ _
      · omega
    show (ds.foldl (takeIn x) (takeIn x m d)).length ≤ m.length + (ds.length + 1)
    omega
theorem distinct_len (x : Str) (ds : List RowD) : (distinct x ds).length ≤ ds.length := by
  have := fold_len x ds []
  rw [List.length_nil, Nat.zero_add] at this
  exact this
theorem distinct_snoc {x : Str} {ds : List RowD} {i : Nat} {d : RowD} (h : ds[i]? = some d) : distinct x (ds.take (i + 1)) = takeIn x (distinct x (ds.take i)) d := by
  unfold distinct
  rw [List.take_succ, h, List.foldl_append]
  rfl
def IsFirsts (x : Str) (ds : List RowD) (ys : List Str) : Prop := ys.Perm (distinct x ds) ∧ PyProof.Rows.sortedS ys = true
def spFirsts : Sp := fun vs H Q _ => ∃ (l : Addr) (xs : List V) (ds : List RowD) (x : Str), vs = [.ref l, .str x] ∧ x ≠ "go" ∧ H l = some (.lst xs) ∧ Rows H xs ds ∧ ds.length ≤ 100000 ∧ (distinct x ds).length ≤ 100000 ∧ ∀ ys, IsFirsts x ds ys → New H (.lst (ys.map V.str)) Q
theorem TRow.name {H : Hp} {v : V} {d : RowD} (h : TRow H v d) (g : wordOf d ≠ "go") : ∃ (a : Addr) (zs : List V), v = .ref a ∧ H a = some (.tup (.str (wordOf d) :: .str (nameOf d) :: zs)) := by
  cases d with
  | ask op ns =>
    obtain ⟨a, t, e, h1, _⟩ := h
    exact ⟨a, _, e, h1⟩
  | go n => exact absurd rfl g
  | fin x =>
    obtain ⟨a, e, h1⟩ := h
    exact ⟨a, _, e, h1⟩
section
variable {P : Program} {w : World} {K : PySem.W.Frag} {mg : Str → Option Value} {base : Heap}
theorem sc_firsts_of : FnScope ["lines", "word", "line"] ["lines", "word"] (defScope s_firsts_of) := ⟨rfl, rfl, rfl, by decide +kernel, rfl, by decide +kernel, by decide +kernel⟩
theorem ok_firsts_of {f : Addr} {fd : FuncData} (F : Fun K "firsts_of" "firsts_of" s_firsts_of f fd) (h_sorted : mg "sorted" = none) : FnOk P w K mg base CX0 1 f fd ["lines", "word"] spFirsts := by
  refine F.ok sc_firsts_of (fun vs H Q E h => ?_) (fun cdv A outer s H vs Q E hr h => ?_)
  · obtain ⟨l, xs, ds, x, rfl, _⟩ := h
    rfl
  · obtain ⟨l, xs, ds, x, rfl, ng, hl, rows, big, few, k⟩ := h
    refine ⟨_, (pss_one (ps_ret (pe_callB (call_sortedDA rfl hr.units) (by rfl) h_sorted (by decide +kernel) (pa_cons (pe_dc (own := [("line", 2)]) (g := gName 2) rfl sc_firsts_of.nd (pi_list (pv 0)) (blkOk_by (own := [("line", 2)]) (N := ["lines", "word", "line"]) (sc := defScope s_firsts_of) (by decide +kernel)) (fun _ _ _ _ _ => pg_name (i := 2) sc_firsts_of.nd rfl (Or.inl rfl)) (fun _ _ _ _ _ => pts_one (pt_cmpR op_eq (pe_ix (show IxR _ (rIxT K) from ix_tup) (pv 2) pe_int (fun _ _ => rfl)) (pv 1) (nomark _))) (fun _ _ _ _ _ => (pe_ix (show IxR _ (rIxT K) from ix_tup) (pv 2) pe_int (fun _ _ => rfl))) (fun _ _ _ _ _ => pe_bl)) pa_nil)))), ?_⟩
    refine ⟨_, rfl, l, rfl, ⟨_, SqL.of hl⟩, fun D nD => dc_list (xs := xs) (fun i Hx => Same H Hx ∧ Hx D = some (.dK (tks (distinct x (ds.take i))))) ⟨sameNew nD _, upd_same⟩ (fun i Hx _ z => SqL.of (z.1 _ _ hl)) (fun i y Hx hy z => ?_) (fun Hx z => ?_)⟩
    · obtain ⟨z1, z2⟩ := z
      have hi : i < ds.length := by
        have := (List.getElem?_eq_some_iff.mp hy).1
        have := rows.1
        omega
      obtain ⟨q, zs, d, ed, hx, row, hq⟩ := rows.at hi
      rw [hy] at hx
      cases hx
      refine ⟨rfl, ?_⟩
      refine ⟨_, rfl, _, _, _, _, rfl, rfl, .inl (.inl (z1 _ _ hq)), at0', _, rfl, rfl, _, rfl, ?_⟩
      by_cases hw : wordOf d = x
      · rw [hw, strEq]
        simp only [↓reduceIte]
        obtain ⟨q2, zs2, e2, hq2⟩ := row.name (by rw [hw]; exact ng)
        cases e2
        refine ⟨_, rfl, _, _, _, _, rfl, rfl, .inl (.inl (z1 _ _ hq2)), at1', _, .inr (nameOf d), rfl, z2, ?_, same_updN z1 nD, ?_⟩
        · have := distinct_len x (ds.take i)
          rw [List.length_take] at this
          unfold tks
          rw [List.length_map, sizeLine_eq]
          omega
        · rw [upd_same, put_tks, distinct_snoc ed]
          unfold takeIn
          rw [if_pos hw]
      · rw [strNe hw]
        simp only [Bool.false_eq_true, ↓reduceIte]
        refine ⟨z1, ?_⟩
        rw [distinct_snoc ed]
        unfold takeIn
        rw [if_neg hw]
        exact z2
    · obtain ⟨z1, z2⟩ := z
      rw [rows.1, List.take_length] at z2
      refine ⟨D, _, distinct x ds, rfl, .inl z2, ?_, few, fun ys p perm srt np => ?_⟩
      · unfold tks
        rw [List.map_map]
        rfl
      · exact k ys ⟨perm, srt⟩ p _ (none_of z1 np) (same_updN z1 (none_of z1 np)) upd_same
end
end Mine

set_option maxRecDepth 100000
set_option maxHeartbeats 4000000
namespace L2
open PySem PySem.Spec PyProof.Rows
/-- a list comprehension whose element leaves the heap -/
theorem lc_pure {K : PySem.W.Frag} {a D : Addr} {xs ys : List V} {te : TE} {i : Nat} {vs : List Nat} {σ : St} {H1 : Hp} {Qd : Hp → Prop} (hl : H1 a = some (.lst xs)) (nD : H1 D = none) (len : ys.length = xs.length) (big : xs.length ≤ 1000000)
    (hw : ∀ x, wipe ((wipe σ vs).set i (some x)) vs = wipe σ vs) (hs : ∀ (j : Nat) (x y : V) (Ha : Hp) (Qe : VK), xs[j]? = some x → ys[j]? = some y → Same H1 Ha → Qe y Ha → te ((wipe σ vs).set i (some x)) Ha Qe)
    (hd : ∀ Hx, Same H1 Hx → Hx D = some (.lst ys) → Qd Hx) :
    ∃ W : Nat → Nat → Hp → Prop, (∃ m, W 0 m (upd H1 D (.lst []))) ∧ ∀ i2 m H, W i2 m H →
      ((Itl K a).stop i2 H ∧ Qd H) ∨ ((Itl K a).go i2 H ∧ ∃ Nx : Hp → Prop, (∀ H', Nx H' → ∃ m', m' < m ∧ W (i2 + 1) m' H') ∧ ∀ x H', (Itl K a).yld i2 H x H' → gName i x (wipe σ vs) H' fun σ2 H2 => wipe σ2 vs = wipe σ vs ∧ tYes σ2 H2 fun b H3 =>
        if b = true then te σ2 H3 fun y H4 => ∃ acc, H4 D = some (.lst acc) ∧ acc.length < sizeLine ∧ Nx (upd H4 D (.lst (acc ++ [y]))) else Nx H3) := by
  refine lc_it (walk_list (xs := xs)) (fun k Hx => Same H1 Hx ∧ Hx D = some (.lst (ys.take k))) ⟨sameNew nD _, upd_same⟩ (fun k Hx _ z => SqL.of (z.1 _ _ hl)) (fun k x Ha Hb hk z1 z2 => ?_) (fun Hx z => hd Hx z.1 (by rw [z.2, ← len, List.take_length]))
  obtain ⟨rfl, hx⟩ := z2
  obtain ⟨s1, e1⟩ := z1
  have ey : ys[k]? = some ys[k] := List.getElem?_eq_getElem (by omega)
  refine ⟨hw x, ?_⟩
  unfold tYes
  simp only [↓reduceIte]
  refine hs k x _ _ _ hx ey s1 ⟨_, e1, ?_, Mine.same_updN s1 nD, ?_⟩
  · rw [List.length_take, sizeLine_eq]
    omega
  · rw [upd_same, List.take_succ, ey]
    rfl
end L2
namespace Mine
open PySem L2
abbrev s_mach : Stmt := inClass (top 26) 0
def SameX (m : Addr) (H H' : Hp) : Prop := ∀ b o, b ≠ m → H b = some o → H' b = some o
theorem SameX.upd {m : Addr} {H H' : Hp} {o : HO} (x : SameX m H H') : SameX m H (upd H' m o) := fun b u n e => by
  rw [upd_ne n]
  exact x b u n e
theorem SameX.go {m : Addr} {H H' H'' : Hp} (x : SameX m H H') (s : Same H' H'') : SameX m H H'' := fun b u n e => s _ _ (x b u n e)
theorem SameX.at {m : Addr} {H H' : Hp} {C dx b : Addr} {fs : List (Str × V)} {o : HO} (x : SameX m H H') (hm : H m = some (.ins C dx fs)) (e : H b = some o) (n : o ≠ .ins C dx fs) : H' b = some o :=
  x b o (fun z => by rw [z, hm] at e; exact n (Option.some.inj e).symm) e
theorem SameX.trow {m : Addr} {H H' : Hp} {C dx : Addr} {fs : List (Str × V)} {v : V} {d : RowD} (x : SameX m H H') (hm : H m = some (.ins C dx fs)) (r : TRow H v d) : TRow H' v d := by
  cases d with
  | ask op ns =>
    obtain ⟨a, t, e, h1, h2⟩ := r
    exact ⟨a, t, e, x.at hm h1 (fun z => nomatch z), x.at hm h2 (fun z => nomatch z)⟩
  | go n =>
    obtain ⟨a, e, h1⟩ := r
    exact ⟨a, e, x.at hm h1 (fun z => nomatch z)⟩
  | fin w =>
    obtain ⟨a, e, h1⟩ := r
    exact ⟨a, e, x.at hm h1 (fun z => nomatch z)⟩
theorem SameX.rows {m : Addr} {H H' : Hp} {C dx : Addr} {fs : List (Str × V)} {xs : List V} {rs : List RowD} (x : SameX m H H') (hm : H m = some (.ins C dx fs)) (r : Rows H xs rs) : Rows H' xs rs := ⟨r.1, fun i d e => by
  obtain ⟨v, h1, h2⟩ := r.2 i d e
  exact ⟨v, h1, x.trow hm h2⟩⟩
/-- the rows of rest that are met -/
def restD (rs : List RowD) (b : Nat) : List RowD := (metOf rs b).map fun i => rs.getD i (.fin "")
def restV (rs : List RowD) (b : Nat) (xs : List V) : List V := (metOf rs b).map fun i => xs.getD i .non
theorem rest_rows {H : Hp} {rs : List RowD} {b : Nat} {xs : List V} (f : Fit rs) (hb : b < rs.length) (r : Rows H xs rs) : Rows H (restV rs b xs) (restD rs b) := by
  refine ⟨by unfold restV restD; rw [List.length_map, List.length_map], fun j d e => ?_⟩
  unfold restD at e
  rw [List.getElem?_map] at e
  cases q : (metOf rs b)[j]? with
  | none => rw [q] at e; cases e
  | some i =>
    rw [q] at e
    have hi : i < rs.length := (metAt_few f hb rs.length).2 i (List.mem_of_getElem? q)
    have e2 : rs.getD i (.fin "") = d := Option.some.inj e
    have e3 : rs[i]? = some d := by
      rw [List.getD_eq_getElem?_getD, List.getElem?_eq_getElem hi] at e2
      rw [List.getElem?_eq_getElem hi]
      exact congrArg some e2
    obtain ⟨x, h1, h2⟩ := r.2 i d e3
    refine ⟨x, ?_, h2⟩
    unfold restV
    rw [List.getElem?_map, q]
    show some (xs.getD i .non) = some x
    rw [List.getD_eq_getElem?_getD, h1]
    rfl
/-- whether a run hangs -/
def endlessD (rs : List RowD) (b : Nat) : Bool := inV (.str "go") ((restD rs b).map fun d => .str (wordOf d))
/-- the fields of a machine, and what stands there -/
structure MachFs (H : Hp) (fs : List (Str × V)) (t l : Addr) (b : Nat) (rs : List RowD) (sa aa ea : Addr) (as es : List Str) : Prop where
  counts : fs.lookup ("counts" : Str) = some (.ref t)
  lines : fs.lookup ("lines" : Str) = some (.ref l)
  begin : fs.lookup ("begin" : Str) = some (.int b)
  stops : fs.lookup ("stops" : Str) = some (.ref sa)
  asks : fs.lookup ("asks" : Str) = some (.ref aa)
  endings : fs.lookup ("endings" : Str) = some (.ref ea)
  endless : fs.lookup ("endless" : Str) = some (.bl (endlessD rs b))
  hs : H sa = some (.lst (fl rs.length fun i => (stp rs i : Int)))
  ha : H aa = some (.lst (as.map V.str))
  he : H ea = some (.lst (es.map V.str))
  fa : IsFirsts "ask" (restD rs b) as
  fe : IsFirsts "end" (restD rs b) es
theorem SameX.off {m a : Addr} {H H' : Hp} (x : SameX m H H') (n : H' a = none) (ne : a ≠ m) : H a = none := by
  cases e : H a with
  | none => rfl
  | some u =>
    rw [x a u ne e] at n
    cases n
def spMach (C : Addr) : Sp := fun vs H Q _ => ∃ (m t l dx : Addr) (xs : List V) (rs : List RowD) (b : Nat), vs = [.ref m, .ref t, .ref l, .int b] ∧ H m = some (.ins C dx []) ∧ H l = some (.lst xs) ∧ Rows H xs rs ∧ Fit rs ∧ b < rs.length ∧ rs.length ≤ 100000 ∧
  (distinct "ask" (restD rs b)).length ≤ 100000 ∧ (distinct "end" (restD rs b)).length ≤ 100000 ∧ ∀ (fs : List (Str × V)) (H' : Hp) (sa aa ea : Addr) (as es : List Str), H sa = none → H aa = none → H ea = none → SameX m H H' → H' m = some (.ins C dx fs) → MachFs H' fs t l b rs sa aa ea as es → Q .non H'
/-- what is told of the class -/
structure MachC (K : PySem.W.Frag) (C : Addr) : Prop where
  cl : Cls K C
  n_counts : NoAttr K C "counts"
  n_lines : NoAttr K C "lines"
  n_begin : NoAttr K C "begin"
  n_stops : NoAttr K C "stops"
  n_asks : NoAttr K C "asks"
  n_endings : NoAttr K C "endings"
  n_endless : NoAttr K C "endless"
section
variable {P : Program} {w : World} {K : PySem.W.Frag} {mg : Str → Option Value} {base : Heap}
variable {a_rests a_stops a_firsts C : Addr}
theorem sc_mach : FnScope ["self", "counts", "lines", "begin", "rests", "stop", "line"] ["self", "counts", "lines", "begin"] (defScope s_mach) := ⟨rfl, rfl, rfl, by decide +kernel, rfl, by decide +kernel, by decide +kernel⟩
theorem putF_len {fs : List (Str × V)} {f : Str} {v : V} {n : Nat} (h : fs.length ≤ n) : (putF f v fs).length ≤ n + 1 := Nat.le_trans (length_putF f v fs) (Nat.succ_le_succ h)
theorem ok_mach {f : Addr} {fd fd_rests fd_stops fd_firsts : FuncData} (F : Fun K "__init__" "Machine.__init__" s_mach f fd) (TM : MachC K C)
    (GR : FnOk P w K mg base CX0 2 a_rests fd_rests ["lines", "stops", "begin"] spRests) (b_rests : Binds K fd_rests ["lines", "stops", "begin"] []) (g_rests : mg "rests_from" = some (.ref a_rests)) (k_rests : PySem.W.keepIn K (.ref a_rests) = true)
    (GS : FnOk P w K mg base CX0 2 a_stops fd_stops ["lines"] spStops) (b_stops : Binds K fd_stops ["lines"] []) (g_stops : mg "stops_of" = some (.ref a_stops)) (k_stops : PySem.W.keepIn K (.ref a_stops) = true)
    (GF : FnOk P w K mg base CX0 1 a_firsts fd_firsts ["lines", "word"] spFirsts) (b_firsts : Binds K fd_firsts ["lines", "word"] []) (g_firsts : mg "firsts_of" = some (.ref a_firsts)) (k_firsts : PySem.W.keepIn K (.ref a_firsts) = true) : FnOk P w K mg base CX0 3 f fd ["self", "counts", "lines", "begin"] (spMach C) := by
  refine F.ok sc_mach (fun vs H Q E h => ?_) (fun cdv A outer s H vs Q E hr h => ?_)
  · obtain ⟨m, t, l, dx, xs, rs, b, rfl, _⟩ := h
    rfl
  · obtain ⟨m, t, l, dx, xs, rs, b, rfl, hm, hl, rows, fit, hb, big, few1, few2, k⟩ := h
    refine ⟨_, (pss_cons (ps_fld (pv 0) (pv 1) rfl)
      (pss_cons (ps_fld (pv 0) (pv 2) rfl)
      (pss_cons (ps_fld (pv 0) (pv 3) rfl)
      (pss_cons (ps_fld (pv 0) (pe_call GS (hr.mono (by decide)) (by rfl) g_stops k_stops b_stops .nil pass0 (pa_cons (pv 2) pa_nil)) rfl)
      (pss_cons (ps_setLc (i := 4) (own := [("stop", 5)]) (g := gName 5) (tt := tYes) rfl sc_mach.nd rfl rfl (sw_true rfl rfl rfl rfl) (pi_list (pe_call GR (hr.mono (by decide)) (by rfl) g_rests k_rests b_rests .nil pass0 (pa_cons (pv 2) (pa_cons (pe_fld (pv 0) rfl) (pa_cons (pv 3) pa_nil))))) (blkOk_by (own := [("stop", 5)]) (N := ["self", "counts", "lines", "begin", "rests", "stop", "line"]) (sc := defScope s_mach) (by decide +kernel)) (fun _ _ _ _ _ => pg_name (i := 5) sc_mach.nd rfl (Or.inl rfl)) (fun _ _ _ _ _ => pts_nil) (fun _ _ _ _ _ => pe_ix (show IxR _ (rIxL K) from ix_list) (pv 2) (pv 5) (fun _ _ => rfl)))
      (pss_cons (ps_fld (pv 0) (pe_call GF (hr.mono (by decide)) (by rfl) g_firsts k_firsts b_firsts .nil pass0 (pa_cons (pv 4) (pa_cons pe_str pa_nil))) rfl)
      (pss_cons (ps_fld (pv 0) (pe_call GF (hr.mono (by decide)) (by rfl) g_firsts k_firsts b_firsts .nil pass0 (pa_cons (pv 4) (pa_cons pe_str pa_nil))) rfl)
      (pss_one (ps_fld (pv 0) (pe_cmpR op_in_seq pe_str (pe_lc (own := [("line", 6)]) (g := gName 6) (tt := tYes) rfl sc_mach.nd (pi_list (pv 4)) (blkOk_by (own := [("line", 6)]) (N := ["self", "counts", "lines", "begin", "rests", "stop", "line"]) (sc := defScope s_mach) (by decide +kernel)) (fun _ _ _ _ _ => pg_name (i := 6) sc_mach.nd rfl (Or.inl rfl)) (fun _ _ _ _ _ => pts_nil) (fun _ _ _ _ _ => pe_ix (show IxR _ (rIxT K) from ix_tup) (pv 6) pe_int (fun _ _ => rfl))) (by rfl)) rfl))))))))), ?_⟩
    have L0 : ([] : List (Str × V)).length ≤ 0 := Nat.le_refl _
    have L1 := putF_len (f := "counts") (v := .ref t) L0
    have L2 := putF_len (f := "lines") (v := .ref l) L1
    have L3 := putF_len (f := "begin") (v := .int b) L2
    refine ⟨_, rfl, _, rfl, m, C, dx, _, rfl, hm, TM.cl, TM.n_counts, Nat.lt_of_le_of_lt L0 (by decide), ?_⟩
    refine ⟨_, rfl, _, rfl, m, C, dx, _, rfl, upd_same, TM.cl, TM.n_lines, Nat.lt_of_le_of_lt L1 (by decide), ?_⟩
    refine ⟨_, rfl, _, rfl, m, C, dx, _, rfl, upd_same, TM.cl, TM.n_begin, Nat.lt_of_le_of_lt L2 (by decide), ?_⟩
    rw [upd_upd, upd_upd]
    have x3 : SameX m H (upd H m (.ins C dx (putF "begin" (.int b) (putF "lines" (.ref l) (putF "counts" (.ref t) []))))) := SameX.upd fun _ _ _ e => e
    have m3 : upd H m (.ins C dx (putF "begin" (.int b) (putF "lines" (.ref l) (putF "counts" (.ref t) [])))) m = some (.ins C dx (putF "begin" (.int b) (putF "lines" (.ref l) (putF "counts" (.ref t) [])))) := upd_same
    have q1 : (putF ("begin" : Str) (.int b) (putF "lines" (.ref l) (putF "counts" (.ref t) []))).lookup ("counts" : Str) = some (.ref t) := by
      rw [lookup_putF, if_neg (by decide +kernel), lookup_putF, if_neg (by decide +kernel), lookup_putF, if_pos rfl]
    have q2 : (putF ("begin" : Str) (.int b) (putF "lines" (.ref l) (putF "counts" (.ref t) []))).lookup ("lines" : Str) = some (.ref l) := by
      rw [lookup_putF, if_neg (by decide +kernel), lookup_putF, if_pos rfl]
    have q3 : (putF ("begin" : Str) (.int b) (putF "lines" (.ref l) (putF "counts" (.ref t) []))).lookup ("begin" : Str) = some (.int b) := by
      rw [lookup_putF, if_pos rfl]
    generalize (upd H m (.ins C dx (putF "begin" (.int b) (putF "lines" (.ref l) (putF "counts" (.ref t) []))))) = H3 at x3 m3 ⊢
    generalize putF ("begin" : Str) (.int b) (putF "lines" (.ref l) (putF "counts" (.ref t) [])) = f3 at m3 L3 q1 q2 q3
    have l3 : H3 l = some (.lst xs) := x3.at hm hl (fun z => nomatch z)
    refine ⟨_, rfl, l, xs, rs, rfl, l3, x3.rows hm rows, fit.go, big, fun sa H4 n4 s4 e4 => ?_⟩
    refine ⟨_, rfl, m, C, dx, _, rfl, s4 _ _ m3, TM.cl, TM.n_stops, Nat.lt_of_le_of_lt L3 (by decide), ?_⟩
    have L4 := putF_len (f := "stops") (v := .ref sa) L3
    have sm : sa ≠ m := fun z => by
      rw [z, m3] at n4
      cases n4
    have nsa : H sa = none := x3.off n4 sm
    have x4 : SameX m H (upd H4 m (.ins C dx (putF "stops" (.ref sa) f3))) := (x3.go s4).upd
    have m4 : upd H4 m (.ins C dx (putF "stops" (.ref sa) f3)) m = some (.ins C dx (putF "stops" (.ref sa) f3)) := upd_same
    have e5 : upd H4 m (.ins C dx (putF "stops" (.ref sa) f3)) sa = some (.lst (fl rs.length fun i => (stp rs i : Int))) := by
      rw [upd_ne sm]
      exact e4
    have q4 : (putF ("stops" : Str) (.ref sa) f3).lookup ("stops" : Str) = some (.ref sa) := by rw [lookup_putF, if_pos rfl]
    have q1' : (putF ("stops" : Str) (.ref sa) f3).lookup ("counts" : Str) = some (.ref t) := by rw [lookup_putF, if_neg (by decide +kernel)]; exact q1
    have q2' : (putF ("stops" : Str) (.ref sa) f3).lookup ("lines" : Str) = some (.ref l) := by rw [lookup_putF, if_neg (by decide +kernel)]; exact q2
    have q3' : (putF ("stops" : Str) (.ref sa) f3).lookup ("begin" : Str) = some (.int b) := by rw [lookup_putF, if_neg (by decide +kernel)]; exact q3
    clear q1 q2 q3
    generalize (upd H4 m (.ins C dx (putF "stops" (.ref sa) f3))) = H5 at x4 m4 e5 ⊢
    generalize putF ("stops" : Str) (.ref sa) f3 = f4 at m4 L4 q1' q2' q3' q4
    have l5 : H5 l = some (.lst xs) := x4.at hm hl (fun z => nomatch z)
    have rows5 := x4.rows hm rows
    refine ⟨_, rfl, _, rfl, m, C, dx, _, _, rfl, m4, TM.cl, TM.n_stops, q4, _, rfl, l, sa, xs, rs, b, rfl, l5, rows5, fit, e5, hb, big, fun ma H6 n6 s6 e6 => ?_⟩
    have few := metAt_few fit hb rs.length
    have flen := few.len
    have nl : (natsV (metOf rs b)).length = (metOf rs b).length := List.length_map _
    have rvl : (restV rs b xs).length = (metOf rs b).length := List.length_map _
    have fl2 : (metOf rs b).length ≤ rs.length := flen
    refine ⟨ma, rfl, ⟨_, SqL.of e6⟩, fun D nD => lc_pure (ys := restV rs b xs) e6 nD (by rw [nl, rvl]) (by rw [nl]; omega) (fun _ => rfl) (fun j x y Ha Qe hx hy sa6 qe => ?_) (fun H7 s7 e7 => ?_)⟩
    · unfold natsV at hx
      rw [List.getElem?_map] at hx
      unfold restV at hy
      rw [List.getElem?_map] at hy
      cases q : (metOf rs b)[j]? with
      | none => rw [q] at hx; cases hx
      | some i =>
        rw [q] at hx hy
        have hx2 : V.int (i : Int) = x := Option.some.inj hx
        have hy2 : xs.getD i .non = y := Option.some.inj hy
        have hi : i < xs.length := by
          rw [rows.1]
          exact few.2 i (List.mem_of_getElem? q)
        subst hx2
        have ey : xs[i]? = some y := by
          rw [List.getD_eq_getElem?_getD, List.getElem?_eq_getElem hi] at hy2
          rw [List.getElem?_eq_getElem hi]
          exact congrArg some hy2
        exact ⟨_, rfl, _, rfl, l, xs, _, y, rfl, rfl, SqL.of (sa6 _ _ (s6 _ _ l5)), atI_nat ey, qe⟩
    · have s57 : Same H5 H7 := s6.trans s7
      have rr : Rows H7 (restV rs b xs) (restD rs b) := rest_rows fit hb (rows5.same s57)
      have rdl : (restD rs b).length ≤ 100000 := by
        unfold restD
        rw [List.length_map]
        omega
      refine ⟨_, rfl, D, _, _, "ask", rfl, by decide +kernel, e7, rr, rdl, few1, fun as fas aa H8 n8 s8 e8 => ?_⟩
      have m8 : H8 m = some (.ins C dx f4) := s8 _ _ (s57 _ _ m4)
      refine ⟨_, rfl, m, C, dx, _, rfl, m8, TM.cl, TM.n_asks, Nat.lt_of_le_of_lt L4 (by decide), ?_⟩
      have L5 := putF_len (f := "asks") (v := .ref aa) L4
      have am : aa ≠ m := fun z => by
        rw [z, s57 _ _ m4] at n8
        cases n8
      have naa : H aa = none := SameX.off (fun b o n e => s57 _ _ (x4 _ _ n e)) n8 am
      have x9 : SameX m H5 (upd H8 m (.ins C dx (putF "asks" (.ref aa) f4))) := SameX.upd fun b o _ e => s8 _ _ (s57 _ _ e)
      have x79 : SameX m H7 (upd H8 m (.ins C dx (putF "asks" (.ref aa) f4))) := SameX.upd fun b o _ e => s8 _ _ e
      have m9 : upd H8 m (.ins C dx (putF "asks" (.ref aa) f4)) m = some (.ins C dx (putF "asks" (.ref aa) f4)) := upd_same
      have e9 : upd H8 m (.ins C dx (putF "asks" (.ref aa) f4)) aa = some (.lst (as.map V.str)) := by
        rw [upd_ne am]
        exact e8
      have p5 : (putF ("asks" : Str) (.ref aa) f4).lookup ("asks" : Str) = some (.ref aa) := by rw [lookup_putF, if_pos rfl]
      have p1 : (putF ("asks" : Str) (.ref aa) f4).lookup ("counts" : Str) = some (.ref t) := by rw [lookup_putF, if_neg (by decide +kernel)]; exact q1'
      have p2 : (putF ("asks" : Str) (.ref aa) f4).lookup ("lines" : Str) = some (.ref l) := by rw [lookup_putF, if_neg (by decide +kernel)]; exact q2'
      have p3 : (putF ("asks" : Str) (.ref aa) f4).lookup ("begin" : Str) = some (.int b) := by rw [lookup_putF, if_neg (by decide +kernel)]; exact q3'
      have p4 : (putF ("asks" : Str) (.ref aa) f4).lookup ("stops" : Str) = some (.ref sa) := by rw [lookup_putF, if_neg (by decide +kernel)]; exact q4
      have m7 : H7 m = some (.ins C dx f4) := s57 _ _ m4
      generalize (upd H8 m (.ins C dx (putF "asks" (.ref aa) f4))) = H9 at x9 x79 m9 e9 ⊢
      generalize putF ("asks" : Str) (.ref aa) f4 = f5 at m9 L5 p1 p2 p3 p4 p5
      have d9 : H9 D = some (.lst (restV rs b xs)) := x79.at m7 e7 (fun z => nomatch z)
      have rr9 : Rows H9 (restV rs b xs) (restD rs b) := x79.rows m7 rr
      refine ⟨_, rfl, D, _, _, "end", rfl, by decide +kernel, d9, rr9, rdl, few2, fun es fes ea H10 n10 s10 e10 => ?_⟩
      refine ⟨_, rfl, m, C, dx, _, rfl, s10 _ _ m9, TM.cl, TM.n_endings, Nat.lt_of_le_of_lt L5 (by decide), ?_⟩
      have L6 := putF_len (f := "endings") (v := .ref ea) L5
      have em : ea ≠ m := fun z => by
        rw [z, m9] at n10
        cases n10
      have nea : H ea = none := SameX.off (fun b o n e => x9 _ _ n (x4 _ _ n e)) n10 em
      have x11 : SameX m H9 (upd H10 m (.ins C dx (putF "endings" (.ref ea) f5))) := SameX.upd fun b o _ e => s10 _ _ e
      have m11 : upd H10 m (.ins C dx (putF "endings" (.ref ea) f5)) m = some (.ins C dx (putF "endings" (.ref ea) f5)) := upd_same
      have e11 : upd H10 m (.ins C dx (putF "endings" (.ref ea) f5)) ea = some (.lst (es.map V.str)) := by
        rw [upd_ne em]
        exact e10
      have r6 : (putF ("endings" : Str) (.ref ea) f5).lookup ("endings" : Str) = some (.ref ea) := by rw [lookup_putF, if_pos rfl]
      have r1 : (putF ("endings" : Str) (.ref ea) f5).lookup ("counts" : Str) = some (.ref t) := by rw [lookup_putF, if_neg (by decide +kernel)]; exact p1
      have r2 : (putF ("endings" : Str) (.ref ea) f5).lookup ("lines" : Str) = some (.ref l) := by rw [lookup_putF, if_neg (by decide +kernel)]; exact p2
      have r3 : (putF ("endings" : Str) (.ref ea) f5).lookup ("begin" : Str) = some (.int b) := by rw [lookup_putF, if_neg (by decide +kernel)]; exact p3
      have r4 : (putF ("endings" : Str) (.ref ea) f5).lookup ("stops" : Str) = some (.ref sa) := by rw [lookup_putF, if_neg (by decide +kernel)]; exact p4
      have r5 : (putF ("endings" : Str) (.ref ea) f5).lookup ("asks" : Str) = some (.ref aa) := by rw [lookup_putF, if_neg (by decide +kernel)]; exact p5
      generalize (upd H10 m (.ins C dx (putF "endings" (.ref ea) f5))) = H11 at x11 m11 e11 ⊢
      generalize putF ("endings" : Str) (.ref ea) f5 = f6 at m11 L6 r1 r2 r3 r4 r5 r6
      have d11 : H11 D = some (.lst (restV rs b xs)) := x11.at m9 d9 (fun z => nomatch z)
      have rr11 : Rows H11 (restV rs b xs) (restD rs b) := x11.rows m9 rr9
      have rdv : (restD rs b).length = (restV rs b xs).length := rr11.1.symm
      refine ⟨_, rfl, D, rfl, ⟨_, SqL.of d11⟩, fun G nG => lc_pure (ys := (restD rs b).map fun d => .str (wordOf d)) d11 nG (by rw [List.length_map, rdv]) (by rw [← rdv]; omega) (fun _ => rfl) (fun j x y Ha Qe hx hy sa11 qe => ?_) (fun H12 s12 e12 => ?_)⟩
      · have hj : j < (restD rs b).length := by
          have := (List.getElem?_eq_some_iff.mp hx).1
          omega
        obtain ⟨z, zs, d, ed, hx2, row, hz⟩ := rr11.at hj
        rw [hx2] at hx
        cases hx
        rw [List.getElem?_map, ed] at hy
        cases hy
        exact ⟨_, rfl, _, _, _, _, rfl, rfl, .inl (.inl (sa11 _ _ hz)), at0', qe⟩
      · refine ⟨G, _, rfl, .inl (SqL.of e12), rfl, ?_, ?_⟩
        · rw [List.all_map]
          exact List.all_eq_true.mpr fun _ _ => rfl
        · refine ⟨_, rfl, m, C, dx, _, rfl, s12 _ _ m11, TM.cl, TM.n_endless, Nat.lt_of_le_of_lt L6 (by decide), ?_⟩
          have x12 : SameX m H11 (upd H12 m (.ins C dx (putF "endless" (.bl (endlessD rs b)) f6))) := SameX.upd fun b o _ e => s12 _ _ e
          refine k (putF "endless" (.bl (endlessD rs b)) f6) (upd H12 m (.ins C dx (putF "endless" (.bl (endlessD rs b)) f6))) sa aa ea as es nsa naa nea (fun b o n e => x12 _ _ n (x11 _ _ n (x9 _ _ n (x4 _ _ n e)))) upd_same ⟨?_, ?_, ?_, ?_, ?_, ?_, ?_, x12 _ _ sm (x11 _ _ sm (x9 _ _ sm e5)), x12 _ _ am (x11 _ _ am e9), x12 _ _ em e11, fas, fes⟩
          · rw [lookup_putF, if_neg (by decide +kernel)]
            exact r1
          · rw [lookup_putF, if_neg (by decide +kernel)]
            exact r2
          · rw [lookup_putF, if_neg (by decide +kernel)]
            exact r3
          · rw [lookup_putF, if_neg (by decide +kernel)]
            exact r4
          · rw [lookup_putF, if_neg (by decide +kernel)]
            exact r5
          · rw [lookup_putF, if_neg (by decide +kernel)]
            exact r6
          · rw [lookup_putF, if_pos rfl]
end
end Mine

set_option maxRecDepth 100000
set_option maxHeartbeats 4000000
namespace Mine
open PySem L2
abbrev s_lines_read : Stmt := top 37
theorem ps_no {X : Cx} {st : Stmt} : PS X st (fun _ _ _ => False) := ⟨fun _ _ _ _ _ _ h => h.elim⟩
/-- the rows stand there, in lists or tuples -/
def RowsIn (H : Hp) (xs : List V) (rs : List RowD) : Prop := xs.length = rs.length ∧ ∀ (i : Nat) (d : RowD), rs[i]? = some d → ∃ x, xs[i]? = some x ∧ RowAt H x d
def OkRows (o : Ops) (rs : List RowD) : Prop := ∀ (i : Nat) (d : RowD), rs[i]? = some d → OkRow o rs.length d
theorem OkRows.fit {o : Ops} {rs : List RowD} (h : OkRows o rs) : Fit rs := fun i d e n hn => by
  have := h i d e
  cases d with
  | ask op ns => exact this.2.2 n hn
  | go k =>
    rw [List.mem_singleton.mp hn]
    exact this
  | fin w => exact nomatch hn
def spRead : Sp := fun vs H Q _ => ∃ (r d : Addr) (xs : List V) (rs : List RowD) (o : Ops), vs = [.ref r, .ref d] ∧ SqA H r xs ∧ RowsIn H xs rs ∧ Rd H d (.dK (opsK o)) ∧ 1 ≤ rs.length ∧ rs.length ≤ 400 ∧ OkRows o rs ∧
  ∀ (p : Addr) (ys : List V) (H' : Hp), H p = none → Same H H' → H' p = some (.lst ys) → Rows H' ys rs → Q (.ref p) H'
theorem TRow.other {H : Hp} {D : Addr} {ys : List V} {o : HO} {v : V} {d : RowD} (h : TRow H v d) (e : H D = some (.lst ys)) : TRow (upd H D o) v d := by
  have ne : ∀ {a : Addr} {zs : List V}, H a = some (.tup zs) → upd H D o a = some (.tup zs) := fun {a zs} h1 => by
    rw [upd_ne (fun z => by rw [z, e] at h1; cases h1)]
    exact h1
  cases d with
  | ask op ns =>
    obtain ⟨a, t, e, h1, h2⟩ := h
    exact ⟨a, t, e, ne h1, ne h2⟩
  | go n =>
    obtain ⟨a, e, h1⟩ := h
    exact ⟨a, e, ne h1⟩
  | fin w =>
    obtain ⟨a, e, h1⟩ := h
    exact ⟨a, e, ne h1⟩
/-- the first kk rows stand in the new list -/
structure Grown (Hn : Hp) (D : Addr) (rs : List RowD) (kk : Nat) (Hx : Hp) : Prop where
  same : Same Hn Hx
  at_ : ∃ ys : List V, ys.length = kk ∧ Hx D = some (.lst ys) ∧ ∀ (j : Nat) (dj : RowD), j < kk → rs[j]? = some dj → ∃ y, ys[j]? = some y ∧ TRow Hx y dj
section
variable {P : Program} {w : World} {K : PySem.W.Frag} {mg : Str → Option Value} {base : Heap}
variable {fII fIW a_is_row a_is_index a_is_name a_is_text_in a_are_counts a_word_of a_are_nexts a_is_line a_line_of a_are_operations : Addr}
theorem sc_lines_read : FnScope ["rows", "counts", "index", "row"] ["rows", "counts"] (defScope s_lines_read) := ⟨rfl, rfl, rfl, by decide +kernel, rfl, by decide +kernel, by decide +kernel⟩
theorem ok_lines_read {f : Addr} {fd fd_is_row fd_is_line fd_line_of : FuncData} (F : Fun K "lines_read" "lines_read" s_lines_read f fd) (T : TxtF K mg fII fIW) (TG : TxtG K mg a_is_row a_is_index a_is_name a_is_text_in a_are_counts a_word_of a_are_nexts a_is_line a_line_of a_are_operations)
    (h_enum : mg "enumerate" = none) {tm : Tok} (h_most : mg "MOST_ROWS" = some (.int 400 tm))
    (GRw : FnOk P w K mg base CX0 1 a_is_row fd_is_row ["thing"] (spIsRow K)) (b_is_row : Binds K fd_is_row ["thing"] [])
    (GL : FnOk P w K mg base CX0 5 a_is_line fd_is_line ["row", "counts", "many"] spIsLine) (b_is_line : Binds K fd_is_line ["row", "counts", "many"] [])
    (GLo : FnOk P w K mg base CX0 1 a_line_of fd_line_of ["row"] spLineOf) (b_line_of : Binds K fd_line_of ["row"] []) : FnOk P w K mg base CX0 6 f fd ["rows", "counts"] spRead := by
  refine F.ok sc_lines_read (fun vs H Q E h => ?_) (fun cdv A outer s H vs Q E hr h => ?_)
  · obtain ⟨r, d, xs, rs, o, rfl, _⟩ := h
    rfl
  · obtain ⟨r, d, xs, rs, o, rfl, hx, rows, hd, lo, hi, ok, k⟩ := h
    refine ⟨_, (pss_cons (ps_if (PW.pt (pw_or (pt_not (pt_val (pe_call GRw (hr.mono (by decide)) (by rfl) TG.g_is_row TG.k_is_row b_is_row .nil pass0 (pa_cons (pv 0) pa_nil)))) (pw_or1 (pt_not (pt_chain op_le op_le pe_int (pe_callB call_len_seq (by rfl) T.b_len PySem.boot_len (pa_cons (pv 0) pa_nil)) (pe_glob (v := .int 400) rfl h_most ⟨_, rfl⟩)))))) (pss_one ps_no) pss_nil)
      (pss_cons (ps_for PassesOwn.never rfl (pi_or (pi_enum (by rfl) h_enum (pa_cons (pv 0) pa_nil)) (pi_enumT (by rfl) h_enum (pa_cons (pv 0) pa_nil))) (pg_tup rfl (pgs_cons (pg_name (i := 2) sc_lines_read.nd rfl (Or.inl rfl)) (pgs_cons (pg_name (i := 3) sc_lines_read.nd rfl (Or.inl rfl)) pgs_nil)))
        (pss_one (ps_if (pt_not (pt_val (pe_call GL (hr.mono (by decide)) (by rfl) TG.g_is_line TG.k_is_line b_is_line .nil pass0 (pa_cons (pv 3) (pa_cons (pv 1) (pa_cons (pe_callB call_len_seq (by rfl) T.b_len PySem.boot_len (pa_cons (pv 0) pa_nil)) pa_nil)))))) (pss_one ps_no) pss_nil)))
      (pss_one (ps_ret (pe_lc (own := [("row", 3)]) (g := gName 3) (tt := tYes) (wi := iSeq K (tVar 0)) rfl sc_lines_read.nd (pi_seq (pv 0)) (blkOk_by (own := [("row", 3)]) (N := ["rows", "counts", "index", "row"]) (sc := defScope s_lines_read) (by decide +kernel)) (fun _ _ _ _ _ => pg_name (i := 3) sc_lines_read.nd rfl (Or.inl rfl)) (fun _ _ _ _ _ => pts_nil) (fun _ _ _ _ _ => (pe_call GLo (hr.mono (by decide)) (by rfl) TG.g_line_of TG.k_line_of b_line_of .nil pass0 (pa_cons (pv 3) pa_nil)))))))), ?_⟩
    obtain ⟨ty, b, e⟩ := btSeq (K := K) hx
    refine ⟨_, rfl, _, ty, rfl, b, fun H1 s1 => ⟨_, rfl, ?_⟩⟩
    rw [e]
    refine iteF ?_
    have hx1 := s1.sqa hx
    have len : (xs.length : Int) = rs.length := by rw [rows.1]
    refine ⟨_, rfl, r, _, rfl, hx1.sq, _, _, rfl, rfl, _, rfl, ?_⟩
    rw [len, decide_eq_true (show (1 : Int) ≤ (rs.length : Int) by omega)]
    refine iteT ?_
    refine ⟨_, _, rfl, rfl, _, rfl, ?_⟩
    rw [decide_eq_true (show (rs.length : Int) ≤ 400 by omega)]
    refine iteF ?_
    have body : ∀ (i : Nat) (x : V) (Ha : Hp), xs[i]? = some x → Same H1 Ha → ∃ dd : RowD, RowAt Ha x dd ∧ OkRow o (rs.length : Int) dd ∧ rs[i]? = some dd := fun i x Ha hxi sa => by
      have hi2 : i < rs.length := by
        have := (List.getElem?_eq_some_iff.mp hxi).1
        have := rows.1
        omega
      obtain ⟨x2, h1, h2⟩ := rows.2 i _ (List.getElem?_eq_getElem hi2)
      rw [hxi] at h1
      cases h1
      exact ⟨_, h2.same (s1.trans sa), ok i _ (List.getElem?_eq_getElem hi2), List.getElem?_eq_getElem hi2⟩
    have elem : ∀ (Hn Ha : Hp) (D : Addr) (kk : Nat) (x : V), Same H1 Hn → Hn D = none → xs[kk]? = some x → Grown Hn D rs kk Ha → ∃ dd : RowD, RowAt Ha x dd ∧ ∀ (v' : V) (H' : Hp), Same Ha H' → TRow H' v' dd → ∃ acc, H' D = some (.lst acc) ∧ acc.length < sizeLine ∧ Grown Hn D rs (kk + 1) (upd H' D (.lst (acc ++ [v']))) := fun Hn Ha D kk x sn nD hxk gr => by
      obtain ⟨dd, b1, _, b3⟩ := body kk x Ha hxk (sn.trans gr.same)
      refine ⟨dd, b1, fun v' H' sa tr => ?_⟩
      obtain ⟨sx, ys, yl, ye, ya⟩ := gr
      have hk : kk < rs.length := (List.getElem?_eq_some_iff.mp b3).1
      have eD := sa _ _ ye
      refine ⟨ys, eD, by rw [yl, sizeLine_eq]; omega, ⟨same_updN (sx.trans sa) nD, ys ++ [v'], by rw [List.length_append, yl]; rfl, upd_same, fun j dj hj ej => ?_⟩⟩
      by_cases z : j < kk
      · obtain ⟨y, h1, h2⟩ := ya j dj z ej
        exact ⟨y, by rw [List.getElem?_append_left (by omega)]; exact h1, (h2.same sa).other eD⟩
      · have zj : j = kk := by omega
        subst zj
        rw [b3] at ej
        cases ej
        exact ⟨v', by rw [List.getElem?_append_right (by omega), yl, Nat.sub_self]; rfl, tr.other eD⟩
    have fin : ∀ (Hn Hx : Hp) (D : Addr), Same H1 Hn → Hn D = none → Grown Hn D rs xs.length Hx → Q (.ref D) Hx := fun Hn Hx D sn nD gr => by
      obtain ⟨sx, ys, yl, ye, ya⟩ := gr
      rw [rows.1] at yl ya
      exact k D ys Hx (none_of (s1.trans sn) nD) (s1.trans (sn.trans sx)) ye ⟨yl, fun i dd e => ya i dd (List.getElem?_eq_some_iff.mp e).1 e⟩
    rcases hx1 with hx1 | hx1
    · refine .inl ⟨_, rfl, r, xs, rfl, SqL.of hx1, for_enumL (K := K) (a := r) (xs := xs) (fun i σ H' => ∃ v2 v3 : Option V, σ = [some (.ref r), some (.ref d), v2, v3] ∧ Same H1 H') ⟨_, _, rfl, Same.refl _⟩ (fun i σ H' _ z => by obtain ⟨_, _, _, s⟩ := z; exact SqL.of (s _ _ hx1)) ?_ ?_⟩
      · rintro i x σ Ha T Hb hxi ⟨v2, v3, rfl, sa⟩ nT sT eT
        obtain ⟨dd, b1, b2, _⟩ := body i x Hb hxi (sa.trans sT)
        refine ⟨T, _, rfl, .inl (.inl eT), rfl, _, _, rfl, _, _, rfl, rfl, ?_⟩
        refine ⟨_, rfl, _, rfl, _, rfl, r, _, rfl, .inl (SqL.of ((sa.trans sT) _ _ hx1)), ?_⟩
        rw [len]
        refine ⟨x, d, o, _, dd, rfl, b1, Rd.same (s1.trans (sa.trans sT)) hd, b2, fun Hc sc => ⟨_, rfl, ?_⟩⟩
        refine iteF ?_
        exact ⟨_, _, rfl, (sa.trans sT).trans sc⟩
      · rintro σ Hn ⟨v2, v3, rfl, sn⟩
        refine .inl ⟨_, rfl, r, rfl, ⟨_, SqL.of (sn _ _ hx1)⟩, fun D nD => lc_it (walk_list (xs := xs)) (fun kk Hx => Grown Hn D rs kk Hx) ⟨sameNew nD _, [], rfl, upd_same, fun j _ hj => absurd hj (Nat.not_lt_zero j)⟩ (fun kk Hx _ z => SqL.of (z.same _ _ (sn _ _ hx1))) (fun kk x Ha Hb hk z1 z2 => ?_) fun Hx z => fin Hn Hx D sn nD z⟩
        obtain ⟨rfl, hxk⟩ := z2
        obtain ⟨dd, b1, q⟩ := elem Hn _ D kk x sn nD hxk z1
        exact ⟨rfl, _, rfl, x, dd, rfl, b1, q⟩
    · refine .inr ⟨_, rfl, r, xs, rfl, .inl (.inl hx1), for_enumT (K := K) (a := r) (xs := xs) (fun i σ H' => ∃ v2 v3 : Option V, σ = [some (.ref r), some (.ref d), v2, v3] ∧ Same H1 H') ⟨_, _, rfl, Same.refl _⟩ (fun i σ H' _ z => by obtain ⟨_, _, _, s⟩ := z; exact .inl (.inl (s _ _ hx1))) ?_ ?_⟩
      · rintro i x σ Ha T Hb hxi ⟨v2, v3, rfl, sa⟩ nT sT eT
        obtain ⟨dd, b1, b2, _⟩ := body i x Hb hxi (sa.trans sT)
        refine ⟨T, _, rfl, .inl (.inl eT), rfl, _, _, rfl, _, _, rfl, rfl, ?_⟩
        refine ⟨_, rfl, _, rfl, _, rfl, r, _, rfl, .inr (.inl (.inl ((sa.trans sT) _ _ hx1))), ?_⟩
        rw [len]
        refine ⟨x, d, o, _, dd, rfl, b1, Rd.same (s1.trans (sa.trans sT)) hd, b2, fun Hc sc => ⟨_, rfl, ?_⟩⟩
        refine iteF ?_
        exact ⟨_, _, rfl, (sa.trans sT).trans sc⟩
      · rintro σ Hn ⟨v2, v3, rfl, sn⟩
        refine .inr ⟨_, rfl, r, rfl, ⟨_, .inl (.inl (sn _ _ hx1))⟩, fun D nD => lc_it (walk_tup (xs := xs)) (fun kk Hx => Grown Hn D rs kk Hx) ⟨sameNew nD _, [], rfl, upd_same, fun j _ hj => absurd hj (Nat.not_lt_zero j)⟩ (fun kk Hx _ z => .inl (.inl (z.same _ _ (sn _ _ hx1)))) (fun kk x Ha Hb hk z1 z2 => ?_) fun Hx z => fin Hn Hx D sn nD z⟩
        obtain ⟨rfl, hxk⟩ := z2
        obtain ⟨dd, b1, q⟩ := elem Hn _ D kk x sn nD hxk z1
        exact ⟨rfl, _, rfl, x, dd, rfl, b1, q⟩
end
end Mine

set_option maxRecDepth 100000
set_option maxHeartbeats 4000000
namespace Mine
open PySem L2
abbrev s_body : Stmt := inClass (top 36) 0
theorem MachFs.x {m : Addr} {H H' : Hp} {C dx : Addr} {fx : List (Str × V)} {fs : List (Str × V)} {t l : Addr} {b : Nat} {rs : List RowD} {sa aa ea : Addr} {as es : List Str} (x : SameX m H H') (hm : H m = some (.ins C dx fx)) (f : MachFs H fs t l b rs sa aa ea as es) : MachFs H' fs t l b rs sa aa ea as es :=
  ⟨f.counts, f.lines, f.begin, f.stops, f.asks, f.endings, f.endless, x.at hm f.hs (fun z => nomatch z), x.at hm f.ha (fun z => nomatch z), x.at hm f.he (fun z => nomatch z), f.fa, f.fe⟩
theorem MachFs.same {H H' : Hp} {fs : List (Str × V)} {t l : Addr} {b : Nat} {rs : List RowD} {sa aa ea : Addr} {as es : List Str} (s : Same H H') (f : MachFs H fs t l b rs sa aa ea as es) : MachFs H' fs t l b rs sa aa ea as es :=
  ⟨f.counts, f.lines, f.begin, f.stops, f.asks, f.endings, f.endless, s _ _ f.hs, s _ _ f.ha, s _ _ f.he, f.fa, f.fe⟩
/-- a body stands there -/
structure BodyP (CB CM : Addr) (H : Hp) (bd : Addr) (o : Ops) (rs : List RowD) (b : Nat) (m t l sa aa ea : Addr) (o' : Ops) (xs : List V) (as es : List Str) : Prop where
  hb : ∃ dx fb, H bd = some (.ins CB dx fb) ∧ fb.lookup ("machine" : Str) = some (.ref m)
  hm : ∃ dm fm, H m = some (.ins CM dm fm) ∧ MachFs H fm t l b rs sa aa ea as es
  ht : H t = some (.dK (opsK o'))
  ord : Ordered o o'
  hl : H l = some (.lst xs)
  rows : Rows H xs rs
  lt : b < rs.length
  own : ∃ dx, H bd = some (.ins CB dx [("machine", .ref m)])
def BodyAt (CB CM : Addr) (H : Hp) (bd : Addr) (o : Ops) (rs : List RowD) (b : Nat) : Prop := ∃ m t l sa aa ea o' xs as es, BodyP CB CM H bd o rs b m t l sa aa ea o' xs as es
/-- a new body: its parts are new, but for the rows' tuples -/
def BodyN (CB CM : Addr) (H0 H : Hp) (bd : Addr) (o : Ops) (rs : List RowD) (b : Nat) : Prop := ∃ m t l sa aa ea o' xs as es, BodyP CB CM H bd o rs b m t l sa aa ea o' xs as es ∧ H0 m = none ∧ H0 t = none ∧ H0 l = none ∧ H0 sa = none ∧ H0 aa = none ∧ H0 ea = none
theorem BodyN.at {CB CM : Addr} {H0 H : Hp} {bd : Addr} {o : Ops} {rs : List RowD} {b : Nat} (h : BodyN CB CM H0 H bd o rs b) : BodyAt CB CM H bd o rs b := by
  obtain ⟨m, t, l, sa, aa, ea, o', xs, as, es, h, _⟩ := h
  exact ⟨m, t, l, sa, aa, ea, o', xs, as, es, h⟩
/-- what is new, or a tuple, stays: then the body stays -/
theorem BodyN.off {CB CM : Addr} {H0 H H' : Hp} {bd : Addr} {o : Ops} {rs : List RowD} {b : Nat} (h : BodyN CB CM H0 H bd o rs b) (nb : H0 bd = none) (k : ∀ a u, H a = some u → (H0 a = none ∨ ∃ zs, u = .tup zs) → H' a = some u) : BodyAt CB CM H' bd o rs b := by
  obtain ⟨m, t, l, sa, aa, ea, o', xs, as, es, ⟨⟨dx, fb, h1, h2⟩, ⟨dm, fm, h3, h4⟩, h5, h6, h7, h8, h9, dw, hw⟩, n1, n2, n3, n4, n5, n6⟩ := h
  have ku : ∀ {q : Addr} {us : List V}, H q = some (.tup us) → H' q = some (.tup us) := fun e => k _ _ e (.inr ⟨_, rfl⟩)
  refine ⟨m, t, l, sa, aa, ea, o', xs, as, es, ⟨dx, fb, k _ _ h1 (.inl nb), h2⟩, ⟨dm, fm, k _ _ h3 (.inl n1), ⟨h4.counts, h4.lines, h4.begin, h4.stops, h4.asks, h4.endings, h4.endless, k _ _ h4.hs (.inl n4), k _ _ h4.ha (.inl n5), k _ _ h4.he (.inl n6), h4.fa, h4.fe⟩⟩, k _ _ h5 (.inl n2), h6, k _ _ h7 (.inl n3), ⟨h8.1, fun i d e => ?_⟩, h9, dw, k _ _ hw (.inl nb)⟩
  obtain ⟨x, x1, x2⟩ := h8.2 i d e
  refine ⟨x, x1, ?_⟩
  cases d with
  | ask op ns =>
    obtain ⟨q, t', e1, k1, k2⟩ := x2
    exact ⟨q, t', e1, ku k1, ku k2⟩
  | go n =>
    obtain ⟨q, e1, k1⟩ := x2
    exact ⟨q, e1, ku k1⟩
  | fin n =>
    obtain ⟨q, e1, k1⟩ := x2
    exact ⟨q, e1, ku k1⟩
theorem BodyP.same {CB CM : Addr} {H H' : Hp} {bd : Addr} {o : Ops} {rs : List RowD} {b : Nat} {m t l sa aa ea : Addr} {o' : Ops} {xs : List V} {as es : List Str} (s : Same H H') (h : BodyP CB CM H bd o rs b m t l sa aa ea o' xs as es) : BodyP CB CM H' bd o rs b m t l sa aa ea o' xs as es := by
  obtain ⟨⟨dx, fb, h1, h2⟩, ⟨dm, fm, h3, h4⟩, h5, h6, h7, h8, h9, dw, hw⟩ := h
  exact ⟨⟨dx, fb, s _ _ h1, h2⟩, ⟨dm, fm, s _ _ h3, h4.same s⟩, s _ _ h5, h6, s _ _ h7, h8.same s, h9, dw, s _ _ hw⟩
theorem BodyAt.same {CB CM : Addr} {H H' : Hp} {bd : Addr} {o : Ops} {rs : List RowD} {b : Nat} (s : Same H H') (h : BodyAt CB CM H bd o rs b) : BodyAt CB CM H' bd o rs b := by
  obtain ⟨m, t, l, sa, aa, ea, o', xs, as, es, h⟩ := h
  exact ⟨m, t, l, sa, aa, ea, o', xs, as, es, h.same s⟩
theorem RowsIn.same {H H' : Hp} {xs : List V} {rs : List RowD} (s : Same H H') (h : RowsIn H xs rs) : RowsIn H' xs rs := ⟨h.1, fun i d e => by
  obtain ⟨x, h1, h2⟩ := h.2 i d e
  exact ⟨x, h1, h2.same s⟩⟩
def spBody (CB CM : Addr) : Sp := fun vs H Q _ => ∃ (bd d r dx : Addr) (xs : List V) (rs : List RowD) (o : Ops) (b : Nat), vs = [.ref bd, .ref d, .ref r, .int b] ∧ H bd = some (.ins CB dx []) ∧ H d = some (.dK (opsK o)) ∧ OkOps o ∧ SqA H r xs ∧ RowsIn H xs rs ∧ 1 ≤ rs.length ∧ rs.length ≤ 400 ∧ OkRows o rs ∧ b < rs.length ∧
  (distinct "ask" (restD rs b)).length ≤ 100000 ∧ (distinct "end" (restD rs b)).length ≤ 100000 ∧ ∀ H', SameX bd H H' → BodyN CB CM H H' bd o rs b → Q .non H'
structure BodyC (K : PySem.W.Frag) (C : Addr) : Prop where
  cl : Cls K C
  n_machine : NoAttr K C "machine"
section
variable {P : Program} {w : World} {K : PySem.W.Frag} {mg : Str → Option Value} {base : Heap}
variable {fII fIW a_is_row a_is_index a_is_name a_is_text_in a_are_counts a_word_of a_are_nexts a_is_line a_line_of a_are_operations a_lines_read a_in_order f_mach CB CM : Addr}
theorem sc_body : FnScope ["self", "operations", "rows", "start", "lines"] ["self", "operations", "rows", "start"] (defScope s_body) := ⟨rfl, rfl, rfl, by decide +kernel, rfl, by decide +kernel, by decide +kernel⟩
theorem ok_body {f : Addr} {fd fd_are_operations fd_lines_read fd_is_index fd_in_order fd_mach : FuncData} (F : Fun K "__init__" "Body.__init__" s_body f fd) (T : TxtF K mg fII fIW) (TG : TxtG K mg a_is_row a_is_index a_is_name a_is_text_in a_are_counts a_word_of a_are_nexts a_is_line a_line_of a_are_operations) (TB : BodyC K CB)
    (GO : FnOk P w K mg base CX0 4 a_are_operations fd_are_operations ["thing"] spOps) (b_are_operations : Binds K fd_are_operations ["thing"] [])
    (GLR : FnOk P w K mg base CX0 6 a_lines_read fd_lines_read ["rows", "counts"] spRead) (b_lines_read : Binds K fd_lines_read ["rows", "counts"] []) (g_lines_read : mg "lines_read" = some (.ref a_lines_read)) (k_lines_read : PySem.W.keepIn K (.ref a_lines_read) = true)
    (GIx : FnOk P w K mg base CX0 3 a_is_index fd_is_index ["thing", "many"] (spIndex K)) (b_is_index : Binds K fd_is_index ["thing", "many"] [])
    (GIO : FnOk P w K mg base CX0 1 a_in_order fd_in_order ["table"] spOrder) (b_in_order : Binds K fd_in_order ["table"] []) (g_in_order : mg "in_order" = some (.ref a_in_order)) (k_in_order : PySem.W.keepIn K (.ref a_in_order) = true)
    (MM : Mk K CM f_mach) (GM : FnOk P w K mg base CX0 3 f_mach fd_mach ["self", "counts", "lines", "begin"] (spMach CM)) (b_Machine : Binds K fd_mach ["self", "counts", "lines", "begin"] []) (g_Machine : mg "Machine" = some (.ref CM)) : FnOk P w K mg base CX0 7 f fd ["self", "operations", "rows", "start"] (spBody CB CM) := by
  refine F.ok sc_body (fun vs H Q E h => ?_) (fun cdv A outer s H vs Q E hr h => ?_)
  · obtain ⟨bd, d, r, dx, xs, rs, o, b, rfl, _⟩ := h
    rfl
  · obtain ⟨bd, d, r, dx, xs, rs, o, b, rfl, hbd, hd, oko, hx, rows, lo, hi, ok, hb, few1, few2, k⟩ := h
    refine ⟨_, (pss_cons (ps_if (pt_not (pt_val (pe_call GO (hr.mono (by decide)) (by rfl) TG.g_are_operations TG.k_are_operations b_are_operations .nil pass0 (pa_cons (pv 1) pa_nil)))) (pss_one ps_no) pss_nil)
      (pss_cons (ps_set (i := 4) sc_body.nd rfl (Or.inl rfl) (pe_call GLR (hr.mono (by decide)) (by rfl) g_lines_read k_lines_read b_lines_read .nil pass0 (pa_cons (pv 2) (pa_cons (pv 1) pa_nil))))
      (pss_cons (ps_if (pt_not (pt_val (pe_call GIx (hr.mono (by decide)) (by rfl) TG.g_is_index TG.k_is_index b_is_index .nil pass0 (pa_cons (pv 3) (pa_cons (pe_callB call_len_seq (by rfl) T.b_len PySem.boot_len (pa_cons (pv 4) pa_nil)) pa_nil))))) (pss_one ps_no) pss_nil)
      (pss_one (ps_fld (pv 0) (pe_make MM GM (hr.mono (by decide)) (by rfl) g_Machine b_Machine .nil pass0 (pa_cons (pe_call GIO (hr.mono (by decide)) (by rfl) g_in_order k_in_order b_in_order .nil pass0 (pa_cons (pv 1) pa_nil)) (pa_cons (pv 4) (pa_cons (pv 3) pa_nil)))) rfl))))), ?_⟩
    refine ⟨_, rfl, d, o, rfl, hd, oko, fun H1 s1 => ⟨_, rfl, ?_⟩⟩
    refine iteF ?_
    refine ⟨_, rfl, _, rfl, r, d, xs, rs, o, rfl, s1.sqa hx, rows.same s1, .inl (s1 _ _ hd), lo, hi, ok, fun l ys H2 n2 s2 e2 rr => ?_⟩
    refine ⟨_, rfl, _, rfl, l, _, rfl, .inl (SqL.of e2), .int b, "int", _, rfl, btInt _, _, rfl, ?_⟩
    rw [inW_int (show (0 : Int) ≤ b by omega) (by rw [rr.1]; omega)]
    refine iteF ?_
    refine ⟨_, rfl, d, o, rfl, .inl (s2 _ _ (s1 _ _ hd)), oko.nd, by have := oko.few; omega, fun o' ord t H3 n3 s3 e3 => ?_⟩
    refine ⟨_, rfl, _, rfl, fun m dm nm ndm ne => ?_⟩
    have sm : Same H3 (upd (upd H3 dm (.own m)) m (.ins CM dm [])) := same_updN (same_updN (Same.refl _) ndm) nm
    refine ⟨m, t, l, dm, ys, rs, b, rfl, upd_same, sm _ _ (s3 _ _ e2), rr.same (s3.trans sm), ok.fit, hb, by omega, few1, few2, fun fs H5 sa aa ea as es nsa naa nea x5 m5 mf => ⟨rfl, ?_⟩⟩
    have hbd3 : H3 bd = some (.ins CB dx []) := s3 _ _ (s2 _ _ (s1 _ _ hbd))
    have nbm : bd ≠ m := ne_of_none hbd3 nm
    have hbd5 : H5 bd = some (.ins CB dx []) := x5 bd _ nbm (sm _ _ hbd3)
    refine ⟨_, rfl, bd, CB, dx, _, rfl, hbd5, TB.cl, TB.n_machine, by decide, ?_⟩
    have x6 : SameX bd H5 (upd H5 bd (.ins CB dx (putF "machine" (.ref m) []))) := SameX.upd fun _ _ _ e => e
    have up : ∀ {b2 : Addr} {u : HO}, b2 ≠ bd → H b2 = some u → upd H5 bd (.ins CB dx (putF "machine" (.ref m) [])) b2 = some u := fun {b2 u} nb e => by
      have e3' : H3 b2 = some u := s3 _ _ (s2 _ _ (s1 _ _ e))
      exact x6 b2 u nb (x5 b2 u (ne_of_none e3' nm) (sm _ _ e3'))
    have up3 : ∀ {b2 : Addr} {u : HO}, H3 b2 = some u → b2 ≠ bd → upd H5 bd (.ins CB dx (putF "machine" (.ref m) [])) b2 = some u := fun {b2 u} e nb => x6 b2 u nb (x5 b2 u (ne_of_none e nm) (sm _ _ e))
    have rows6 : Rows (upd H5 bd (.ins CB dx (putF "machine" (.ref m) []))) ys rs := SameX.rows x6 hbd5 (SameX.rows x5 upd_same (rr.same (s3.trans sm)))
    have s12 : Same H H2 := s1.trans s2
    have s13 : Same H H3 := s12.trans s3
    refine k _ (fun b2 u nb e => up nb e) ⟨m, t, l, sa, aa, ea, o', ys, as, es, ⟨⟨dx, _, upd_same, by rw [lookup_putF, if_pos rfl]⟩, ⟨dm, fs, x6 m _ (Ne.symm nbm) m5, mf.x x6 hbd5⟩, up3 e3 (fun z => by rw [z, hbd3] at e3; cases e3), ord, up3 (s3 _ _ e2) (fun z => by rw [z] at e2; rw [s2 _ _ (s1 _ _ hbd)] at e2; cases e2), rows6, hb, dx, upd_same⟩, none_of s13 nm, none_of s12 n3, none_of s1 n2, none_of s13 (none_of sm nsa), none_of s13 (none_of sm naa), none_of s13 (none_of sm nea)⟩
end
end Mine

set_option maxRecDepth 100000
set_option maxHeartbeats 4000000
namespace Mine
open PySem L2
abbrev sSrc : Stmt := top 55
abbrev sNext : Stmt := top 56
abbrev sOne : Stmt := top 57
/-- the source of the draws: three ints -/
def SrcAt (H : Hp) (a : Addr) : Prop := ∃ x y z : Int, H a = some (.lst [.int x, .int y, .int z])
/-- all but what stands at a is as it was -/
def But (H H' : Hp) (a : Addr) : Prop := ∀ b o, b ≠ a → H b = some o → H' b = some o
theorem but_upd {H : Hp} {a : Addr} (o : HO) : But H (upd H a o) a := fun b u ne e => by
  rw [upd_ne ne]
  exact e
theorem But.trans {H H1 H2 : Hp} {a : Addr} (s : But H H1 a) (t : But H1 H2 a) : But H H2 a := fun b o ne e => t b o ne (s b o ne e)
theorem But.same {H H1 H2 : Hp} {a : Addr} (s : Same H H1) (t : But H1 H2 a) (n : H a = none) : Same H H2 := fun b o e => t b o (ne_of_none e n) (s b o e)
def spSrc : Sp := fun vs H Q _ => ∃ c : Int, vs = [.int c] ∧ ∀ (x y z : Int), New H (.lst [.int x, .int y, .int z]) Q
def spNext : Sp := fun vs H Q _ => ∃ (a : Addr) (m x y z : Int), vs = [.ref a, .int m] ∧ 0 < m ∧ m.natAbs < 2 ^ 200 ∧ H a = some (.lst [.int x, .int y, .int z]) ∧
  ∀ (n x' y' z' : Int) (H' : Hp), 0 ≤ n → n < m → But H H' a → H' a = some (.lst [.int x', .int y', .int z']) → Q (.int n) H'
/-- one of the things in a list -/
def spOne : Sp := fun vs H Q _ => ∃ (a b : Addr) (xs : List V) (x y z : Int), vs = [.ref a, .ref b] ∧ H a = some (.lst [.int x, .int y, .int z]) ∧ H b = some (.lst xs) ∧ 0 < xs.length ∧ xs.length ≤ 1000 ∧ a ≠ b ∧
  ∀ (v : V) (x' y' z' : Int) (H' : Hp), v ∈ xs → But H H' a → H' a = some (.lst [.int x', .int y', .int z']) → Q v H'
structure TxtD (K : PySem.W.Frag) (mg : Str → Option Value) (fN : Addr) : Prop where
  int : mg "int" = none
  len : mg "len" = none
  gN : mg "_law_next" = some (.ref fN)
  kN : PySem.W.keepIn K (.ref fN) = true
theorem at0 {α : Type} {a : α} {l : List α} : atI (a :: l) 0 = some a := atI_nat (j := 0) rfl
theorem at1 {α : Type} {a b : α} {l : List α} : atI (a :: b :: l) 1 = some b := atI_nat (j := 1) rfl
theorem at2 {α : Type} {a b c : α} {l : List α} : atI (a :: b :: c :: l) 2 = some c := atI_nat (j := 2) rfl
theorem ix0 {n : Nat} : ixN (n + 1) 0 = some 0 := by
  unfold ixN
  rw [if_pos (Int.le_refl _), if_pos (by omega)]
  rfl
theorem ix2 {n : Nat} : ixN (n + 3) 2 = some 2 := by
  unfold ixN
  rw [if_pos (by decide), if_pos (by omega)]
  rfl
theorem modM {m : Int} (h : 0 < m) (u : Int) : 0 ≤ u % m ∧ u % m < m := ⟨Int.emod_nonneg _ (by omega), Int.emod_lt_of_pos _ h⟩
section
variable {P : Program} {w : World} {K : PySem.W.Frag} {mg : Str → Option Value} {base : Heap}
variable {fN : Addr}
theorem scSrc : FnScope ["_law_cell"] ["_law_cell"] (defScope sSrc) := ⟨rfl, rfl, rfl, by decide +kernel, rfl, by decide +kernel, by decide +kernel⟩
theorem ok_src {f : Addr} {fd : FuncData} (F : Fun K "_law_source_of" "_law_source_of" sSrc f fd) (T : TxtD K mg fN) : FnOk P w K mg base CX0 1 f fd ["_law_cell"] spSrc := by
  refine F.ok scSrc (fun vs H Q E h => ?_) (fun cdv A outer s H vs Q E hr h => ?_)
  · obtain ⟨c, rfl, _⟩ := h
    rfl
  · obtain ⟨c, rfl, k⟩ := h
    refine ⟨_, (pss_cons (ps_set (i := 0) scSrc.nd rfl (Or.inl rfl) (pe_ifExp (pt_cmpR op_ge (pv 0) pe_int (nomark _)) (pv 0) (pe_op op_sub (pe_op op_sub pe_int (pe_op op_mul pe_int (pv 0))) pe_int)))
      (pss_one (ps_ret (pe_lstG (pa_cons (pe_op op_mul (pv 0) (pe_callTy call_int1 (by rfl) T.int (by decide +kernel) (pa_cons (pe_cmpR op_ge (pv 0) (pe_op op_pow pe_int pe_int) (nomark _)) pa_nil))) (pa_cons (pe_op op_mod (pe_callTy call_int1 (by rfl) T.int (by decide +kernel) (pa_cons (pv 0) pa_nil)) pe_int) (pa_cons pe_int pa_nil))))))), ?_⟩
    refine ⟨_, rfl, _, _, rfl, rfl, _, rfl, ?_⟩
    refine ite2 (fun _ => ?_) (fun _ => ?_)
    · refine ⟨_, rfl, _, rfl, _, rfl, _, _, rfl, rfl, ⟨by decide, by decide, by decide⟩, _, _, rfl, rfl, .inr ⟨_, rfl, _, _, rfl, rfl, .inr (by split <;> decide), ?_⟩⟩
      refine ⟨_, rfl, .inl ⟨_, rfl, _, _, rfl, rfl, (by show (0 : Int) < 2147483647; decide), ?_⟩⟩
      exact ⟨by show 3 ≤ sizeLine; decide, fun p H' n s e => k _ _ _ p H' n s e⟩
    · refine ⟨_, rfl, _, _, rfl, rfl, .inl (by decide), _, _, rfl, rfl, _, _, rfl, rfl, ?_⟩
      refine ⟨_, rfl, _, rfl, _, _, rfl, rfl, ⟨by decide, by decide, by decide⟩, _, _, rfl, rfl, .inr ⟨_, rfl, _, _, rfl, rfl, .inr (by split <;> decide), ?_⟩⟩
      refine ⟨_, rfl, .inl ⟨_, rfl, _, _, rfl, rfl, (by show (0 : Int) < 2147483647; decide), ?_⟩⟩
      exact ⟨by show 3 ≤ sizeLine; decide, fun p H' n s e => k _ _ _ p H' n s e⟩
theorem scNext : FnScope ["_law_source", "_law_many", "_law_found", "_law_number"] ["_law_source", "_law_many"] (defScope sNext) := ⟨rfl, rfl, rfl, by decide +kernel, rfl, by decide +kernel, by decide +kernel⟩
theorem divOk {i m : Int} (h0 : 0 < m) (h : m.natAbs < 2 ^ 200) : CDivW i m := wide_div (i := i) h0 h (by decide) (by decide)
theorem ok_next {f : Addr} {fd : FuncData} (F : Fun K "_law_next" "_law_next" sNext f fd) (T : TxtD K mg fN) : FnOk P w K mg base CX0 1 f fd ["_law_source", "_law_many"] spNext := by
  refine F.ok scNext (fun vs H Q E h => ?_) (fun cdv A outer s H vs Q E hr h => ?_)
  · obtain ⟨a, m, x, y, z, rfl, _⟩ := h
    rfl
  · obtain ⟨a, m, x, y, z, rfl, m0, m1, ha, k⟩ := h
    refine ⟨_, (pss_cons (ps_if (pt_cmpR op_gt (pe_ix ix_list (pv 0) pe_int (fun _ _ => rfl)) pe_int (nomark _)) (pss_cons (ps_set (i := 2) scNext.nd rfl (Or.inl rfl) (pe_op op_mod (pe_callTy call_int1 (by rfl) T.int (by decide +kernel) (pa_cons (pe_ix ix_list (pv 0) pe_int (fun _ _ => rfl)) pa_nil)) (pv 1)))
      (pss_cons (ps_asg (pe_op op_fdivW (pe_ix ix_list (pv 0) pe_int (fun _ _ => rfl)) (pv 1)) (pg_sub (pv 0) pe_int set_list))
      (pss_one (ps_ret (pv 2))))) pss_nil)
      (pss_cons (ps_asg (pe_op op_add (pe_ix ix_list (pv 0) pe_int (fun _ _ => rfl)) pe_int) (pg_sub (pv 0) pe_int set_list))
      (pss_cons (ps_set (i := 3) scNext.nd rfl (Or.inl rfl) (pe_op op_mod (pe_callTy call_int1 (by rfl) T.int (by decide +kernel) (pa_cons (pe_op op_add (pe_op op_add (pe_ix ix_list (pv 0) pe_int (fun _ _ => rfl)) (pe_op op_mul pe_int (pe_ix ix_list (pv 0) pe_int (fun _ _ => rfl)))) pe_int) pa_nil)) pe_int))
      (pss_cons (ps_set (i := 3) scNext.nd rfl (Or.inl rfl) (pe_op op_mod (pe_callTy call_int1 (by rfl) T.int (by decide +kernel) (pa_cons (pe_op op_mul (pv 3) pe_int) pa_nil)) pe_int))
      (pss_cons (ps_set (i := 3) scNext.nd rfl (Or.inl rfl) (pe_op op_mod (pe_callTy call_int1 (by rfl) T.int (by decide +kernel) (pa_cons (pe_op op_mul (pv 3) (pe_op op_add (pe_op op_fdiv (pv 3) pe_int) pe_int)) pa_nil)) pe_int))
      (pss_cons (ps_set (i := 3) scNext.nd rfl (Or.inl rfl) (pe_op op_mod (pe_callTy call_int1 (by rfl) T.int (by decide +kernel) (pa_cons (pe_op op_mul (pv 3) (pe_op op_add (pe_op op_fdiv (pv 3) pe_int) pe_int)) pa_nil)) pe_int))
      (pss_one (ps_ret (pe_op op_mod (pe_callTy call_int1 (by rfl) T.int (by decide +kernel) (pa_cons (pe_op op_fdiv (pv 3) pe_int) pa_nil)) (pv 1)))))))))), ?_⟩
    refine ⟨_, rfl, _, _, _, _, rfl, rfl, SqL.of ha, at0, _, _, rfl, rfl, _, rfl, ?_⟩
    refine ite2 (fun _ => ?_) (fun _ => ?_)
    · refine ⟨_, rfl, _, _, _, _, rfl, rfl, SqL.of ha, at0, .inl ⟨_, rfl, _, rfl, _, _, rfl, rfl, m0, ?_⟩⟩
      refine ⟨_, rfl, _, _, _, _, rfl, rfl, SqL.of ha, at0, _, rfl, _, _, rfl, rfl, divOk m0 m1, _, rfl, _, _, _, 0, rfl, rfl, ha, ix0, ?_⟩
      exact ⟨_, rfl, k _ _ y z _ (modM m0 _).1 (modM m0 _).2 (but_upd _) upd_same⟩
    · refine ⟨_, rfl, _, _, _, _, rfl, rfl, SqL.of ha, at2, _, _, rfl, rfl, _, rfl, _, _, _, 2, rfl, rfl, ha, ix2, ?_⟩
      have bd : ∀ u : Int, (-(2 ^ 64) < u % 2147483647 ∧ u % 2147483647 < 2 ^ 64) := fun u => by
        have := modM (show (0 : Int) < 2147483647 by decide) u
        omega
      refine ⟨_, rfl, _, _, _, _, rfl, rfl, SqL.of upd_same, at1, _, rfl, _, _, _, _, rfl, rfl, SqL.of upd_same, at2, _, _, rfl, rfl, .inl (by decide), _, _, rfl, rfl, _, _, rfl, rfl, .inl ⟨_, rfl, _, _, rfl, rfl, (by show (0 : Int) < 2147483647; decide), ?_⟩⟩
      refine ⟨_, rfl, _, _, rfl, rfl, .inr (by decide), .inl ⟨_, rfl, _, _, rfl, rfl, (by show (0 : Int) < 2147483647; decide), ?_⟩⟩
      refine ⟨_, rfl, _, rfl, _, _, rfl, rfl, ⟨by decide, by decide⟩, _, _, rfl, rfl, _, _, rfl, rfl, .inl (bd _), .inl ⟨_, rfl, _, _, rfl, rfl, (by show (0 : Int) < 2147483647; decide), ?_⟩⟩
      refine ⟨_, rfl, _, rfl, _, _, rfl, rfl, ⟨by decide, by decide⟩, _, _, rfl, rfl, _, _, rfl, rfl, .inl (bd _), .inl ⟨_, rfl, _, _, rfl, rfl, (by show (0 : Int) < 2147483399; decide), ?_⟩⟩
      refine ⟨_, rfl, _, _, rfl, rfl, ⟨by decide, by decide⟩, .inl ⟨_, rfl, _, rfl, _, _, rfl, rfl, m0, ?_⟩⟩
      exact k _ x y _ _ (modM m0 _).1 (modM m0 _).2 (but_upd _) upd_same
theorem scOne : FnScope ["_law_source", "_law_some"] ["_law_source", "_law_some"] (defScope sOne) := ⟨rfl, rfl, rfl, by decide +kernel, rfl, by decide +kernel, by decide +kernel⟩
theorem ok_one {f : Addr} {fd fdN : FuncData} (F : Fun K "_law_one" "_law_one" sOne f fd) (T : TxtD K mg fN) (FN : Fun K "_law_next" "_law_next" sNext fN fdN) (bN : Binds K fdN ["_law_source", "_law_many"] []) : FnOk P w K mg base CX0 2 f fd ["_law_source", "_law_some"] spOne := by
  have GN : FnOk P w K mg base CX0 1 fN fdN ["_law_source", "_law_many"] spNext := ok_next FN T
  refine F.ok scOne (fun vs H Q E h => ?_) (fun cdv A outer s H vs Q E hr h => ?_)
  · obtain ⟨a, b, xs, x, y, z, rfl, _⟩ := h
    rfl
  · obtain ⟨a, b, xs, x, y, z, rfl, ha, hb, l0, l1, ne, k⟩ := h
    have hr1 : Room 1 _ := hr.mono (by decide)
    refine ⟨_, (pss_one (ps_ret (pe_ix ix_list (pv 1) (pe_call GN hr1 (by rfl) T.gN T.kN bN .nil pass0 (pa_cons (pv 0) (pa_cons (pe_callB call_len_seq (by rfl) T.len PySem.boot_len (pa_cons (pv 1) pa_nil)) pa_nil))) (fun _ _ => rfl)))), ?_⟩
    refine ⟨_, rfl, _, rfl, _, rfl, _, _, rfl, .inl (SqL.of hb), a, _, x, y, z, rfl, by omega, ?_, ha, fun n x' y' z' H' n0 n1 bt he => ?_⟩
    · have : (((xs.length : Nat) : Int)).natAbs = xs.length := rfl
      rw [this]
      exact Nat.lt_of_le_of_lt l1 (by decide)
    · have hn : n.toNat < xs.length := by omega
      have ei : xs[n.toNat]? = some xs[n.toNat] := List.getElem?_eq_getElem hn
      have e2 : ((n.toNat : Nat) : Int) = n := Int.toNat_of_nonneg n0
      have ea : atI xs ((n.toNat : Nat) : Int) = some xs[n.toNat] := atI_nat ei
      rw [e2] at ea
      exact ⟨_, _, _, _, rfl, rfl, SqL.of (bt _ _ ne.symm hb), ea, k _ _ _ _ _ (List.getElem_mem hn) bt he⟩
end
end Mine

set_option maxRecDepth 100000
set_option maxHeartbeats 4000000
namespace Mine
open PySem L2
abbrev s_mixed : Stmt := top 58
/-- a text, or a pair of a text and a number -/
def El (H : Hp) (v : V) : Prop := (∃ t : Str, v = .str t ∧ PyData.strOk t = true) ∨ ∃ (q : Addr) (t : Str) (i : Int), v = .ref q ∧ H q = some (.tup [.str t, .int i]) ∧ PyData.strOk t = true
def TupStay (H H' : Hp) : Prop := ∀ (q : Addr) (zs : List V), H q = some (.tup zs) → H' q = some (.tup zs)
theorem El.stay {H H' : Hp} {v : V} (s : TupStay H H') (e : El H v) : El H' v := e.elim .inl fun ⟨q, t, i, h1, h2, h3⟩ => .inr ⟨q, t, i, h1, s _ _ h2, h3⟩
theorem El.dp {K : PySem.W.Frag} {H : Hp} {v : V} (e : El H v) : ∃ d : PyData, Dp K H v d ∧ d.canLay0 = true ∧ d.depth ≤ 1 := by
  rcases e with ⟨t, rfl, h⟩ | ⟨q, t, i, rfl, h, h3⟩
  · exact ⟨_, .str t, by simp [PyData.canLay0, h], by simp [PyData.depth]⟩
  · exact ⟨_, .tup (.inl (.inl h)) (.cons (.str t) (.cons (.int i) .nil)), by simp [PyData.canLay0, PyData.canLayAll0, h3], by simp [PyData.depth, PyData.depthAll]⟩
theorem Els.dp {K : PySem.W.Frag} {H : Hp} : ∀ {vs : List V}, (∀ v ∈ vs, El H v) → ∃ ds : List PyData, DpAll K H vs ds ∧ PyData.canLayAll0 ds = true ∧ PyData.depthAll ds ≤ 1 ∧ ds.length = vs.length
  | [], _ => ⟨[], .nil, by simp [PyData.canLayAll0], by simp [PyData.depthAll], rfl⟩
  | v :: vs, h => by
    obtain ⟨d, h1, h2, h3⟩ := (h v List.mem_cons_self).dp (K := K)
    obtain ⟨ds, k1, k2, k3, k4⟩ := Els.dp (K := K) (vs := vs) fun x hx => h x (List.mem_cons_of_mem _ hx)
    refine ⟨d :: ds, .cons h1 k1, by simp [PyData.canLayAll0, h2, k2], ?_, by rw [List.length_cons, k4]; rfl⟩
    simp only [PyData.depthAll]
    omega
def spMixed : Sp := fun vs H Q _ => ∃ (a b : Addr) (xs : List V) (x y z : Int), vs = [.ref a, .ref b] ∧ H a = some (.lst [.int x, .int y, .int z]) ∧ SqA H b xs ∧ xs.length ≤ 1000 ∧ (∀ v ∈ xs, El H v) ∧
  ∀ (p : Addr) (ys : List V) (x' y' z' : Int) (H' : Hp), H p = none → ys.Perm xs → But H H' a → H' a = some (.lst [.int x', .int y', .int z']) → H' p = some (.lst ys) → Q (.ref p) H'
/-- ahead of a turn -/
structure MixI (H : Hp) (a la fa : Addr) (xs lf ff : List V) (H' : Hp) : Prop where
  but : But H H' a
  src : SrcAt H' a
  l : H' la = some (.lst lf)
  f : H' fa = some (.lst ff)
  nl : H la = none
  nf : H fa = none
  ne : la ≠ fa
  perm : (lf ++ ff).Perm xs
theorem erase_perm {α : Type} : ∀ (l : List α) (k : Nat) (y : α), l[k]? = some y → (y :: l.eraseIdx k).Perm l ∧ (l.eraseIdx k).length + 1 = l.length
  | [], k, y, h => by simp at h
  | x :: l, 0, y, h => by
    have e : x = y := Option.some.inj h
    subst e
    exact ⟨.refl _, rfl⟩
  | x :: l, k + 1, y, h => by
    obtain ⟨p, e⟩ := erase_perm l k y (by simpa using h)
    exact ⟨(List.Perm.swap x y _).trans (p.cons x), by show (l.eraseIdx k).length + 1 + 1 = l.length + 1; rw [e]⟩
theorem seq_at {n : Nat} {i : Int} (h0 : 0 ≤ i) (h : i < n) : seqIndex? i n = some i.toNat := (ixN_seq (by unfold ixN; rw [if_pos h0, if_pos h])).1
section
variable {P : Program} {w : World} {K : PySem.W.Frag} {mg : Str → Option Value} {base : Heap}
variable {fII fIW fN : Addr}
theorem sc_mixed : FnScope ["_law_source", "_law_some", "_law_left", "_law_found"] ["_law_source", "_law_some"] (defScope s_mixed) := ⟨rfl, rfl, rfl, by decide +kernel, rfl, by decide +kernel, by decide +kernel⟩
theorem ok_mixed {f : Addr} {fd fdN : FuncData} (F : Fun K "_law_mixed" "_law_mixed" s_mixed f fd) (T : TxtF K mg fII fIW)
    (GN : FnOk P w K mg base CX0 1 fN fdN ["_law_source", "_law_many"] spNext) (b_next : Binds K fdN ["_law_source", "_law_many"] []) (g_next : mg "_law_next" = some (.ref fN)) (k_next : PySem.W.keepIn K (.ref fN) = true) : FnOk P w K mg base CX0 2 f fd ["_law_source", "_law_some"] spMixed := by
  refine F.ok sc_mixed (fun vs H Q E h => ?_) (fun cdv A outer s H vs Q E hr h => ?_)
  · obtain ⟨a, b, xs, x, y, z, rfl, _⟩ := h
    rfl
  · obtain ⟨a, b, xs, x, y, z, rfl, ha, hb, few, els, k⟩ := h
    refine ⟨_, (pss_cons (ps_par (i := 2) (j := 3) rfl sc_mixed.nd rfl rfl (by decide) rfl rfl (pa_cons (pe_callTy call_listG (by rfl) T.b_list (by decide +kernel) (pa_cons (pv 1) pa_nil)) (pa_cons (pe_lstG pa_nil) pa_nil)) rfl)
      (pss_cons (ps_while PassesOwn.never (pt_cmpR (op_neD hr.units) (pv 2) (pe_lstG pa_nil) (nomark _)) (pss_one (ps_expr (pe_bm PySem.F.plainAttrs_list PySem.F.slot_list_append PySem.F.type_list_append mt_append (pv 3) (pa_cons (pe_bm PySem.F.plainAttrs_list PySem.F.slot_list_pop PySem.F.type_list_pop mt_popAt (pv 2) (pa_cons (pe_call GN (hr.mono (by decide)) (by rfl) g_next k_next b_next .nil pass0 (pa_cons (pv 0) (pa_cons (pe_callB call_len_seq (by rfl) T.b_len PySem.boot_len (pa_cons (pv 2) pa_nil)) pa_nil))) pa_nil)) pa_nil)))))
      (pss_one (ps_ret (pv 3))))), ?_⟩
    refine ⟨_, rfl, b, _, rfl, hb, fun la H1 n1 s1 e1 => ⟨Nat.zero_le _, fun fa H2 n2 s2 e2 => ⟨_, _, rfl, ?_⟩⟩⟩
    have nla : la ≠ fa := fun z => by
      rw [← z, e1] at n2
      cases n2
    have start : MixI H a la fa xs xs [] H2 := ⟨fun b2 o _ e => s2 _ _ (s1 _ _ e), ⟨x, y, z, s2 _ _ (s1 _ _ ha)⟩, s2 _ _ e1, e2, n1, none_of s1 n2, nla, by rw [List.append_nil]⟩
    refine ⟨fun m σ H' => ∃ lf ff, m = lf.length ∧ σ = [some (.ref a), some (.ref b), some (.ref la), some (.ref fa)] ∧ MixI H a la fa xs lf ff H', ⟨_, xs, [], rfl, rfl, start⟩, ?_⟩
    rintro m σ H' ⟨lf, ff, rfl, rfl, mi⟩
    have nal : la ≠ a := fun z => by
      have := mi.nl
      rw [z, ha] at this
      cases this
    have naf : fa ≠ a := fun z => by
      have := mi.nf
      rw [z, ha] at this
      cases this
    have tup : ∀ {H'' : Hp}, But H H'' a → TupStay H H'' := fun bt q zs e => bt q _ (fun z => by rw [z, ha] at e; cases e) e
    have len : lf.length + ff.length = xs.length := by
      have := mi.perm.length_eq
      rw [List.length_append] at this
      exact this
    refine ⟨_, rfl, Nat.zero_le _, fun e0 H3 n3 s3 ee => ?_⟩
    have bt3 : But H H3 a := fun b2 o nb e => s3 _ _ (mi.but b2 o nb e)
    obtain ⟨ds, d1, d2, d3, d4⟩ := Els.dp (K := K) (H := H3) (vs := lf) fun v hv => (els v (mi.perm.mem_iff.mp (List.mem_append_left _ hv))).stay (tup bt3)
    have sh : SeqAt.shaped (.list ds) = true := by
      show (PyData.canLay0 (.list ds) && decide (PyData.depth (.list ds) ≤ 64)) = true
      rw [Bool.and_eq_true]
      refine ⟨by simp only [PyData.canLay0]; exact d2, decide_eq_true ?_⟩
      simp only [PyData.depth]
      omega
    refine ⟨.list ds, .list [], .lst (SqL.of (s3 _ _ mi.l)) d1, .lst (SqL.of ee) .nil, sh, by decide +kernel, _, rfl, ?_⟩
    cases lf with
    | nil =>
      have : ds = [] := List.length_eq_zero_iff.mp d4
      subst this
      have e : (!PyData.eqv (.list []) (.list [])) = false := by simp [PyData.eqv, PyData.eqvAll]
      rw [e]
      refine iteF ?_
      obtain ⟨x', y', z', es⟩ := mi.src
      exact ⟨_, rfl, k fa ff x' y' z' H3 mi.nf (by simpa using mi.perm) bt3 (s3 _ _ es) (s3 _ _ mi.f)⟩
    | cons v0 l0 =>
      have e : (!PyData.eqv (.list ds) (.list [])) = true := by
        cases ds with
        | nil => simp at d4
        | cons d ds => simp [PyData.eqv, PyData.eqvAll]
      rw [e]
      refine iteT ?_
      refine ⟨fun σ' H'' => ∃ lf' ff', lf'.length < (v0 :: l0).length ∧ σ' = [some (.ref a), some (.ref b), some (.ref la), some (.ref fa)] ∧ MixI H a la fa xs lf' ff' H'', fun σ' H'' ⟨lf', ff', z1, z2, z3⟩ => ⟨_, z1, lf', ff', rfl, z2, z3⟩, ?_⟩
      obtain ⟨x', y', z', es⟩ := mi.src
      refine ⟨_, rfl, .inl ⟨rfl, _, SqL.of (s3 _ _ mi.f)⟩, _, rfl, .inl ⟨rfl, _, SqL.of (s3 _ _ mi.l)⟩, _, rfl, _, rfl, la, _, rfl, .inl (SqL.of (s3 _ _ mi.l)), a, _, x', y', z', rfl, ?_, ?_, s3 _ _ es, fun n u1 u2 u3 H4 n0 n1' bt4 e4 => ?_⟩
      · show (0 : Int) < ((v0 :: l0).length : Int)
        simp
      · have h1 : (v0 :: l0).length ≤ 1000 := by omega
        rw [Int.natAbs_natCast]
        exact Nat.lt_of_le_of_lt h1 (by decide)
      · have n1' : n < ((v0 :: l0).length : Int) := n1'
        have h1 : (v0 :: l0).length ≤ 1000 := by omega
        have el := bt4 _ _ nal (s3 _ _ mi.l)
        have ef := bt4 _ _ naf (s3 _ _ mi.f)
        have hk : n.toNat < (v0 :: l0).length := by omega
        have ey : (v0 :: l0)[n.toNat]? = some (v0 :: l0)[n.toNat] := List.getElem?_eq_getElem hk
        obtain ⟨pe, le⟩ := erase_perm _ _ _ ey
        generalize (v0 :: l0)[n.toNat] = y at ey pe
        generalize hl2 : (v0 :: l0).eraseIdx n.toNat = l2 at pe le
        refine ⟨la, v0 :: l0, n, n.toNat, y, rfl, rfl, el, by omega, by omega, seq_at n0 n1', ey, ?_⟩
        rw [hl2]
        have ef2 : upd H4 la (.lst l2) fa = some (.lst ff) := by
          rw [upd_ne (Ne.symm nla)]
          exact ef
        refine ⟨fa, ff, y, rfl, rfl, ef2, by rw [sizeLine_eq]; omega, l2, ff ++ [y], by omega, rfl, ?_⟩
        have ne : ∀ {b2 : Addr} {o : HO}, H b2 = some o → b2 ≠ la ∧ b2 ≠ fa := fun {b2 o} e => ⟨fun z => absurd (by rw [← e, z, mi.nl]) (fun q : (none : Option HO) = some o => nomatch q), fun z => absurd (by rw [← e, z, mi.nf]) (fun q : (none : Option HO) = some o => nomatch q)⟩
        refine ⟨fun b2 o nb e => ?_, ⟨u1, u2, u3, ?_⟩, ?_, upd_same, mi.nl, mi.nf, nla, ?_⟩
        · rw [upd_ne (ne e).2, upd_ne (ne e).1]
          exact bt4 _ _ nb (bt3 _ _ nb e)
        · rw [upd_ne (Ne.symm naf), upd_ne (Ne.symm nal)]
          exact e4
        · rw [upd_ne nla, upd_same]
        · have q1 : (l2 ++ (ff ++ [y])).Perm (y :: l2 ++ ff) := by
            rw [← List.append_assoc]
            exact (List.perm_append_comm (l₁ := l2 ++ ff) (l₂ := [y]))
          exact (q1.trans (pe.append_right ff)).trans mi.perm
end
end Mine

set_option maxRecDepth 100000
set_option maxHeartbeats 4000000
namespace Mine
open PySem L2
abbrev s_ops : Stmt := top 59
def names8 : List Str := ["coin", "ask", "tell", "go", "end", "fail", "x", "open"]
def spDrawOps : Sp := fun vs H Q _ => ∃ (a : Addr) (m : Nat) (x y z : Int), vs = [.ref a, .int (m : Int)] ∧ H a = some (.lst [.int x, .int y, .int z]) ∧ m ≤ 8 ∧
  ∀ (p : Addr) (o : Ops) (x' y' z' : Int) (H' : Hp), H p = none → o.length = m → (∀ q ∈ o, q.1 ∈ names8 ∧ 0 ≤ q.2 ∧ q.2 ≤ 3) → (o.map (·.1)).Nodup → But H H' a → H' a = some (.lst [.int x', .int y', .int z']) → H' p = some (.dK (opsK o)) → Q (.ref p) H'
theorem names8_ok : ∀ t ∈ names8, isNm t = true := by decide +kernel
theorem names8_nd : names8.Nodup := by decide +kernel
theorem names8_str : ∀ t ∈ names8, PyData.strOk t = true := by decide +kernel
def unS : V → Str
  | .str t => t
  | _ => ""
theorem perm_strs {ys : List V} {ns : List Str} (h : ys.Perm (ns.map V.str)) : ∃ zs : List Str, zs.Perm ns ∧ ys = zs.map V.str := by
  refine ⟨ys.map unS, ?_, ?_⟩
  · have := h.map unS
    rw [List.map_map] at this
    have e : ns.map (unS ∘ V.str) = ns := (List.map_congr_left fun _ _ => rfl).trans (List.map_id ns)
    rw [e] at this
    exact this
  · rw [List.map_map]
    refine (List.map_id ys).symm.trans (List.map_congr_left fun v hv => ?_)
    obtain ⟨t, _, rfl⟩ := List.mem_map.mp (h.mem_iff.mp hv)
    rfl
theorem paired_imp {α β : Type} {R S : α → β → Prop} (h : ∀ x y, R x y → S x y) : ∀ {xs : List α} {ys : List β}, Paired R xs ys → Paired S xs ys
  | _, _, .nil => .nil
  | _, _, .cons a b => .cons (h _ _ a) (paired_imp h b)
theorem paired_snoc {α β : Type} {R : α → β → Prop} {x : α} {y : β} (h : R x y) : ∀ {xs : List α} {ys : List β}, Paired R xs ys → Paired R (xs ++ [x]) (ys ++ [y])
  | _, _, .nil => .cons h .nil
  | _, _, .cons a b => .cons a (paired_snoc h b)
theorem low8 : ∀ n ∈ ([0, 1, 1, 2, 2, 2, 3, 2] : List Int), 0 ≤ n ∧ n ≤ 3 := by decide
/-- the pairs that are made so far -/
structure PairI (Hn : Hp) (a D : Addr) (zs : List Str) (j : Nat) (Hx : Hp) : Prop where
  but : But Hn Hx a
  src : SrcAt Hx a
  made : ∃ (ps : List Addr) (o : Ops), Hx D = some (.lst (ps.map V.ref)) ∧ o.map (·.1) = zs.take j ∧ (∀ q ∈ o, 0 ≤ q.2 ∧ q.2 ≤ 3) ∧ Paired (fun p kv => Hx p = some (.tup [kV kv.1, kv.2])) ps (opsK o) ∧ ps.length = j
theorem merge_new : ∀ (more kvs : List (Key × V)), (more.map (·.1)).Nodup → (∀ k ∈ more.map (·.1), valV kvs k = none) → mergeK kvs more = kvs ++ more
  | [], kvs, _, _ => by rw [List.append_nil]; rfl
  | p :: more, kvs, nd, h => by
    rw [List.map_cons, List.nodup_cons] at nd
    show mergeK (putK kvs p.1 p.2) more = _
    have hp := h p.1 (by rw [List.map_cons]; exact List.mem_cons_self)
    rw [merge_new more _ nd.2 fun k hk => by
      rw [valV_put, if_neg (fun z : k = p.1 => nd.1 (by rw [← z]; exact hk))]
      exact h k (by rw [List.map_cons]; exact List.mem_cons_of_mem _ hk), putK_new _ hp, List.append_assoc]
    rfl
theorem merge_ops {o : Ops} (nd : (o.map (·.1)).Nodup) : mergeK [] (opsK o) = opsK o := by
  have := merge_new (opsK o) [] (by
    rw [opsK_keys, List.Nodup, List.pairwise_map]
    exact List.Pairwise.imp (fun h z => h (Sum.inr.inj z)) nd) (fun _ _ => rfl)
  rw [this]
  rfl
section
variable {P : Program} {w : World} {K : PySem.W.Frag} {mg : Str → Option Value} {base : Heap}
variable {fII fIW fM fO : Addr}
theorem sc_ops : FnScope ["_law_source", "_law_many", "_law_names", "_law_name"] ["_law_source", "_law_many"] (defScope s_ops) := ⟨rfl, rfl, rfl, by decide +kernel, rfl, by decide +kernel, by decide +kernel⟩
theorem ok_draw_ops {f : Addr} {fd fdM fdO : FuncData} (F : Fun K "_law_operations" "_law_operations" s_ops f fd) (T : TxtF K mg fII fIW)
    (GM : FnOk P w K mg base CX0 2 fM fdM ["_law_source", "_law_some"] spMixed) (b_mixed : Binds K fdM ["_law_source", "_law_some"] []) (g_mixed : mg "_law_mixed" = some (.ref fM)) (k_mixed : PySem.W.keepIn K (.ref fM) = true)
    (GO : FnOk P w K mg base CX0 2 fO fdO ["_law_source", "_law_some"] spOne) (b_one : Binds K fdO ["_law_source", "_law_some"] []) (g_one : mg "_law_one" = some (.ref fO)) (k_one : PySem.W.keepIn K (.ref fO) = true) : FnOk P w K mg base CX0 3 f fd ["_law_source", "_law_many"] spDrawOps := by
  refine F.ok sc_ops (fun vs H Q E h => ?_) (fun cdv A outer s H vs Q E hr h => ?_)
  · obtain ⟨a, m, x, y, z, rfl, _⟩ := h
    rfl
  · obtain ⟨a, m, x, y, z, rfl, ha, hm, k⟩ := h
    refine ⟨_, (pss_cons (ps_set (i := 2) sc_ops.nd rfl (Or.inl rfl) (pe_slice sl_listG (pe_call GM (hr.mono (by decide)) (by rfl) g_mixed k_mixed b_mixed .nil pass0 (pa_cons (pv 0) (pa_cons (pe_lstG (pa_cons pe_str (pa_cons pe_str (pa_cons pe_str (pa_cons pe_str (pa_cons pe_str (pa_cons pe_str (pa_cons pe_str (pa_cons pe_str pa_nil))))))))) pa_nil))) po_none (po_some (pv 1))))
      (pss_one (ps_ret (pe_callTy (call_dictP rfl) (by rfl) T.b_dict (by decide +kernel) (pa_cons (pe_lc (own := [("_law_name", 3)]) (g := gName 3) (tt := tYes) rfl sc_ops.nd (pi_list (pv 2)) (blkOk_by (own := [("_law_name", 3)]) (N := ["_law_source", "_law_many", "_law_names", "_law_name"]) (sc := defScope s_ops) (by decide +kernel)) (fun _ _ _ _ _ => pg_name (i := 3) sc_ops.nd rfl (Or.inl rfl)) (fun _ _ _ _ _ => pts_nil) (fun _ _ _ _ _ => pe_tupG (pa_cons (pv 3) (pa_cons (pe_call GO (hr.mono (by decide)) (by rfl) g_one k_one b_one .nil pass0 (pa_cons (pv 0) (pa_cons (pe_lstG (pa_cons pe_int (pa_cons pe_int (pa_cons pe_int (pa_cons pe_int (pa_cons pe_int (pa_cons pe_int (pa_cons pe_int (pa_cons pe_int pa_nil))))))))) pa_nil))) pa_nil)))) pa_nil))))), ?_⟩
    have nl : ∀ n : Nat, n ≤ 8 → n ≤ sizeLine := fun n h => by rw [sizeLine_eq]; omega
    refine ⟨_, rfl, nl _ (by decide), fun p1 H1 n1 s1 e1 => ?_⟩
    refine ⟨a, p1, _, x, y, z, rfl, s1 _ _ ha, .inl e1, by show 8 ≤ 1000; decide, ?_, fun p2 ys x' y' z' H2 n2 perm bt e2 e3 => ?_⟩
    · intro v hv
      have hv : v ∈ names8.map V.str := hv
      obtain ⟨t, ht, rfl⟩ := List.mem_map.mp hv
      exact .inl ⟨t, rfl, names8_str t ht⟩
    · obtain ⟨zs, pz, rfl⟩ := perm_strs (ns := names8) perm
      have zl : zs.length = 8 := pz.length_eq
      refine ⟨_, rfl, _, rfl, p2, _, rfl, SqL.of e3, fun p3 H3 n3 s3 e4 => ?_⟩
      have ec : cutV (zs.map V.str) none (some (m : Int)) = (zs.take m).map V.str := by
        unfold cutV
        rw [HT.sIx_none, HT.sIx_nat, List.length_map, List.drop_zero, List.map_take, Nat.sub_zero, Nat.min_eq_left (by omega)]
      rw [ec] at e4
      have p2a : p3 ≠ a := fun z => by
        rw [z, e2] at n3
        cases n3
      refine ⟨_, rfl, p3, rfl, ⟨_, SqL.of e4⟩, fun D nD => ?_⟩
      have nDa : D ≠ a := fun z => by
        rw [z, s3 _ _ e2] at nD
        cases nD
      have e2' := s3 _ _ e2
      refine lc_it (walk_list (xs := (zs.take m).map V.str)) (fun j Hx => PairI H3 a D (zs.take m) j Hx) ⟨fun b o _ e => ?_, ⟨x', y', z', ?_⟩, [], [], upd_same, rfl, fun _ h => (nomatch h), .nil, rfl⟩ (fun j Hx _ z => SqL.of (z.but _ _ p2a e4)) (fun j x Ha Hb hj z1 z2 => ?_) (fun Hx z => ?_)
      · rw [upd_ne (ne_of_none e nD)]
        exact e
      · rw [upd_ne (Ne.symm nDa)]
        exact e2'
      · obtain ⟨rfl, hx⟩ := z2
        obtain ⟨but, ⟨x1, y1, z1', src⟩, ps, o, q1, q2, q3, q4, q5⟩ := z1
        rw [List.length_map] at hj
        have et : (zs.take m)[j]? = some (zs.take m)[j] := List.getElem?_eq_getElem hj
        generalize (zs.take m)[j] = t at et
        rw [List.getElem?_map, et] at hx
        have hx2 : V.str t = x := Option.some.inj hx
        subst hx2
        refine ⟨rfl, _, rfl, _, rfl, nl _ (by decide), fun p4 H4 n4 s4 e5 => ?_⟩
        refine ⟨a, p4, _, x1, y1, z1', rfl, s4 _ _ src, e5, by show 0 < 8; decide, by show 8 ≤ 1000; decide, ne_of_none src n4, fun v x5 y5 z5 H5 mv bt5 e6 => ?_⟩
        have mv : v ∈ ([0, 1, 1, 2, 2, 2, 3, 2] : List Int).map V.int := mv
        obtain ⟨n, hn, rfl⟩ := List.mem_map.mp mv
        have tl : (zs.take m).length ≤ 8 := by rw [List.length_take]; omega
        refine ⟨nl _ (by show 2 ≤ 8; decide), fun T H6 n6 s6 e7 => ⟨_, s6 _ _ (bt5 _ _ nDa (s4 _ _ q1)), by rw [List.length_map, q5, sizeLine_eq]; omega, ?_⟩⟩
        have hD6 := s6 _ _ (bt5 _ _ nDa (s4 _ _ q1))
        refine ⟨fun b o nb e => ?_, ⟨x5, y5, z5, ?_⟩, ps ++ [T], o ++ [(t, n)], ?_, ?_, fun q hq => ?_, ?_, by rw [List.length_append, q5]; rfl⟩
        · rw [upd_ne (ne_of_none e nD)]
          exact s6 _ _ (bt5 _ _ nb (s4 _ _ (but _ _ nb e)))
        · rw [upd_ne (Ne.symm nDa)]
          exact s6 _ _ e6
        · rw [upd_same, List.map_append]
          rfl
        · rw [List.map_append, q2, List.take_succ, et]
          rfl
        · rcases List.mem_append.mp hq with h | h
          · exact q3 q h
          · rw [List.mem_singleton.mp h]
            exact low8 n hn
        · have up : ∀ {p : Addr} {us : List V}, H6 p = some (.tup us) → upd H6 D (.lst (ps.map V.ref ++ [.ref T])) p = some (.tup us) := fun {p us} e => by
            rw [upd_ne (fun z => by rw [z, hD6] at e; cases e)]
            exact e
          have e8 : opsK (o ++ [(t, n)]) = opsK o ++ [(Sum.inr t, V.int n)] := by
            unfold opsK
            rw [List.map_append]
            rfl
          rw [e8]
          refine paired_snoc (R := fun (p : Addr) (kv : Key × V) => upd H6 D (.lst (ps.map V.ref ++ [.ref T])) p = some (.tup [kV kv.1, kv.2])) (x := T) (y := ((Sum.inr t, V.int n) : Key × V)) (up e7) (paired_imp (fun p kv e => up (s6 _ _ (bt5 _ _ (fun z => ?_) (s4 _ _ e)))) q4)
          rw [z, src] at e
          cases e
      · obtain ⟨but, ⟨x1, y1, z1', src⟩, ps, o, q1, q2, q3, q4, q5⟩ := z
        rw [List.length_map, List.take_length] at q2
        have nd : (o.map (·.1)).Nodup := by
          rw [q2]
          exact (pz.nodup_iff.mpr names8_nd).sublist (List.take_sublist _ _)
        have hin : ∀ q ∈ o, q.1 ∈ names8 := fun q hq => by
          have : q.1 ∈ o.map (·.1) := List.mem_map_of_mem hq
          rw [q2] at this
          exact pz.mem_iff.mp (List.mem_of_mem_take this)
        have ol : o.length = m := by
          have := congrArg List.length q2
          rw [List.length_map, List.length_take] at this
          omega
        refine ⟨D, ps, opsK o, rfl, SqL.of q1, paired_imp (fun _ _ e => .inl (.inl e)) q4, fun p np => ?_⟩
        rw [merge_ops nd]
        have bt0 : But H Hx a := fun b o nb e => but _ _ nb (s3 _ _ (bt _ _ nb (s1 _ _ e)))
        have npH : H p = none := by
          cases e : H p with
          | none => rfl
          | some u =>
            by_cases z : p = a
            · rw [z, src] at np
              cases np
            · rw [bt0 _ _ z e] at np
              cases np
        refine k p o x1 y1 z1' _ npH ol (fun q hq => ⟨hin q hq, q3 q hq⟩) nd (fun b u nb e => ?_) ?_ upd_same
        · rw [upd_ne (ne_of_none e npH)]
          exact bt0 _ _ nb e
        · rw [upd_ne (fun z => by rw [← z, src] at np; cases np)]
          exact src
end
end Mine

set_option maxRecDepth 100000
set_option maxHeartbeats 4000000
/-! len(o), o[i], ==, != of an own class with its own __len__, __getitem__, __eq__ -/
namespace PySem
open PySem.W PySem.Calls PyProof.Rows Builtin
section
variable {prog : Program} {w : World} {A : Around} {E : Value → Shared → Prop} {s : Shared} {K : Frag} {x C L f : Addr} {h₀ : Heap} {m : Str → Option Value} {ox : Obj} {od : Option Obj} {b tb : Value}
theorem my_objNe (hu : A.units < cLine) (X : K.In s.heap) (I : InstAt s.heap x ox C od) (hs : findIn K (.ref C) "__eq__" = some (some (.ref f))) (hf : isFn K (.ref f) = true) {Q : Fin → Shared → Prop}
    (hcall : wpAny (model prog w) A (call (.ref f) [.ref x, b]) (fun v s' => ∃ r, v = .bool r ∧ Q (.done (.ret (.bool (!r)))) s') E s) : wpAny (model prog w) A (Builtin.«object.__ne__» ⟨[.ref x, b], []⟩) Q E s := by
  unfold Builtin.«object.__ne__»
  repeat (first
    | with_reducible refine wpAny_cRoomFor hu ?_
    | (refine wpAny_bind (m := callSpecialIfBound? (.ref x) (Str.ofString "__eq__") [b])
        (ifBound_K X I hs hf (wpAny_mono hcall (fun r s' hr => by
          obtain ⟨b, rfl, hq⟩ := hr
          repeat (first | exact hq | exact wpAny_pure hq | exact wpAny_truthy_bool hq | (refine wpAny_bind (m := truthy (.bool _)) (wpAny_truthy_bool ?_)) | wp_step)) fun _ _ e => e)))
    | wp_step)
theorem my_ifBoundB {M : Model} {name : Str} {id : String} {args : List Value} {Q : Option Value → Shared → Prop} (X : K.In s.heap) (I : InstAt s.heap x ox C od) (hs : findIn K (.ref C) name = some (some (.builtin id))) (S : Slot "object" name id)
    (h : wpAny M A (call (.builtin id) (.ref x :: args)) (fun v => Q (some v)) E s) : wpAny M A (callSpecialIfBound? (.ref x) name args) Q E s := by
  simp only [callSpecialIfBound?, bindSpecialIfBound?]
  refine wpAny_holding (wpAny_bind (wpAny_bind (wpAny_bind (I.type.here ((looks_findIn X hs).here ?_)))))
  simp only [S.bind]
  refine wpAny_bind (wpAny_askSetting (wpAny_ite ?_))
  have fin : wpAny M A (call (.builtin id) ([.ref x] ++ args) >>= fun v => pure (some v)) Q E s := wpAny_bind (wpAny_mono h (fun v s' h' => wpAny_pure h') fun _ _ h' => h')
  split
  · exact wpAny_bind (wpAny_pure (wpAny_pure fin))
  · exact wpAny_tryCatch (wpAny_bind (wpAny_pure (wpAny_pure fin)))
theorem my_ne {Q : Value → Shared → Prop} (hu : A.units + 1 < cLine) (F : Fr h₀ L s.heap m) (X₀ : K.In h₀) (I : InstAt s.heap x ox C od) (hb : Looks (model prog w) s.heap (typeOf b) tb) (hn : notFirst K C tb = true)
    (hne : findIn K (.ref C) "__ne__" = some (some (.builtin "object.__ne__"))) (hob : subIn K (.ref C) (.type "object") = some true) (hs : findIn K (.ref C) "__eq__" = some (some (.ref f))) (hf : isFn K (.ref f) = true)
    (h : wpAny (model prog w) A.in1 (call (.ref f) [.ref x, b]) (fun v s' => ∃ r, v = .bool r ∧ Q (.bool (!r)) s') E s) : wpAny (model prog w) A (richCompare .NotEq (.ref x) b) Q E s := by
  have X := X₀.keeps F.keep
  have one : wpAny (model prog w) A (tryCompare (.ref x) "__ne__" b) (fun r s' => ∃ v, r = some v ∧ Q v s') E s := by
    unfold tryCompare
    refine wpAny_bind (my_ifBoundB X I hne PySem.F.cmp_object.ne (wpAny_call (codeAny_call_builtin PySem.F.cmp_object.ne.plain PySem.F.cmpEntry_ne (check_slot PySem.F.cmpKind_ne PySem.F.cmpSplit_ne (I.type.andThen (looks_subIn X hob)) (PySem.F.cmpArgs_ne _ _) (my_objNe (A := A.in1) (by show A.units + 1 < cLine; exact hu) X I hs hf (wpAny_mono h (fun v s' hv => ?_) fun _ _ e => e))))))
    obtain ⟨b, rfl, hq⟩ := hv
    first | exact ⟨b, rfl, wpAny_pure ⟨_, rfl, hq⟩⟩ | exact ⟨b, rfl, wpAny_pure (wpAny_pure ⟨_, rfl, hq⟩)⟩ | exact ⟨b, rfl, _, rfl, hq⟩
  unfold richCompare
  simp only [oneThing_ref]
  refine wpAny_holding (wpAny_bind (wpAny_cRoomFor (Nat.lt_of_succ_lt hu) ?_))
  rw [cmpInfo_NotEq]
  dsimp only
  refine wpAny_bind (I.type.here (wpAny_bind (hb.here ?_)))
  split
  · rename_i q
    have e : subIn K tb (.ref C) = some false := by
      rcases Bool.or_eq_true_iff.mp hn with e | e
      · rw [beq_iff_eq.mp e] at q; simp at q
      · exact beq_iff_eq.mp e
    refine wpAny_bind ((looks_subIn X e).here ?_)
    simp only [Bool.false_eq_true, if_false]
    refine wpAny_bind (wpAny_mono one (fun r s' z => ?_) fun _ _ e => e)
    obtain ⟨v, rfl, hq⟩ := z
    exact wpAny_pure hq
  · refine wpAny_bind (wpAny_pure ?_)
    simp only [Bool.false_eq_true, if_false]
    refine wpAny_bind (wpAny_mono one (fun r s' z => ?_) fun _ _ e => e)
    obtain ⟨v, rfl, hq⟩ := z
    exact wpAny_pure hq
end
end PySem
namespace L2
open PySem PySem.Spec PyProof.Rows
section
variable {X : Cx} {CX : CXT} {k : Nat} {C f : Addr} {fd : FuncData} {ps : List Str} {sp : Sp} {E : XK}
theorem run_own1 {pins : List (Addr × Obj)} {σ : St} {H : Hp} {s : Shared} {Q : VK} {us : List Value} {vs : List V} (F : FnOk X.prog X.w X.K X.mg X.base CX k f fd ps sp) (hr : Room (k + 1) X.A) (hb : Binds X.K fd ps []) (hx : Passes CX X E)
    (I : Inv X pins σ H s) (r : Vals vs us) (h : sp vs H Q E) : wpAny (model X.prog X.w) X.A.in1 (call (.ref f) us) (EP X pins σ Q) X.xe s := by
  have hl : us.length = ps.length := by rw [← r.length]; exact F.len _ _ _ _ h
  have hb2 := hb s us I.kIn (by simpa using hl)
  rw [List.append_nil] at hb2
  refine wpAny_call (codeAny_mono (F.run X.A.in1 X.stack s H ⟨us, []⟩ us vs Q E hr.in1 I.env0.in1 hb2 r h) fun r s' hq => ?_)
  cases r with
  | error e => exact hx pins σ H s e s' I hq
  | ok fl =>
    cases fl with
    | ret u => exact I.after hq
    | next => exact False.elim hq
    | brk => exact False.elim hq
    | cont => exact False.elim hq
theorem call_lenO (F : FnOk X.prog X.w X.K X.mg X.base CX k f fd ps sp) (hr : Room (k + 1) X.A) (hb : Binds X.K fd ps []) (hx : Passes CX X E) (hs : PySem.W.findIn X.K (.ref C) "__len__" = some (some (.ref f))) (hf : PySem.W.isFn X.K (.ref f) = true) :
    CallR X (.builtin "len") (fun xs H Q => ∃ (a dx : Addr) (fs : List (Str × V)), xs = [.ref a] ∧ H a = some (.ins C dx fs) ∧ sp [.ref a] H (fun v H' => ∃ n : Int, v = .int n ∧ 0 ≤ n ∧ n < 2 ^ 63 ∧ Q (.int n) H') E) := by
  intro pins s σ H xs us Q I r h
  obtain ⟨a, dx, fs, rfl, ha, h⟩ := h
  obtain rfl := Vals.ref1 r
  obtain ⟨mA, J, _⟩ := ins_get I.hok ha
  obtain ⟨od, J, _⟩ := J.look
  obtain ⟨m, hF⟩ := I.fr
  refine PySem.W.len_K hF I.ok.mod.kin J hs hf (wpAny_mono (run_own1 F hr hb hx I (vs := [.ref a]) (.cons rfl .nil) h) (fun r s' z => ?_) fun _ _ y => y)
  obtain ⟨v, H', I', rv, n, rfl, h0, h1, q⟩ := z
  obtain ⟨t, rfl⟩ := rv
  exact ⟨⟨h0, h1⟩, .int n, H', I'.tok _, ⟨_, rfl⟩, q⟩
/-- o[i] -/
def tIxO (C : Addr) (sp : Sp) (E : XK) (ta tb : TE) : TE := fun σ H Q => ta σ H fun x H1 => tb σ H1 fun y H2 => ∃ (a dx : Addr) (fs : List (Str × V)), x = .ref a ∧ H2 a = some (.ins C dx fs) ∧ sp [.ref a, y] H2 Q E
theorem pe_ixO {o i : Expr} {ta tb : TE} {pos : Pos} (F : FnOk X.prog X.w X.K X.mg X.base CX k f fd ps sp) (hr : Room (k + 1) X.A) (hb : Binds X.K fd ps []) (hx : Passes CX X E) (hs : PySem.W.findIn X.K (.ref C) "__getitem__" = some (some (.ref f))) (hf : PySem.W.fnIn X.K f = true) (hfn : PySem.W.isFn X.K (.ref f) = true)
    (ha : PE X o ta) (hi : PE X i tb) (hsl : ∀ ov iv, subscripted i true ov iv = runValue (.builtin "lifetime.subscript" ⟨[ov, iv], []⟩)) : PE X (.Subscript o i pos) (tIxO C sp E ta tb) := by
  refine ⟨fun pins s σ H Q I h => ?_⟩
  refine Subscript_ (thn (ha.run pins s σ H _ I h) fun v s1 ⟨x, H1, I1, r1, q1⟩ => thn (hi.run pins s1 σ H1 _ I1 q1) fun u s2 ⟨y, H2, I2, r2, q2⟩ => ?_)
  obtain ⟨a, dx, fs, rfl, e, q⟩ := q2
  obtain rfl : v = Value.ref a := r1
  obtain ⟨mA, J, _⟩ := ins_get I2.hok e
  obtain ⟨od, J, _⟩ := J.look
  obtain ⟨m, hF⟩ := I2.fr
  exact PySem.W.sub_K hF I2.ok.mod.kin J hs hf hfn (run_own1 F hr hb hx I2 (vs := [.ref a, y]) (.cons rfl (.cons r2 .nil)) q) (hsl _ _)
/-- a == b by a's own __eq__ -/
def rEqO (K : PySem.W.Frag) (C : Addr) (sp : Sp) (E : XK) : R2 := fun x y H Q => ∃ (a dx : Addr) (fs : List (Str × V)) (t : Value), x = .ref a ∧ H a = some (.ins C dx fs) ∧ TyX K H y t ∧ PySem.W.notFirst K C t = true ∧ sp [.ref a, y] H (fun v H' => ∃ b, v = .bl b ∧ Q (.bl b) H') E
theorem op_eqO (F : FnOk X.prog X.w X.K X.mg X.base CX k f fd ps sp) (hr : Room k X.A) (hb : Binds X.K fd ps []) (hx : Passes CX X E) (hs : PySem.W.findIn X.K (.ref C) "__eq__" = some (some (.ref f))) (hf : PySem.W.isFn X.K (.ref f) = true) : OpR X (compareOp .Eq) (rEqO X.K C sp E) := by
  intro pins s σ H x y v u Q I rx ry h
  obtain ⟨a, dx, fs, t, rfl, ha, ty, nf, h⟩ := h
  obtain rfl : v = Value.ref a := rx
  obtain ⟨P, kx, hp, _⟩ := kit_of I ry ty
  obtain ⟨mA, J, _⟩ := ins_get I.hok ha
  obtain ⟨od, J, _⟩ := J.look
  obtain ⟨m, hF⟩ := I.fr
  show wpAny (model X.prog X.w) X.A (richCompare .Eq (.ref a) u) _ _ _
  refine PySem.W.cmp_K (op := .Eq) hr.units0 hF I.ok.mod.kin J (kx.ty _ _ I.kIn hp) nf hs hf (wpAny_mono (run_fn F hr hb .nil hx I (us := [.ref a, u]) (vs := [.ref a, y]) (.cons rfl (.cons ry .nil)) h) (fun r s' z => ?_) fun _ _ e => e)
  obtain ⟨v, H', I', rv, b, rfl, q⟩ := z
  cases rv
  exact ⟨.bl b, H', I', rfl, q⟩
/-- a != b by a's own __eq__ -/
def rNeO (K : PySem.W.Frag) (C : Addr) (sp : Sp) (E : XK) : R2 := fun x y H Q => ∃ (a dx : Addr) (fs : List (Str × V)) (t : Value), x = .ref a ∧ H a = some (.ins C dx fs) ∧ TyX K H y t ∧ PySem.W.notFirst K C t = true ∧ sp [.ref a, y] H (fun v H' => ∃ b, v = .bl b ∧ Q (.bl (!b)) H') E
theorem op_neO (F : FnOk X.prog X.w X.K X.mg X.base CX k f fd ps sp) (hr : Room (k + 1) X.A) (hb : Binds X.K fd ps []) (hx : Passes CX X E) (hs : PySem.W.findIn X.K (.ref C) "__eq__" = some (some (.ref f))) (hf : PySem.W.isFn X.K (.ref f) = true)
    (hne : PySem.W.findIn X.K (.ref C) "__ne__" = some (some (.builtin "object.__ne__"))) (hob : PySem.W.subIn X.K (.ref C) (.type "object") = some true) (hu : X.A.units + 1 < cLine) : OpR X (compareOp .NotEq) (rNeO X.K C sp E) := by
  intro pins s σ H x y v u Q I rx ry h
  obtain ⟨a, dx, fs, t, rfl, ha, ty, nf, h⟩ := h
  obtain rfl : v = Value.ref a := rx
  obtain ⟨P, kx, hp, _⟩ := kit_of I ry ty
  obtain ⟨mA, J, _⟩ := ins_get I.hok ha
  obtain ⟨od, J, _⟩ := J.look
  obtain ⟨m, hF⟩ := I.fr
  show wpAny (model X.prog X.w) X.A (richCompare .NotEq (.ref a) u) _ _ _
  refine PySem.my_ne hu hF I.ok.mod.kin J (kx.ty _ _ I.kIn hp) nf hne hob hs hf (wpAny_mono (run_own1 F hr hb hx I (us := [.ref a, u]) (vs := [.ref a, y]) (.cons rfl (.cons ry .nil)) h) (fun r s' z => ?_) fun _ _ e => e)
  obtain ⟨v, H', I', rv, b, rfl, q⟩ := z
  cases rv
  exact ⟨b, rfl, .bl (!b), H', I', rfl, q⟩
end
section
variable {X : Cx} {CX : CXT} {k : Nat} {C f : Addr} {fd : FuncData} {ps : List Str} {sp : Sp} {E : St → XK}
theorem run_own1S {pins : List (Addr × Obj)} {σ : St} {H : Hp} {s : Shared} {Q : VK} {us : List Value} {vs : List V} (F : FnOk X.prog X.w X.K X.mg X.base CX k f fd ps sp) (hr : Room (k + 1) X.A) (hb : Binds X.K fd ps []) (hx : PassesAt CX X σ (E σ))
    (I : Inv X pins σ H s) (r : Vals vs us) (h : sp vs H Q (E σ)) : wpAny (model X.prog X.w) X.A.in1 (call (.ref f) us) (EP X pins σ Q) X.xe s := by
  have hl : us.length = ps.length := by rw [← r.length]; exact F.len _ _ _ _ h
  have hb2 := hb s us I.kIn (by simpa using hl)
  rw [List.append_nil] at hb2
  refine wpAny_call (codeAny_mono (F.run X.A.in1 X.stack s H ⟨us, []⟩ us vs Q (E σ) hr.in1 I.env0.in1 hb2 r h) fun r s' hq => ?_)
  cases r with
  | error e => exact hx pins H s e s' I hq
  | ok fl =>
    cases fl with
    | ret u => exact I.after hq
    | next => exact False.elim hq
    | brk => exact False.elim hq
    | cont => exact False.elim hq
/-- o[i], what it lets out told at the slots -/
def tIxOS (C : Addr) (sp : Sp) (E : St → XK) (ta tb : TE) : TE := fun σ H Q => ta σ H fun x H1 => tb σ H1 fun y H2 => ∃ (a dx : Addr) (fs : List (Str × V)), x = .ref a ∧ H2 a = some (.ins C dx fs) ∧ sp [.ref a, y] H2 Q (E σ)
theorem pe_ixOS {o i : Expr} {ta tb : TE} {pos : Pos} (F : FnOk X.prog X.w X.K X.mg X.base CX k f fd ps sp) (hr : Room (k + 1) X.A) (hb : Binds X.K fd ps []) (hx : ∀ σ, PassesAt CX X σ (E σ)) (hs : PySem.W.findIn X.K (.ref C) "__getitem__" = some (some (.ref f))) (hf : PySem.W.fnIn X.K f = true) (hfn : PySem.W.isFn X.K (.ref f) = true)
    (ha : PE X o ta) (hi : PE X i tb) (hsl : ∀ ov iv, subscripted i true ov iv = runValue (.builtin "lifetime.subscript" ⟨[ov, iv], []⟩)) : PE X (.Subscript o i pos) (tIxOS C sp E ta tb) := by
  refine ⟨fun pins s σ H Q I h => ?_⟩
  refine Subscript_ (thn (ha.run pins s σ H _ I h) fun v s1 ⟨x, H1, I1, r1, q1⟩ => thn (hi.run pins s1 σ H1 _ I1 q1) fun u s2 ⟨y, H2, I2, r2, q2⟩ => ?_)
  obtain ⟨a, dx, fs, rfl, e, q⟩ := q2
  obtain rfl : v = Value.ref a := r1
  obtain ⟨mA, J, _⟩ := ins_get I2.hok e
  obtain ⟨od, J, _⟩ := J.look
  obtain ⟨m, hF⟩ := I2.fr
  exact PySem.W.sub_K hF I2.ok.mod.kin J hs hf hfn (run_own1S F hr hb (hx σ) I2 (vs := [.ref a, y]) (.cons rfl (.cons r2 .nil)) q) (hsl _ _)
end
end L2

set_option maxRecDepth 100000
set_option maxHeartbeats 4000000
namespace Mine
open PySem L2
abbrev s_b_operations : Stmt := inClass (top 36) 1
abbrev s_b_rows : Stmt := inClass (top 36) 2
abbrev s_b_asked : Stmt := inClass (top 36) 4
abbrev s_b_words : Stmt := inClass (top 36) 5
abbrev s_b_start : Stmt := inClass (top 36) 3
abbrev s_b_hangs : Stmt := inClass (top 36) 6
abbrev s_b_len : Stmt := inClass (top 36) 8
abbrev s_b_getitem : Stmt := inClass (top 36) 9
def spB (CB CM : Addr) (c : Ops → List RowD → Nat → Hp → VK → Prop) : Sp := fun vs H Q _ => ∃ (bd : Addr) (o : Ops) (rs : List RowD) (b : Nat), vs = [.ref bd] ∧ BodyAt CB CM H bd o rs b ∧ c o rs b H Q
abbrev spBOps (CB CM : Addr) : Sp := spB CB CM fun o _ _ H Q => ∀ o', Ordered o o' → New H (.dK (opsK o')) Q
abbrev spBRows (CB CM : Addr) : Sp := spB CB CM fun _ rs _ H Q => ∀ xs, Rows H xs rs → New H (.lst xs) Q
abbrev spBAsked (CB CM : Addr) : Sp := spB CB CM fun _ rs b H Q => ∀ as, IsFirsts "ask" (restD rs b) as → New H (.lst (as.map V.str)) Q
abbrev spBWords (CB CM : Addr) : Sp := spB CB CM fun _ rs b H Q => ∀ as, IsFirsts "end" (restD rs b) as → New H (.lst (as.map V.str)) Q
abbrev spBStart (CB CM : Addr) : Sp := spB CB CM fun _ _ b H Q => Q (.int b) H
abbrev spBHangs (CB CM : Addr) : Sp := spB CB CM fun _ rs b H Q => Q (.bl (endlessD rs b)) H
abbrev spBLen (CB CM : Addr) : Sp := spB CB CM fun _ rs _ H Q => Q (.int rs.length) H
section
variable {P : Program} {w : World} {K : PySem.W.Frag} {mg : Str → Option Value} {base : Heap}
variable {fII fIW CB CM : Addr}
theorem sc_b_operations : FnScope ["self"] ["self"] (defScope s_b_operations) := ⟨rfl, rfl, rfl, by decide +kernel, rfl, by decide +kernel, by decide +kernel⟩
theorem ok_b_operations {f : Addr} {fd : FuncData} (F : Fun K "operations" "Body.operations" s_b_operations f fd) (T : TxtF K mg fII fIW) (TB : BodyC K CB) (TM : MachC K CM) : FnOk P w K mg base CX0 1 f fd ["self"] (spBOps CB CM) := by
  refine F.ok sc_b_operations (fun vs H Q E h => ?_) (fun cdv A outer s H vs Q E hr h => ?_)
  · obtain ⟨bd, o, rs, b, rfl, _⟩ := h
    rfl
  · obtain ⟨bd, o, rs, b, rfl, ⟨m, t, l, sa, aa, ea, o', xs, as, es, h⟩, k⟩ := h
    obtain ⟨dx, fb, h1, h2⟩ := h.hb
    obtain ⟨dm, fm, h3, mf⟩ := h.hm
    refine ⟨_, (pss_one (ps_ret (pe_callTy call_dictD (by rfl) T.b_dict (by decide +kernel) (pa_cons (pe_fld (pe_fld (pv 0) rfl) rfl) pa_nil)))), ?_⟩
    exact ⟨_, rfl, bd, CB, dx, fb, _, rfl, h1, TB.cl, TB.n_machine, h2, m, CM, dm, fm, _, rfl, h3, TM.cl, TM.n_counts, mf.counts, t, opsK o', rfl, .inl h.ht, fun p n => (k o' h.ord).at n⟩
theorem sc_b_rows : FnScope ["self"] ["self"] (defScope s_b_rows) := ⟨rfl, rfl, rfl, by decide +kernel, rfl, by decide +kernel, by decide +kernel⟩
theorem ok_b_rows {f : Addr} {fd : FuncData} (F : Fun K "rows" "Body.rows" s_b_rows f fd) (T : TxtF K mg fII fIW) (TB : BodyC K CB) (TM : MachC K CM) : FnOk P w K mg base CX0 1 f fd ["self"] (spBRows CB CM) := by
  refine F.ok sc_b_rows (fun vs H Q E h => ?_) (fun cdv A outer s H vs Q E hr h => ?_)
  · obtain ⟨bd, o, rs, b, rfl, _⟩ := h
    rfl
  · obtain ⟨bd, o, rs, b, rfl, ⟨m, t, l, sa, aa, ea, o', xs, as, es, h⟩, k⟩ := h
    obtain ⟨dx, fb, h1, h2⟩ := h.hb
    obtain ⟨dm, fm, h3, mf⟩ := h.hm
    refine ⟨_, (pss_one (ps_ret (pe_callTy call_listG (by rfl) T.b_list (by decide +kernel) (pa_cons (pe_fld (pe_fld (pv 0) rfl) rfl) pa_nil)))), ?_⟩
    exact ⟨_, rfl, bd, CB, dx, fb, _, rfl, h1, TB.cl, TB.n_machine, h2, m, CM, dm, fm, _, rfl, h3, TM.cl, TM.n_lines, mf.lines, l, xs, rfl, .inl h.hl, k xs h.rows⟩
theorem sc_b_asked : FnScope ["self"] ["self"] (defScope s_b_asked) := ⟨rfl, rfl, rfl, by decide +kernel, rfl, by decide +kernel, by decide +kernel⟩
theorem sc_b_words : FnScope ["self"] ["self"] (defScope s_b_words) := ⟨rfl, rfl, rfl, by decide +kernel, rfl, by decide +kernel, by decide +kernel⟩
theorem sc_b_start : FnScope ["self"] ["self"] (defScope s_b_start) := ⟨rfl, rfl, rfl, by decide +kernel, rfl, by decide +kernel, by decide +kernel⟩
theorem ok_b_start {f : Addr} {fd : FuncData} (F : Fun K "start" "Body.start" s_b_start f fd) (T : TxtF K mg fII fIW) (TB : BodyC K CB) (TM : MachC K CM) : FnOk P w K mg base CX0 1 f fd ["self"] (spBStart CB CM) := by
  refine F.ok sc_b_start (fun vs H Q E h => ?_) (fun cdv A outer s H vs Q E hr h => ?_)
  · obtain ⟨bd, o, rs, b, rfl, _⟩ := h
    rfl
  · obtain ⟨bd, o, rs, b, rfl, ⟨m, t, l, sa, aa, ea, o', xs, as, es, h⟩, k⟩ := h
    obtain ⟨dx, fb, h1, h2⟩ := h.hb
    obtain ⟨dm, fm, h3, mf⟩ := h.hm
    refine ⟨_, (pss_one (ps_ret (pe_fld (pe_fld (pv 0) rfl) rfl))), ?_⟩
    exact ⟨_, rfl, bd, CB, dx, fb, _, rfl, h1, TB.cl, TB.n_machine, h2, m, CM, dm, fm, _, rfl, h3, TM.cl, TM.n_begin, mf.begin, k⟩
theorem sc_b_hangs : FnScope ["self"] ["self"] (defScope s_b_hangs) := ⟨rfl, rfl, rfl, by decide +kernel, rfl, by decide +kernel, by decide +kernel⟩
theorem ok_b_hangs {f : Addr} {fd : FuncData} (F : Fun K "hangs" "Body.hangs" s_b_hangs f fd) (T : TxtF K mg fII fIW) (TB : BodyC K CB) (TM : MachC K CM) : FnOk P w K mg base CX0 1 f fd ["self"] (spBHangs CB CM) := by
  refine F.ok sc_b_hangs (fun vs H Q E h => ?_) (fun cdv A outer s H vs Q E hr h => ?_)
  · obtain ⟨bd, o, rs, b, rfl, _⟩ := h
    rfl
  · obtain ⟨bd, o, rs, b, rfl, ⟨m, t, l, sa, aa, ea, o', xs, as, es, h⟩, k⟩ := h
    obtain ⟨dx, fb, h1, h2⟩ := h.hb
    obtain ⟨dm, fm, h3, mf⟩ := h.hm
    refine ⟨_, (pss_one (ps_ret (pe_fld (pe_fld (pv 0) rfl) rfl))), ?_⟩
    exact ⟨_, rfl, bd, CB, dx, fb, _, rfl, h1, TB.cl, TB.n_machine, h2, m, CM, dm, fm, _, rfl, h3, TM.cl, TM.n_endless, mf.endless, k⟩
theorem sc_b_len : FnScope ["self"] ["self"] (defScope s_b_len) := ⟨rfl, rfl, rfl, by decide +kernel, rfl, by decide +kernel, by decide +kernel⟩
theorem ok_b_len {f : Addr} {fd : FuncData} (F : Fun K "__len__" "Body.__len__" s_b_len f fd) (T : TxtF K mg fII fIW) (TB : BodyC K CB) (TM : MachC K CM) : FnOk P w K mg base CX0 1 f fd ["self"] (spBLen CB CM) := by
  refine F.ok sc_b_len (fun vs H Q E h => ?_) (fun cdv A outer s H vs Q E hr h => ?_)
  · obtain ⟨bd, o, rs, b, rfl, _⟩ := h
    rfl
  · obtain ⟨bd, o, rs, b, rfl, ⟨m, t, l, sa, aa, ea, o', xs, as, es, h⟩, k⟩ := h
    obtain ⟨dx, fb, h1, h2⟩ := h.hb
    obtain ⟨dm, fm, h3, mf⟩ := h.hm
    refine ⟨_, (pss_one (ps_ret (pe_callB call_len_seq (by rfl) T.b_len PySem.boot_len (pa_cons (pe_fld (pe_fld (pv 0) rfl) rfl) pa_nil)))), ?_⟩
    exact ⟨_, rfl, bd, CB, dx, fb, _, rfl, h1, TB.cl, TB.n_machine, h2, m, CM, dm, fm, _, rfl, h3, TM.cl, TM.n_lines, mf.lines, l, xs, rfl, .inl (SqL.of h.hl), by rw [h.rows.1]; exact k⟩
end
end Mine

set_option maxRecDepth 100000
set_option maxHeartbeats 4000000
namespace Mine
open PySem L2
/-! rows as data -/
def rowP : RowD → PyData
  | .ask op ns => .tuple [.str "ask", .str op, .tuple (ns.map PyData.int)]
  | .go n => .tuple [.str "go", .int n]
  | .fin w => .tuple [.str "end", .str w]
def rowStr : RowD → Str
  | .ask op _ => op
  | .go _ => "go"
  | .fin w => w
theorem ints_all {K : PySem.W.Frag} {H : Hp} : ∀ ns : List Int, DpAll K H (ns.map V.int) (ns.map PyData.int)
  | [] => .nil
  | n :: ns => .cons (.int n) (ints_all ns)
theorem TRow.dp {K : PySem.W.Frag} {H : Hp} {v : V} {d : RowD} (h : TRow H v d) : Dp K H v (rowP d) := by
  cases d with
  | ask op ns =>
    obtain ⟨a, t, rfl, h1, h2⟩ := h
    exact .tup (.inl (.inl h1)) (.cons (.str _) (.cons (.str _) (.cons (.tup (.inl (.inl h2)) (ints_all ns)) .nil)))
  | go n =>
    obtain ⟨a, rfl, h1⟩ := h
    exact .tup (.inl (.inl h1)) (.cons (.str _) (.cons (.int _) .nil))
  | fin w =>
    obtain ⟨a, rfl, h1⟩ := h
    exact .tup (.inl (.inl h1)) (.cons (.str _) (.cons (.str _) .nil))
theorem dpAll_of {K : PySem.W.Frag} {H : Hp} : ∀ {xs : List V} {rs : List RowD}, xs.length = rs.length → (∀ (i : Nat) (d : RowD), rs[i]? = some d → ∃ x, xs[i]? = some x ∧ TRow H x d) → DpAll K H xs (rs.map rowP)
  | [], [], _, _ => .nil
  | x :: xs, d :: rs, l, h => by
    obtain ⟨y, h1, h2⟩ := h 0 d rfl
    have e : x = y := Option.some.inj h1
    subst e
    exact .cons h2.dp (dpAll_of (by simpa using l) fun i d' e => by simpa using h (i + 1) d' (by simpa using e))
  | [], _ :: _, l, _ => by simp at l
  | _ :: _, [], l, _ => by simp at l
theorem Rows.dp {K : PySem.W.Frag} {H : Hp} {xs : List V} {rs : List RowD} {l : Addr} (h : Rows H xs rs) (e : H l = some (.lst xs)) : Dp K H (.ref l) (.list (rs.map rowP)) := .lst (SqL.of e) (dpAll_of h.1 h.2)
theorem ints_lay : ∀ ns : List Int, PyData.canLayAll0 (ns.map PyData.int) = true
  | [] => by simp [PyData.canLayAll0]
  | n :: ns => by simp [PyData.canLayAll0, PyData.canLay0, ints_lay ns]
theorem ints_dep : ∀ ns : List Int, PyData.depthAll (ns.map PyData.int) = 0
  | [] => by simp [PyData.depthAll]
  | n :: ns => by simp [PyData.depthAll, PyData.depth, ints_dep ns]
theorem row_lay {d : RowD} (h : PyData.strOk (rowStr d) = true) : (rowP d).canLay0 = true := by
  have a1 : PyData.strOk ("ask" : Str) = true := strOk_of "ask"
  have a2 : PyData.strOk ("go" : Str) = true := strOk_of "go"
  have a3 : PyData.strOk ("end" : Str) = true := strOk_of "end"
  cases d with
  | ask op ns =>
    have h' : PyData.strOk op = true := h
    simp [rowP, PyData.canLay0, PyData.canLayAll0, a1, h', ints_lay ns]
  | go n => simp [rowP, PyData.canLay0, PyData.canLayAll0, a2]
  | fin w =>
    have h' : PyData.strOk w = true := h
    simp [rowP, PyData.canLay0, PyData.canLayAll0, a3, h']
theorem row_dep (d : RowD) : (rowP d).depth ≤ 2 := by
  cases d with
  | ask op ns =>
    have := ints_dep ns
    simp [rowP, PyData.depth, PyData.depthAll, this]
  | go n => simp [rowP, PyData.depth, PyData.depthAll]
  | fin w => simp [rowP, PyData.depth, PyData.depthAll]
def StrsOk (rs : List RowD) : Prop := ∀ d ∈ rs, PyData.strOk (rowStr d) = true
theorem rows_lay : ∀ {rs : List RowD}, StrsOk rs → PyData.canLayAll0 (rs.map rowP) = true
  | [], _ => by simp [PyData.canLayAll0]
  | d :: rs, h => by
    have h1 := row_lay (h d List.mem_cons_self)
    have h2 := rows_lay (rs := rs) fun x hx => h x (List.mem_cons_of_mem _ hx)
    simp [PyData.canLayAll0, h1, h2]
theorem rows_dep : ∀ rs : List RowD, PyData.depthAll (rs.map rowP) ≤ 2
  | [] => by simp [PyData.depthAll]
  | d :: rs => by
    have h1 := row_dep d
    have h2 := rows_dep rs
    simp only [List.map_cons, PyData.depthAll]
    omega
theorem rows_shaped {rs : List RowD} (h : StrsOk rs) : SeqAt.shaped (.list (rs.map rowP)) = true := by
  have h1 := rows_dep rs
  have h2 : PyData.depth (.list (rs.map rowP)) ≤ 64 := by
    simp only [PyData.depth]
    omega
  show (PyData.canLay0 (.list (rs.map rowP)) && decide (PyData.depth (.list (rs.map rowP)) ≤ 64)) = true
  rw [Bool.and_eq_true]
  exact ⟨by simp only [PyData.canLay0]; exact rows_lay h, decide_eq_true h2⟩
theorem ints_eqv : ∀ ns ms : List Int, (PyData.eqvAll (ns.map PyData.int) (ms.map PyData.int) = true) ↔ ns = ms
  | [], [] => by simp [PyData.eqvAll]
  | [], _ :: _ => by simp [PyData.eqvAll]
  | _ :: _, [] => by simp [PyData.eqvAll]
  | n :: ns, m :: ms => by
    have ih := ints_eqv ns ms
    simp [PyData.eqvAll, PyData.eqv, ih]
theorem row_eqv (d e : RowD) : (PyData.eqv (rowP d) (rowP e) = true) ↔ d = e := by
  have n1 : (("ask" : Str) == ("go" : Str)) = false := by decide +kernel
  have n2 : (("ask" : Str) == ("end" : Str)) = false := by decide +kernel
  have n3 : (("go" : Str) == ("ask" : Str)) = false := by decide +kernel
  have n4 : (("go" : Str) == ("end" : Str)) = false := by decide +kernel
  have n5 : (("end" : Str) == ("ask" : Str)) = false := by decide +kernel
  have n6 : (("end" : Str) == ("go" : Str)) = false := by decide +kernel
  cases d with
  | ask op ns => cases e with
    | ask op2 ms =>
      have := ints_eqv ns ms
      simp [rowP, PyData.eqv, PyData.eqvAll, this]
    | go n => simp [rowP, PyData.eqv, PyData.eqvAll, n1]
    | fin w => simp [rowP, PyData.eqv, PyData.eqvAll, n2]
  | go n => cases e with
    | ask op2 ms => simp [rowP, PyData.eqv, PyData.eqvAll, n3]
    | go m => simp [rowP, PyData.eqv, PyData.eqvAll]
    | fin w => simp [rowP, PyData.eqv, PyData.eqvAll, n4]
  | fin w => cases e with
    | ask op2 ms => simp [rowP, PyData.eqv, PyData.eqvAll, n5]
    | go m => simp [rowP, PyData.eqv, PyData.eqvAll, n6]
    | fin w2 => simp [rowP, PyData.eqv, PyData.eqvAll]
theorem rows_eqv : ∀ rs qs : List RowD, (PyData.eqv (.list (rs.map rowP)) (.list (qs.map rowP)) = true) ↔ rs = qs
  | [], [] => by simp [PyData.eqv, PyData.eqvAll]
  | [], _ :: _ => by simp [PyData.eqv, PyData.eqvAll]
  | _ :: _, [] => by simp [PyData.eqv, PyData.eqvAll]
  | d :: rs, e :: qs => by
    have ih := rows_eqv rs qs
    have h := row_eqv d e
    simp only [PyData.eqv] at ih
    simp only [List.map_cons, PyData.eqv, PyData.eqvAll, Bool.and_eq_true, List.cons.injEq]
    rw [h, ih]
end Mine

set_option maxRecDepth 100000
set_option maxHeartbeats 4000000
namespace Mine
open PySem L2
abbrev s_rows : Stmt := top 60
def words4 : List Str := ["good", "bad", "done", "x"]
def RowFine (dd : RowD) : Prop := PyData.strOk (rowStr dd) = true ∧ ∀ x, dd = .fin x → x ∈ words4
def spDrawRows : Sp := fun vs H Q _ => ∃ (a d : Addr) (o : Ops) (n : Nat) (x y z : Int), vs = [.ref a, .ref d, .int (n : Int)] ∧ H a = some (.lst [.int x, .int y, .int z]) ∧ H d = some (.dK (opsK o)) ∧ (o.map (·.1)).Nodup ∧ o.length < 64 ∧ (∀ q ∈ o, q.1 ∈ names8 ∧ 0 ≤ q.2 ∧ q.2 ≤ 3) ∧ 1 ≤ n ∧ n ≤ 400 ∧
  ∀ (p : Addr) (xs : List V) (rs : List RowD) (x' y' z' : Int) (H' : Hp), H p = none → rs.length = n → OkRows o rs → (∀ dd ∈ rs, RowFine dd) → But H H' a → H' a = some (.lst [.int x', .int y', .int z']) → H' p = some (.lst xs) → Rows H' xs rs → Q (.ref p) H'
structure FixR (H : Hp) (a p p3 : Addr) : Prop where
  ha : ∃ x y z : Int, H a = some (.lst [.int x, .int y, .int z])
  np : H p = none
  np3 : H p3 = none
  ne : p ≠ p3
theorem FixR.pa {H : Hp} {a p p3 : Addr} (f : FixR H a p p3) : p ≠ a := fun z => by
  obtain ⟨_, _, _, e⟩ := f.ha
  have := f.np
  rw [z, e] at this
  cases this
theorem FixR.p3a {H : Hp} {a p p3 : Addr} (f : FixR H a p p3) : p3 ≠ a := fun z => by
  obtain ⟨_, _, _, e⟩ := f.ha
  have := f.np3
  rw [z, e] at this
  cases this
structure RowsI (H : Hp) (a p p3 : Addr) (ys : List Str) (o : Ops) (n j : Nat) (H' : Hp) : Prop where
  but : But H H' a
  src : SrcAt H' a
  nm : H' p3 = some (.lst (ys.map V.str))
  made : ∃ xs rs, H' p = some (.lst xs) ∧ rs.length = j ∧ Rows H' xs rs ∧ ∀ dd ∈ rs, OkRow o n dd ∧ RowFine dd
theorem RowsI.go {H H' H'' : Hp} {a p p3 : Addr} {ys : List Str} {o : Ops} {n j : Nat} (r : RowsI H a p p3 ys o n j H') (s : Same H' H'') : RowsI H a p p3 ys o n j H'' := by
  obtain ⟨b, ⟨x, y, z, e⟩, c, xs, rs, d1, d2, d3, d4⟩ := r
  exact ⟨fun q u nq e => s _ _ (b q u nq e), ⟨x, y, z, s _ _ e⟩, s _ _ c, xs, rs, s _ _ d1, d2, d3.same s, d4⟩
theorem RowsI.draw {H H' H'' : Hp} {a p p3 : Addr} {ys : List Str} {o : Ops} {n j : Nat} (f : FixR H a p p3) (r : RowsI H a p p3 ys o n j H') (s : But H' H'' a) (e2 : SrcAt H'' a) : RowsI H a p p3 ys o n j H'' := by
  obtain ⟨b, ⟨x, y, z, e⟩, c, xs, rs, d1, d2, d3, d4⟩ := r
  refine ⟨b.trans s, e2, s _ _ f.p3a c, xs, rs, s _ _ f.pa d1, d2, ⟨d3.1, fun i dd ed => ?_⟩, d4⟩
  obtain ⟨v, h1, h2⟩ := d3.2 i dd ed
  have up : ∀ {q : Addr} {us : List V}, H' q = some (.tup us) → H'' q = some (.tup us) := fun {q us} eq => s _ _ (fun z => by rw [z, e] at eq; cases eq) eq
  refine ⟨v, h1, ?_⟩
  cases dd with
  | ask op ns =>
    obtain ⟨q, t, e1, k1, k2⟩ := h2
    exact ⟨q, t, e1, up k1, up k2⟩
  | go m =>
    obtain ⟨q, e1, k1⟩ := h2
    exact ⟨q, e1, up k1⟩
  | fin m =>
    obtain ⟨q, e1, k1⟩ := h2
    exact ⟨q, e1, up k1⟩
theorem RowsI.put {H H' : Hp} {a p p3 : Addr} {ys : List Str} {o : Ops} {n j : Nat} (f : FixR H a p p3) (r : RowsI H a p p3 ys o n j H') : ∃ xs, H' p = some (.lst xs) ∧ xs.length = j ∧ ∀ (T : Addr) (dd : RowD), TRow H' (.ref T) dd → OkRow o n dd → RowFine dd → RowsI H a p p3 ys o n (j + 1) (upd H' p (.lst (xs ++ [.ref T]))) := by
  obtain ⟨b, ⟨x, y, z, e⟩, c, xs, rs, d1, d2, d3, d4⟩ := r
  refine ⟨xs, d1, by rw [d3.1, d2], fun T dd t1 t2 t3 => ⟨fun q u nq eq => ?_, ⟨x, y, z, ?_⟩, ?_, xs ++ [.ref T], rs ++ [dd], upd_same, by rw [List.length_append, d2]; rfl, ⟨by rw [List.length_append, List.length_append, d3.1]; rfl, fun i di ei => ?_⟩, fun q hq => ?_⟩⟩
  · rw [upd_ne (ne_of_none eq f.np)]
    exact b q u nq eq
  · rw [upd_ne (Ne.symm f.pa)]
    exact e
  · rw [upd_ne (Ne.symm f.ne)]
    exact c
  · by_cases hi : i < rs.length
    · rw [List.getElem?_append_left hi] at ei
      obtain ⟨v, h1, h2⟩ := d3.2 i di ei
      exact ⟨v, by rw [List.getElem?_append_left (by rw [d3.1]; exact hi)]; exact h1, h2.other d1⟩
    · rw [List.getElem?_append_right (by omega)] at ei
      have hz : i - rs.length = 0 := by
        have := (List.getElem?_eq_some_iff.mp ei).1
        rw [List.length_singleton] at this
        omega
      rw [hz] at ei
      cases ei
      exact ⟨.ref T, by rw [List.getElem?_append_right (by rw [d3.1]; omega), d3.1, hz]; rfl, t1.other d1⟩
  · rcases List.mem_append.mp hq with h | h
    · exact d4 q h
    · rw [List.mem_singleton.mp h]
      exact ⟨t2, t3⟩
theorem words4_raw : ∀ t ∈ words4, isNm t = true ∧ t.length ≤ 8 ∧ PyData.strOk t = true ∧ t ≠ "zz" := by decide +kernel
theorem words4_ok (t : Str) (h : t ∈ words4) : isNm t = true ∧ t.length ≤ 8 ∧ RowFine (.fin t) := by
  obtain ⟨a, b, c, d⟩ := words4_raw t h
  exact ⟨a, b, c, fun x z => RowD.fin.inj z ▸ h⟩
theorem go_ok : PyData.strOk ("go" : Str) = true := by decide +kernel
def tElse : TS := fun D σ H' => ∃ (H : Hp) (a p p3 : Addr) (ys : List Str) (o : Ops) (n j : Nat) (way : Int) (v1 v5 v7 v8 : Option V), σ = [some (.ref a), v1, some (.int (n : Int)), some (.ref p), some (.ref p3), v5, some (.int way), v7, v8] ∧ FixR H a p p3 ∧ RowsI H a p p3 ys o n j H' ∧ 1 ≤ n ∧ n ≤ 400 ∧ j ≤ 400 ∧
  ∀ H'', RowsI H a p p3 ys o n (j + 1) H'' → D.nx σ H''
section
variable {P : Program} {w : World} {K : PySem.W.Frag} {mg : Str → Option Value} {base : Heap}
variable {fII fIW fN fO : Addr}
theorem sc_rows : FnScope ["_law_source", "_law_operations_here", "_law_many", "_law_rows_here", "_law_names", "_law_k", "_law_way", "_law_name", "_law_j"] ["_law_source", "_law_operations_here", "_law_many"] (defScope s_rows) := ⟨rfl, rfl, rfl, by decide +kernel, rfl, by decide +kernel, by decide +kernel⟩
theorem ok_draw_rows {f : Addr} {fd fdN fdO : FuncData} (F : Fun K "_law_rows" "_law_rows" s_rows f fd) (T : TxtF K mg fII fIW) (h_range : mg "range" = none) (h_sorted : mg "sorted" = none)
    (GN : FnOk P w K mg base CX0 1 fN fdN ["_law_source", "_law_many"] spNext) (b_next : Binds K fdN ["_law_source", "_law_many"] []) (g_next : mg "_law_next" = some (.ref fN)) (k_next : PySem.W.keepIn K (.ref fN) = true)
    (GO : FnOk P w K mg base CX0 2 fO fdO ["_law_source", "_law_some"] spOne) (b_one : Binds K fdO ["_law_source", "_law_some"] []) (g_one : mg "_law_one" = some (.ref fO)) (k_one : PySem.W.keepIn K (.ref fO) = true) : FnOk P w K mg base CX0 3 f fd ["_law_source", "_law_operations_here", "_law_many"] spDrawRows := by
  refine F.ok sc_rows (fun vs H Q E h => ?_) (fun cdv A outer s H vs Q E hr h => ?_)
  · obtain ⟨a, d, o, n, x, y, z, rfl, _⟩ := h
    rfl
  · obtain ⟨a, d, o, n, x, y, z, rfl, ha, hd, nd, few, okn, n1, n2, k⟩ := h
    refine ⟨_, (pss_cons (ps_par (i := 3) (j := 4) rfl sc_rows.nd rfl rfl (by decide) rfl rfl (pa_cons (pe_lstG pa_nil) (pa_cons (pe_callB cr_sortedS (by rfl) h_sorted (by decide +kernel) (pa_cons (pe_callTy (call_listD rfl) (by rfl) T.b_list (by decide +kernel) (pa_cons (pv 1) pa_nil)) pa_nil)) pa_nil)) rfl)
      (pss_cons (ps_for PassesOwn.never rfl (pi_range1 (by rfl) h_range (pa_cons (pv 2) pa_nil)) (pg_name (i := 5) sc_rows.nd rfl (Or.inl rfl))
        (pss_cons (ps_set (i := 6) sc_rows.nd rfl (Or.inl rfl) (pe_call GN (hr.mono (by decide)) (by rfl) g_next k_next b_next .nil pass0 (pa_cons (pv 0) (pa_cons pe_int pa_nil))))
        (pss_one (ps_if (PW.pt (pw_and (pt_cmpR op_lt (pv 6) pe_int (nomark _)) (pw_and1 (pt_cmpR (op_neD hr.units) (pv 4) (pe_lstG pa_nil) (nomark _)))))
          (pss_cons (ps_set (i := 7) sc_rows.nd rfl (Or.inl rfl) (pe_call GO (hr.mono (by decide)) (by rfl) g_one k_one b_one .nil pass0 (pa_cons (pv 0) (pa_cons (pv 4) pa_nil)))) (pss_one (ps_expr (pe_bm PySem.F.plainAttrs_list PySem.F.slot_list_append PySem.F.type_list_append mt_append (pv 3) (pa_cons (pe_tupG (pa_cons pe_str (pa_cons (pv 7) (pa_cons (pe_callTy call_tupleG (by rfl) T.b_tuple (by decide +kernel) (pa_cons (pe_lc (own := [("_law_j", 8)]) (g := gName 8) (tt := tYes) rfl sc_rows.nd (pi_range1 (by rfl) h_range (pa_cons (pe_dget (hu_of hr) (pv 1) (pv 7) (fun _ _ => rfl)) pa_nil)) (blkOk_by (own := [("_law_j", 8)]) (N := ["_law_source", "_law_operations_here", "_law_many", "_law_rows_here", "_law_names", "_law_k", "_law_way", "_law_name", "_law_j"]) (sc := defScope s_rows) (by decide +kernel)) (fun _ _ _ _ _ => pg_name (i := 8) sc_rows.nd rfl (Or.inl rfl)) (fun _ _ _ _ _ => pts_nil) (fun _ _ _ _ _ => (pe_call GN (hr.mono (by decide)) (by rfl) g_next k_next b_next .nil pass0 (pa_cons (pv 0) (pa_cons (pv 2) pa_nil))))) pa_nil)) pa_nil)))) pa_nil)))))
          (pss_one (ps_imp (t' := tElse) (ps_if (pt_cmpR op_eq (pv 6) pe_int (nomark _)) (pss_one (ps_expr (pe_bm PySem.F.plainAttrs_list PySem.F.slot_list_append PySem.F.type_list_append mt_append (pv 3) (pa_cons (pe_tupG (pa_cons pe_str (pa_cons (pe_call GN (hr.mono (by decide)) (by rfl) g_next k_next b_next .nil pass0 (pa_cons (pv 0) (pa_cons (pv 2) pa_nil))) pa_nil))) pa_nil)))) (pss_one (ps_expr (pe_bm PySem.F.plainAttrs_list PySem.F.slot_list_append PySem.F.type_list_append mt_append (pv 3) (pa_cons (pe_tupG (pa_cons pe_str (pa_cons (pe_call GO (hr.mono (by decide)) (by rfl) g_one k_one b_one .nil pass0 (pa_cons (pv 0) (pa_cons (pe_lstG (pa_cons pe_str (pa_cons pe_str (pa_cons pe_str (pa_cons pe_str pa_nil))))) pa_nil))) pa_nil))) pa_nil))))) (fun D σ H' q => by
        obtain ⟨H, a, p, p3, ys, o, n, j, way, v1, v5, v7, v8, rfl, fx, ri, n1, n2, j2, kk⟩ := q
        have two : ∀ v u : V, [v, u].length ≤ sizeLine := fun v u => by rw [sizeLine_eq]; exact Nat.le_trans (show 2 ≤ 2 from Nat.le_refl 2) (by decide)
        obtain ⟨x, y, z, src⟩ := ri.src
        obtain ⟨xs0, q0, _, _⟩ := ri.put fx
        refine ⟨_, rfl, rfl, _, rfl, ?_⟩
        refine ite2 (fun _ => ?_) (fun _ => ?_)
        · refine ⟨_, rfl, .inl ⟨rfl, _, SqL.of q0⟩, _, rfl, _, rfl, a, (n : Int), x, y, z, rfl, by omega, ?_, src, fun k u1 u2 u3 H4 k0 k1 bt e4 => ?_⟩
          · rw [Int.natAbs_natCast]
            exact Nat.lt_of_le_of_lt n2 (by decide)
          · refine ⟨two _ _, fun T H5 nT s5 e5 => ?_⟩
            have r5 := (ri.draw fx bt ⟨u1, u2, u3, e4⟩).go s5
            obtain ⟨xs, q1, q2, q3⟩ := r5.put fx
            exact ⟨p, xs, .ref T, rfl, rfl, q1, by rw [q2, sizeLine_eq]; omega, kk _ (q3 T (.go k) ⟨T, rfl, e5⟩ ⟨k0, k1⟩ ⟨go_ok, fun _ z => nomatch z⟩)⟩
        · refine ⟨_, rfl, .inl ⟨rfl, _, SqL.of q0⟩, _, rfl, Nat.le_trans (show 4 ≤ 4 from Nat.le_refl 4) (by rw [sizeLine_eq]; decide), fun p4 H3 n3 s3 e3 => ?_⟩
          refine ⟨a, p4, _, x, y, z, rfl, s3 _ _ src, e3, by show 0 < 4; decide, by show 4 ≤ 1000; decide, ne_of_none src n3, fun v x1 y1 z1 H4 mv bt e4 => ?_⟩
          have mv : v ∈ words4.map V.str := mv
          obtain ⟨t, ht, rfl⟩ := List.mem_map.mp mv
          refine ⟨two _ _, fun T H5 nT s5 e5 => ?_⟩
          have r5 := ((ri.go s3).draw fx bt ⟨x1, y1, z1, e4⟩).go s5
          obtain ⟨xs, q1, q2, q3⟩ := r5.put fx
          obtain ⟨w1, w2, w3⟩ := words4_ok t ht
          exact ⟨p, xs, .ref T, rfl, rfl, q1, by rw [q2, sizeLine_eq]; omega, kk _ (q3 T (.fin t) ⟨T, rfl, e5⟩ ⟨w1, w2⟩ w3)⟩)))))))
      (pss_one (ps_ret (pv 3))))), ?_⟩
    refine ⟨Nat.zero_le _, fun p H1 np s1 e1 => ?_⟩
    refine ⟨_, rfl, d, _, rfl, .inl (s1 _ _ hd), fun p2 np2 => ?_⟩
    have keys : ((opsK o).map fun kv => kV kv.1) = (o.map (·.1)).map V.str := by
      unfold opsK
      rw [List.map_map, List.map_map]
      rfl
    refine ⟨p2, o.map (·.1), rfl, SqL.of (by rw [upd_same, keys]), by rw [List.length_map]; exact few, fun ys p3 perm srt np3 => ⟨_, _, rfl, ?_⟩⟩
    have s2 : Same H1 (upd H1 p2 (.lst ((opsK o).map fun kv => kV kv.1))) := sameNew np2 _
    have s13 : Same H1 (upd (upd H1 p2 (.lst ((opsK o).map fun kv => kV kv.1))) p3 (.lst (ys.map V.str))) := same_updN s2 (none_of s2 np3)
    have fx : FixR H a p p3 := ⟨⟨x, y, z, ha⟩, np, none_of s1 (none_of s2 np3), fun q => by
      have := s2 _ _ e1
      rw [q, np3] at this
      cases this⟩
    have ri0 : RowsI H a p p3 ys o n 0 (upd (upd H1 p2 (.lst ((opsK o).map fun kv => kV kv.1))) p3 (.lst (ys.map V.str))) :=
      ⟨fun q u _ e => s13 _ _ (s1 _ _ e), ⟨x, y, z, s13 _ _ (s1 _ _ ha)⟩, upd_same, [], [], s13 _ _ e1, rfl, ⟨rfl, fun i dd e => by simp at e⟩, fun dd h => (nomatch h)⟩
    have da : d ≠ a := fun q => by
      rw [q, ha] at hd
      cases hd
    have inN : ∀ t ∈ ys, ∃ c, opLook o t = some c ∧ 0 ≤ c ∧ c ≤ 3 ∧ t ∈ names8 := fun t ht => by
      obtain ⟨q, hq, rfl⟩ := List.mem_map.mp (perm.mem_iff.mp ht)
      obtain ⟨a1, a2, a3⟩ := okn q hq
      exact ⟨q.2, look_mem nd q hq, a2, a3, a1⟩
    have yl : ys.length < 64 := by
      have := perm.length_eq
      rw [List.length_map] at this
      omega
    refine ⟨_, rfl, (n : Int), rfl, by omega, by omega, for_range (n := n) (fun j σ H' => ∃ v5 v6 v7 v8 : Option V, σ = [some (.ref a), some (.ref d), some (.int (n : Int)), some (.ref p), some (.ref p3), v5, v6, v7, v8] ∧ RowsI H a p p3 ys o n j H') ⟨_, _, _, _, rfl, ri0⟩ (fun j σ H' hj z => ?_) (fun σ H' z => ?_)⟩
    · obtain ⟨v5, v6, v7, v8, rfl, ri⟩ := z
      obtain ⟨x1, y1, z1, src⟩ := ri.src
      refine ⟨_, rfl, a, 9, x1, y1, z1, rfl, by decide, by decide, src, fun way u1 u2 u3 H4 w0 w1 bt e4 => ?_⟩
      have r4 := ri.draw fx bt ⟨u1, u2, u3, e4⟩
      refine ⟨_, rfl, _, _, rfl, rfl, _, rfl, ?_⟩
      refine ite2 (fun _ => ?_) (fun _ => ?_)
      · refine ⟨_, rfl, Nat.zero_le _, fun p5 H5 n5 s5 e5 => ?_⟩
        have r5 := r4.go s5
        refine ⟨.list (ys.map PyData.str), .list [], strs_dp r5.nm, .lst (SqL.of e5) .nil, strs_shaped ys (fun t ht => names8_str t (inN t ht).choose_spec.2.2.2), by decide +kernel, _, rfl, ?_⟩
        by_cases hy : ys = []
        · have e : (!PyData.eqv (.list (ys.map PyData.str)) (.list [])) = false := by rw [hy]; simp [PyData.eqv, PyData.eqvAll]
          rw [e]
          refine iteF ?_
          exact ⟨H, a, p, p3, ys, o, n, j, way, _, _, _, _, rfl, fx, r5, n1, n2, by omega, fun H'' rr => ⟨_, _, _, _, rfl, rr⟩⟩
        · have e : (!PyData.eqv (.list (ys.map PyData.str)) (.list [])) = true := by
            cases ys with
            | nil => exact absurd rfl hy
            | cons t ts => simp [PyData.eqv, PyData.eqvAll]
          rw [e]
          refine iteT ?_
          obtain ⟨x5, y5, z5, src5⟩ := r5.src
          have yp : 0 < ys.length := List.length_pos_iff.mpr hy
          refine ⟨_, rfl, _, rfl, a, p3, _, x5, y5, z5, rfl, src5, r5.nm, by rw [List.length_map]; exact yp, by rw [List.length_map]; omega, Ne.symm fx.p3a, fun v x6 y6 z6 H6 mv bt6 e6 => ?_⟩
          obtain ⟨t, ht, rfl⟩ := List.mem_map.mp mv
          obtain ⟨c, c1, c2, c3, c4⟩ := inN t ht
          have r6 := r5.draw fx bt6 ⟨x6, y6, z6, e6⟩
          obtain ⟨xs0, q0, _, _⟩ := r6.put fx
          refine ⟨_, rfl, .inl ⟨rfl, _, SqL.of q0⟩, _, rfl, _, rfl, _, rfl, d, _, rfl, .inl ⟨opsK o, .inr t, .inl (r6.but _ _ da hd), rfl, (by rw [val_ops, c1]; rfl)⟩, c, rfl, by omega, by omega, fun D nD => ?_⟩
          have Da : D ≠ a := fun q => by
            rw [q, e6] at nD
            cases nD
          refine lc_it (walk_range (lo := 0) (n := c.toNat)) (fun i Hx => But H6 Hx a ∧ SrcAt Hx a ∧ ∃ ns : List Int, Hx D = some (.lst (ns.map V.int)) ∧ ns.length = i ∧ ∀ m ∈ ns, 0 ≤ m ∧ m < (n : Int)) ⟨fun q u _ e => ?_, ⟨x6, y6, z6, ?_⟩, [], upd_same, rfl, fun _ h => (nomatch h)⟩ (fun _ _ _ _ => trivial) (fun i xx Ha Hb hi z1 z2 => ?_) (fun Hx z => ?_)
          · rw [upd_ne (ne_of_none e nD)]
            exact e
          · rw [upd_ne (Ne.symm Da)]
            exact e6
          · obtain ⟨b1, ⟨x7, y7, z7, e7⟩, ns, b2, b3, b4⟩ := z1
            obtain ⟨rfl, rfl⟩ := z2
            refine ⟨rfl, _, rfl, _, rfl, a, (n : Int), x7, y7, z7, rfl, by omega, ?_, e7, fun m u7 u8 u9 H8 m0 m1 bt8 e8 => ?_⟩
            · rw [Int.natAbs_natCast]
              exact Nat.lt_of_le_of_lt n2 (by decide)
            · refine ⟨_, bt8 _ _ Da b2, by rw [List.length_map, b3, sizeLine_eq]; omega, fun q u nq e => ?_, ⟨u7, u8, u9, ?_⟩, ns ++ [m], ?_, by rw [List.length_append, b3]; rfl, fun k hk => ?_⟩
              · rw [upd_ne (ne_of_none e nD)]
                exact bt8 _ _ nq (b1 _ _ nq e)
              · rw [upd_ne (Ne.symm Da)]
                exact e8
              · rw [upd_same, List.map_append]
                rfl
              · rcases List.mem_append.mp hk with h | h
                · exact b4 k h
                · rw [List.mem_singleton.mp h]
                  exact ⟨m0, m1⟩
          · obtain ⟨b1, b5, ns, b2, b3, b4⟩ := z
            have r7 := r6.draw fx b1 b5
            refine ⟨D, _, rfl, .inl b2, fun tt H8 s8 e8 => ?_⟩
            refine ⟨by rw [sizeLine_eq]; exact Nat.le_trans (show 3 ≤ 3 from Nat.le_refl 3) (by decide), fun T H9 nT s9 e9 => ?_⟩
            have r9 := (r7.go s8).go s9
            obtain ⟨xs, q1, q2, q3⟩ := r9.put fx
            refine ⟨p, xs, .ref T, rfl, rfl, q1, by rw [q2, sizeLine_eq]; omega, ?_⟩
            exact ⟨_, _, _, _, rfl, q3 T (.ask t ns) ⟨T, tt, rfl, e9, s9 _ _ e8⟩ ⟨by rw [c1, b3]; congr 1; omega, by omega, b4⟩ ⟨names8_str t c4, fun _ z => nomatch z⟩⟩
      · exact ⟨H, a, p, p3, ys, o, n, j, way, _, _, _, _, rfl, fx, r4, n1, n2, by omega, fun H'' rr => ⟨_, _, _, _, rfl, rr⟩⟩
    · obtain ⟨v5, v6, v7, v8, rfl, bu, ⟨x1, y1, z1, src⟩, nm, xs, rs, d1, d2, d3, d4⟩ := z
      refine ⟨_, rfl, k p xs rs x1 y1 z1 H' np d2 (fun i dd e => ?_) (fun dd h => (d4 dd h).2) bu src d1 d3⟩
      rw [d2]
      exact (d4 dd (List.mem_of_getElem? e)).1
end
end Mine

set_option maxRecDepth 100000
set_option maxHeartbeats 2000000
/-! lambdas as values: made, kept, called by whoever holds them. The captured cells stand in a ground that is wider than the law's -/
namespace LamB
open PySem PySem.Spec PyProof.Rows L2 LamX NdefX
/-- a lambda: its words, its cells, its code object, its defaults -/
structure LF where
  qual : Str
  params : Arguments
  body : Expr
  scope : Scope
  cl : List (Str × Addr)
  c : Addr
  dV : Value
abbrev LF.obj (F : LF) (doc pm ctv : Value) : Obj := { cls := .type "function", data := .func (PySem.W.kdv_fn "<lambda>" F.qual F.params (.expr F.body) F.scope F.cl F.dV doc pm (.ref F.c) ctv) }
abbrev LF.nf (F : LF) : NF := ⟨"<lambda>", F.qual, F.params, [], F.scope, F.cl, F.c⟩
def LamO (f : Addr) (F : LF) : HO := .ext fun h => ∃ doc pm ctv : Value, h.get? f = some (F.obj doc pm ctv)
theorem lamO_at {P : Program} {w : World} {H : Hp} {h : Heap} {f : Addr} {F : LF} (ok : HOk P w H h) (e : H f = some (LamO f F)) : ∃ doc pm ctv : Value, h.get? f = some (F.obj doc pm ctv) := (ok f _ e).1
/-! ### a wider ground -/
structure Up (B B' : Heap) : Prop where
  keep : ∀ a o, B.get? a = some o → B'.get? a = some o
  size : B.objs.size ≤ B'.objs.size
theorem Up.refl (B : Heap) : Up B B := ⟨fun _ _ e => e, Nat.le_refl _⟩
theorem none_down {B B' : Heap} (u : Up B B') {L : Addr} (e : B'.get? L = none) : B.get? L = none := by
  cases q : B.get? L with
  | none => rfl
  | some o =>
    rw [u.keep L o q] at e
    cases e
theorem frames_down {B B' : Heap} (u : Up B B') {h : Heap} : ∀ {l : List Env}, h.FunFrames B' l → h.FunFrames B l
  | [], _ => trivial
  | env :: l, ⟨k, ⟨L, o, e1, e2, e3, e4⟩, r⟩ => ⟨k, ⟨L, o, e1, none_down u e2, e3, e4⟩, frames_down u r⟩
section
variable {P : Program} {w : World} {K : PySem.W.Frag} {mg : Str → Option Value} {B B' : Heap}
theorem Mod.up (m : Mod K mg B) (u : Up B B') : Mod K mg B' :=
  ⟨m.kin.keeps u.keep, m.glob.keeps u.keep, m.blt.elim fun mb q => ⟨mb, q.1.keeps u.keep, q.2⟩, m.nolimit.keeps u.keep⟩
theorem env_down {A : Around} {outer : List Env} {s : Shared} {H : Hp} (e : Env0 P w K mg B' A outer s H) (u : Up B B') (m : Mod K mg B) : Env0 P w K mg B A outer s H :=
  ⟨e.frames, m, fun b o q => e.bs b o (u.keep b o q), Nat.le_trans u.size e.bsz, frames_down u e.funs, e.frf, e.hok, e.bare⟩
theorem FnOk_up {CX : CXT} {k : Nat} {f : Addr} {fd : FuncData} {ps : List Str} {sp : Sp} (F : FnOk P w K mg B CX k f fd ps sp) (u : Up B B') (m : Mod K mg B) : FnOk P w K mg B' CX k f fd ps sp :=
  ⟨F.len, fun A outer s H args us vs Q E hr e => F.run A outer s H args us vs Q E hr (env_down e u m)⟩
end
/-- what captured cells hold, in the ground -/
structure CB (B : Heap) (cl : List (Str × Addr)) (fr : List Str) (ws : List (Option V)) : Prop where
  len : ws.length = fr.length
  all : ∀ y c, cl.lookup y = some c → ∃ v, B.IsCell c v
  inj : ∀ x y c, cl.lookup x = some c → cl.lookup y = some c → x = y
  has : ∀ (i : Nat) (y : Str), fr[i]? = some y → ∃ c, cl.lookup y = some c ∧ ∀ v, ws[i]? = some (some v) → ∃ u, L2.RelV v u ∧ B.IsCell c (some u)
theorem CB.at {B h : Heap} {H : Hp} {cl : List (Str × Addr)} {fr : List Str} {ws : List (Option V)} (C : CB B cl fr ws) (bs : ∀ b o, B.get? b = some o → h.get? b = some o ∧ H b = none) : CellsAt cl fr ws h H :=
  ⟨C.len, fun y c e => by
    obtain ⟨v, o, e1, e2⟩ := C.all y c e
    exact ⟨(bs c o e1).2, v, o, (bs c o e1).1, e2⟩, C.inj, fun i y e => by
    obtain ⟨c, e1, e2⟩ := C.has i y e
    refine ⟨c, e1, fun v q => ?_⟩
    obtain ⟨u, r, o, e3, e4⟩ := e2 v q
    exact ⟨u, r, o, (bs c o e3).1, e4⟩⟩
/-- the value at f answers a call by the promise sp, wherever G is true of the heap -/
structure Acts (P : Program) (w : World) (K : PySem.W.Frag) (mg : Str → Option Value) (B : Heap) (CX : CXT) (k : Nat) (f : Addr) (G : Hp → Prop) (sp : Sp) : Prop where
  fn : ∀ (H : Hp) (h : Heap), HOk P w H h → G H → PySem.W.FnAt f h
  run : ∀ (A : Around) (outer : List Env) (s : Shared) (H : Hp) (us : List Value) (vs : List V) (Q : VK) (E : XK), Room k A → Env0 P w K mg B A outer s H → G H → Vals vs us → sp vs H Q E →
    codeAny (model P w) A (.call (.ref f) ⟨us, []⟩) (CR CX outer P w H s Q E) s
/-- the heap holds the lambda, its code and its defaults -/
def LamH (f : Addr) (F : LF) (D : Hp → Prop) (H : Hp) : Prop := H f = some (LamO f F) ∧ H F.c = some (CodeO F.c F.qual) ∧ D H
section
variable {CX : CXT} {P : Program} {w : World} {K : PySem.W.Frag} {mg : Str → Option Value} {B : Heap} {N ps fr : List Str} {F : LF} {f : Addr} {k n : Nat} {ws : List (Option V)} {dvs : List V} {D : Hp → Prop} {tb : XK → TE}
/-- THE RULE: a lambda by its body -/
theorem acts_of (S : NScope N ps fr F.scope) (C : CB B F.cl fr ws) (hn : n + dvs.length = ps.length)
    (hb : ∀ (doc pm ctv : Value) (s : Shared) (H : Hp) (us : List Value), HOk P w H s.heap → D H → us.length = n → ∃ ds, Vals dvs ds ∧ BindsTo s (PySem.W.kdv_fn "<lambda>" F.qual F.params (.expr F.body) F.scope F.cl F.dV doc pm (.ref F.c) ctv) ⟨us, []⟩ (ps.zip (us ++ ds)))
    (hbody : ∀ (A : Around) (outer : List Env) (s : Shared) (H : Hp) (E : XK), Room k (A.deeper (envF F.nf f s.heap.objs.size)) → PE (ncx CX P w K mg B N F.nf f A outer s H E) F.body (tb E)) :
    Acts P w K mg B CX (k + 1) f (LamH f F D) (fun vs H Q E => vs.length = n ∧ tb E (startF N (vs ++ dvs) ws) H Q) := by
  refine ⟨fun H h ok g => ?_, fun A outer s H us vs Q E hr e0 g r sp => ?_⟩
  · obtain ⟨doc, pm, ctv, e⟩ := lamO_at ok g.1
    exact ⟨_, _, _, _, e⟩
  · obtain ⟨hl, ht⟩ := sp
    obtain ⟨doc, pm, ctv, e⟩ := lamO_at e0.hok g.1
    have noLim : s.heap.NoLimit := e0.mod.nolimit.keeps fun b o q => (e0.bs b o q).1
    obtain ⟨ds, rd, bd⟩ := hb doc pm ctv s H us e0.hok g.2.2 (r.length.symm.trans hl)
    have r2 : Vals (vs ++ dvs) (us ++ ds) := r.append rd
    have hlen : (vs ++ dvs).length = ps.length := by rw [List.length_append, hl]; exact hn
    refine PySem.W.kla_callFunE hr.depth e rfl S.co S.gen rfl (codeO_at e0.hok g.2.1) ?_
    refine bd _ _ _ _ ?_
    refine wpAny_newFunctionEnv S.nocell (fun ⟨y, _⟩ hy => S.par y (List.of_mem_zip hy).1) (fun h₁ ns sb => ⟨noLim.fresh _ sb, ?_⟩) S.kind
    show codeAny _ _ (.expr F.body (envF F.nf f s.heap.objs.size)) _ _
    have kp : ∀ b o, s.heap.get? b = some o → h₁.get? b = some o := fun b o q => sb.extBut b o (Nat.ne_of_lt (Heap.lt_size q)) (Heap.get?_push_of_some _ q)
    have J : Inv (ncx CX P w K mg B N F.nf f A outer s H E) [] (startF N (vs ++ dvs) ws) H { s with heap := h₁, toks := s.toks + (ps.zip (us ++ ds)).length } := inv_startN (F := F.nf) S hr.hd e0 hlen r2 (C.at e0.bs) ns kp
    refine PySem.W.kla_codeExpr (wpAny_mono ((hbody A outer s H E (hr.deeper _)).run [] _ _ H Q J ht) (fun v s' q => ?_) fun _ _ q => q)
    obtain ⟨x, H', J', rv, q⟩ := q
    exact ⟨x, H', J'.os, J'.bare, J'.base, J'.hok, rv, q⟩
end
/-! ### the call -/
/-- x(..), the i-th slot holding something that acts -/
def tAct (P : Program) (w : World) (K : PySem.W.Frag) (mg : Str → Option Value) (B : Heap) (CX : CXT) (k i : Nat) (E : XK) (t : TA) : TE := fun σ H Q => ∃ (f : Addr) (G : Hp → Prop) (sp : Sp), σ[i]? = some (some (.ref f)) ∧ Acts P w K mg B CX k f G sp ∧ G H ∧
  t σ H fun vs H1 => G H1 ∧ sp vs H1 Q E
section
variable {X : Cx} {CX : CXT} {i j k : Nat} {x : Str} {E : XK} {t : TA} {e : Expr} {es : List Expr} {p pos : Pos} {pins : List (Addr × Obj)} {σ : L2.St} {H : Hp} {s : Shared}
theorem run_act {Q : VK} {f : Addr} {G : Hp → Prop} {sp : Sp} {us : List Value} {vs : List V} (a : Acts X.prog X.w X.K X.mg X.base CX k f G sp) (hr : Room k X.A) (hx : Passes CX X E) (I : Inv X pins σ H s) (g : G H) (r : Vals vs us) (q : sp vs H Q E) :
    wpAny (model X.prog X.w) X.A (call (.ref f) us) (EP X pins σ Q) X.xe s := by
  refine wpAny_call (codeAny_mono (a.run X.A X.stack s H us vs Q E hr I.env0 g r q) fun res s' z => ?_)
  match res, z with
  | .error _, z => exact hx pins σ H s _ s' I z
  | .ok (.ret _), z => exact I.after z
theorem pe_act (hr : Room k X.A) (hx : Passes CX X E) (hN : X.N[i]? = some x) (hv : Vis X.env.scope x) (ha : PA X (e :: es) t)
    (hd : (x == ("__debug__" : Str)) = false := by decide) (hcd : (x == ("__classdict__" : Str)) = false := by decide)
    (he : starEach (e :: es) X.env = (false, eval e X.env) :: starEach es X.env := by rfl) (hpl : (backTo pos (starEach es X.env)).any (·.1) = false := by rfl) :
    PE X (.Call (.Name x p) (e :: es) [] pos) (tAct X.prog X.w X.K X.mg X.base CX k i E t) := by
  refine ⟨fun pins s σ H Q I ⟨f, G, sp, hs, a, g, ht⟩ => ?_⟩
  refine wpAny_Call_Name_kw (thn ((pe_var (pos := p) hN hv hd hcd).run pins s σ H (fun v H1 => v = .ref f ∧ H1 = H) I ⟨.ref f, hs, rfl, rfl⟩) fun u s1 ⟨v, H1, I1, r1, z⟩ => ?_)
  obtain ⟨z1, z2⟩ := z
  subst z1
  rw [z2] at I1
  obtain rfl : u = Value.ref f := r1
  refine PySem.W.callWith_F (first := []) (a.fn H _ I1.hok g) (thn (ha.run pos pins s1 σ H _ I1 ht) fun us s2 ⟨vs, H2, I2, r, g2, q⟩ => ⟨a.fn H2 _ I2.hok g2, ?_⟩) he hpl
  exact run_act a hr hx I2 g2 r q
theorem pe_act0 (hr : Room k X.A) (hx : Passes CX X E) (hN : X.N[i]? = some x) (hv : Vis X.env.scope x)
    (hd : (x == ("__debug__" : Str)) = false := by decide) (hcd : (x == ("__classdict__" : Str)) = false := by decide) :
    PE X (.Call (.Name x p) [] [] pos) (tAct X.prog X.w X.K X.mg X.base CX k i E tNil) := by
  refine ⟨fun pins s σ H Q I ⟨f, G, sp, hs, a, g, g2, q⟩ => ?_⟩
  refine wpAny_Call_Name_kw (thn ((pe_var (pos := p) hN hv hd hcd).run pins s σ H (fun v H1 => v = .ref f ∧ H1 = H) I ⟨.ref f, hs, rfl, rfl⟩) fun u s1 ⟨v, H1, I1, r1, z⟩ => ?_)
  obtain ⟨z1, z2⟩ := z
  subst z1
  rw [z2] at I1
  obtain rfl : u = Value.ref f := r1
  refine PySem.W.callWith_F0 (first := []) (a.fn H _ I1.hok g) ?_
  exact run_act a hr hx I1 g2 .nil q
end
/-- .. in a try: what is wanted of an exception hangs on the slots -/
def tActS (P : Program) (w : World) (K : PySem.W.Frag) (mg : Str → Option Value) (B : Heap) (CX : CXT) (k i : Nat) (E : L2.St → XK) : TE := fun σ H Q => ∃ (f : Addr) (G : Hp → Prop) (sp : Sp), σ[i]? = some (some (.ref f)) ∧ Acts P w K mg B CX k f G sp ∧ G H ∧ sp [] H Q (E σ)
section
variable {X : Cx} {CX : CXT} {i j k : Nat} {x : Str} {E : L2.St → XK} {p pos : Pos}
theorem pe_actS (hr : Room k X.A) (hx : ∀ σ, PassesAt CX X σ (E σ)) (hN : X.N[i]? = some x) (hv : Vis X.env.scope x)
    (hd : (x == ("__debug__" : Str)) = false := by decide) (hcd : (x == ("__classdict__" : Str)) = false := by decide) :
    PE X (.Call (.Name x p) [] [] pos) (tActS X.prog X.w X.K X.mg X.base CX k i E) := by
  refine ⟨fun pins s σ H Q I ⟨f, G, sp, hs, a, g, q⟩ => ?_⟩
  refine wpAny_Call_Name_kw (thn ((pe_var (pos := p) hN hv hd hcd).run pins s σ H (fun v H1 => v = .ref f ∧ H1 = H) I ⟨.ref f, hs, rfl, rfl⟩) fun u s1 ⟨v, H1, I1, r1, z⟩ => ?_)
  obtain ⟨z1, z2⟩ := z
  subst z1
  rw [z2] at I1
  obtain rfl : u = Value.ref f := r1
  refine PySem.W.callWith_F0 (first := []) (a.fn H _ I1.hok g) ?_
  refine wpAny_call (codeAny_mono (a.run X.A X.stack s1 H [] [] Q (E σ) hr I1.env0 g .nil q) fun res s' z => ?_)
  match res, z with
  | .error _, z => exact hx σ _ _ _ _ _ I1 z
  | .ok (.ret _), z => exact I1.after z
end
/-! ### the making -/
section
variable {X : Cx} {pins : List (Addr × Obj)} {σ : L2.St} {H : Hp} {s : Shared}
theorem inv_lam {F : LF} {t' : Nat} {doc pm ctv : Value} (I : Inv X pins σ H s) :
    Inv X pins σ (upd H s.heap.objs.size (LamO s.heap.objs.size F)) { s with heap := s.heap.push (F.obj doc pm ctv), toks := t' } := by
  have e : (s.heap.push (F.obj doc pm ctv)).get? s.heap.objs.size = some (F.obj doc pm ctv) := Heap.get?_push_size _ rfl
  exact I.laid (a := s.heap.objs.size) (fun b u q => Heap.get?_push_of_some _ q) (Nat.le_refl _) ⟨⟨doc, pm, ctv, e⟩, ⟨_, e⟩, fun h1 h2 ⟨a, b, c, z⟩ st => ⟨a, b, c, st _ z⟩⟩
/-- all but the object at P stays -/
def ButT (P : Addr) (H H' : Hp) : Prop := ∀ b o, b ≠ P → H b = some o → H' b = some o
theorem ButT.refl (P : Addr) (H : Hp) : ButT P H H := fun _ _ _ e => e
theorem ButT.trans {P : Addr} {H H1 H2 : Hp} (a : ButT P H H1) (b : ButT P H1 H2) : ButT P H H2 := fun c o n e => b c o n (a c o n e)
theorem ButT.of {P : Addr} {H H' : Hp} (s : Same H H') : ButT P H H' := fun b o _ e => s b o e
theorem lam_tail {T : List (Addr × Str)} {c P : Addr} {params : Arguments} {body : Expr} {scope : Scope} {pos : Pos} {dV : Value} {E Q : Value → Shared → Prop} (I : Inv X pins σ H s) (TB : TabB X.base X.mg c P) (hcode : X.env.code = .ref c)
    (hm : (P, X.env.qual ++ "<lambda>") ∈ T) (hu : ∀ p ∈ T, p.1 = P → p.2 = X.env.qual ++ "<lambda>") (hT : Tabs T H) (hfree : ∀ y ∈ scope.names, y.2 = .free → ∃ c, X.env.cells.lookup y.1 = some c)
    (go : ∀ (f c' : Addr) (H1 : Hp) (s' : Shared), Inv X pins σ H1 s' → ButT P H H1 → Tabs T H1 → H f = none → H1 f = some (LamO f ⟨X.env.qual ++ "<lambda>", params, body, scope, cloFrom X.env.cells scope.names [], c', dV⟩) → H1 c' = some (CodeO c' (X.env.qual ++ "<lambda>")) → Q (.ref f) s') :
    wpAny (model X.prog X.w) X.A (makeTail "<lambda>" (X.env.qual ++ "<lambda>") params (.expr body) scope X.env dV .none none pos pos.line) Q E s := by
  obtain ⟨qs, tabP, trip, names⟩ := hT _ hm
  have bP : s.heap.BuiltinsAt X.mg P := TB.bm.keeps I.bk
  have atP : s.heap.get? P = some { cls := .none, data := .fields qs } := I.hok P _ tabP
  cases hc : codeAmong pos qs.toList with
  | none =>
    refine PySem.W.kdv_makeTail (mg := X.mg) (c := c) (P := P) (ps := qs) (closure_ok hfree) I.ok.glob (I.mod.glob.keeps I.bk) hcode (TB.code.keeps I.bk) atP trip hc TB.gP bP fun c' ctv doc h' tk ext ge lt rec tab => ?_
    obtain ⟨c2, oc, fs, tq, e2, e3, e4, e5⟩ := rec
    cases e2
    have newC : H c' = none := I.hok.fresh ge
    have J1 := inv_table (t' := tk) (more := #[rawInt pos.line, rawInt pos.col, .ref c']) (h' := h') I tabP (fun b o nb q => ext b o nb q) tab ge ⟨oc, fs, tq, e3, e4, e5⟩
    generalize hG : upd (upd H P (.tbl (qs ++ #[rawInt pos.line, rawInt pos.col, .ref c']))) c' (CodeO c' (X.env.qual ++ "<lambda>")) = G at J1
    have out : ExtN H G := fun b o q nt => by
      rw [← hG, upd_ne (ne_of_none q newC), upd_ne (fun z => nt qs (Option.some.inj (q.symm.trans (by rw [z]; exact tabP))))]
      exact q
    have outP : ButT P H G := fun b o nb q => by
      rw [← hG, upd_ne (ne_of_none q newC), upd_ne nb]
      exact q
    have atC : G c' = some (CodeO c' (X.env.qual ++ "<lambda>")) := by rw [← hG]; exact upd_same
    have tabs : Tabs T G := fun p hp => by
      by_cases hb : p.1 = P
      · rw [hu p hp hb, hb]
        refine ⟨_, by rw [← hG, upd_ne (ne_of_none tabP newC), upd_same], by rw [Array.toList_append]; exact PySem.TriplesOk_snoc _ _ _ _ trip, fun p' cv q => ?_⟩
        rw [Array.toList_append] at q
        rcases among_app _ trip q with z | z
        · obtain ⟨c0, z1, z2⟩ := names p' cv z
          exact ⟨c0, z1, out _ _ z2 codeO_ne⟩
        · exact ⟨c', z, atC⟩
      · obtain ⟨qs', z1, z2, z3⟩ := hT p hp
        refine ⟨qs', by rw [← hG, upd_ne (ne_of_none z1 newC), upd_ne hb]; exact z1, z2, fun p' cv q => ?_⟩
        obtain ⟨c0, y1, y2⟩ := z3 p' cv q
        exact ⟨c0, y1, out _ _ y2 codeO_ne⟩
    have newF := J1.hok.fresh (Nat.le_refl _)
    have J2 := inv_lam (F := ⟨X.env.qual ++ "<lambda>", params, body, scope, cloFrom X.env.cells scope.names [], c', dV⟩) (t' := tk) (doc := doc) (pm := (X.mg "__name__").getD .none) (ctv := ctv) J1
    exact go h'.objs.size c' _ _ J2 (fun b o nb q => (upd_ne (ne_of_none (outP b o nb q) newF)).trans (outP b o nb q)) (tabs.ext fun b o q => (upd_ne (ne_of_none q newF)).trans q)
      (I.hok.fresh (Nat.le_trans ge (Nat.le_of_lt lt))) upd_same ((upd_ne (Nat.ne_of_lt lt)).trans atC)
  | some cv =>
    obtain ⟨c', e, atC⟩ := names pos cv hc
    subst e
    refine PySem.W.kdv_makeTailHit (mg := X.mg) (c := c) (P := P) (ps := qs) (closure_ok hfree) I.ok.glob (I.mod.glob.keeps I.bk) hcode (TB.code.keeps I.bk) atP trip hc bP fun ctv doc h' tk ext sz => ?_
    have J1 : Inv X pins σ H { s with heap := h', toks := tk } := I.kept ext
    have newF : H h'.objs.size = none := J1.hok.fresh (Nat.le_refl _)
    have J2 := inv_lam (F := ⟨X.env.qual ++ "<lambda>", params, body, scope, cloFrom X.env.cells scope.names [], c', dV⟩) (t' := tk) (doc := doc) (pm := (X.mg "__name__").getD .none) (ctv := ctv) J1
    exact go h'.objs.size c' _ _ J2 (fun b o _ q => (upd_ne (ne_of_none q newF)).trans q) (hT.ext fun b o q => (upd_ne (ne_of_none q newF)).trans q) newF upd_same ((upd_ne (ne_of_none atC newF)).trans atC)
/-- a lambda without defaults -/
def tLamV (P : Addr) (T : List (Addr × Str)) (mk : Addr → LF) : TE := fun _ H Q => Tabs T H ∧ ∀ (f c' : Addr) (H1 : Hp), ButT P H H1 → Tabs T H1 → H f = none → H1 f = some (LamO f (mk c')) → H1 c' = some (CodeO c' (mk c').qual) → Q (.ref f) H1
theorem pe_lamV {T : List (Addr × Str)} {c P : Addr} {params : Arguments} {body : Expr} {scope : Scope} {pos : Pos} (TB : TabB X.base X.mg c P) (hcode : X.env.code = .ref c)
    (hm : (P, X.env.qual ++ "<lambda>") ∈ T) (hu : ∀ p ∈ T, p.1 = P → p.2 = X.env.qual ++ "<lambda>") (L : ∀ y ∈ scope.names, y.2 = .free → X.env.scope.names.lookup y.1 = some .cell ∨ X.env.scope.names.lookup y.1 = some .free) (hdef : defaultsOf params X.env = ([], [])) :
    PE X (.Lambda params body scope pos) (tLamV P T fun c' => ⟨X.env.qual ++ "<lambda>", params, body, scope, cloFrom X.env.cells scope.names [], c', .none⟩) := by
  refine ⟨fun pins s σ H Q I ⟨hT, h⟩ => ?_⟩
  refine PySem.W.kla_eval hdef ?_
  rw [makeFunction_eq]
  simp only [List.zip_nil_right, List.filterMap_nil, List.isEmpty_nil, if_true, pure_bind]
  exact lam_tail I TB hcode hm hu hT (fun y hy z => (L y hy z).elim (fun q => I.ok.has _ (.inl q)) fun q => I.ok.has _ (.inr q)) fun f c' H1 s' J x1 x2 x3 x4 x5 => ⟨.ref f, H1, J, rfl, h f c' H1 x1 x2 x3 x4 x5⟩
/-- a lambda with one default -/
def tLamD (P : Addr) (T : List (Addr × Str)) (te : TE) (mk : Addr → Addr → LF) : TE := fun σ H Q => te σ H fun v H0 => Tabs T H0 ∧ ∀ (f c' t : Addr) (H1 : Hp), ButT P H0 H1 → Tabs T H1 → H0 t = none → H1 t = some (.tup [v]) → H0 f = none → H1 f = some (LamO f (mk t c')) → H1 c' = some (CodeO c' (mk t c').qual) → Q (.ref f) H1
theorem pe_lamD {T : List (Addr × Str)} {c P : Addr} {params : Arguments} {body e : Expr} {scope : Scope} {pos : Pos} {te : TE} (TB : TabB X.base X.mg c P) (hcode : X.env.code = .ref c)
    (hm : (P, X.env.qual ++ "<lambda>") ∈ T) (hu : ∀ p ∈ T, p.1 = P → p.2 = X.env.qual ++ "<lambda>") (L : ∀ y ∈ scope.names, y.2 = .free → X.env.scope.names.lookup y.1 = some .cell ∨ X.env.scope.names.lookup y.1 = some .free) (hd : params.defaults = [e]) (hk : params.kw_defaults = []) (he : PE X e te) :
    PE X (.Lambda params body scope pos) (tLamD P T te fun t c' => ⟨X.env.qual ++ "<lambda>", params, body, scope, cloFrom X.env.cells scope.names [], c', .ref t⟩) := by
  refine ⟨fun pins s σ H Q I h => ?_⟩
  refine PySem.W.kdv_lam (by rw [hd]; rfl) hk ?_
  rw [hd]
  refine PySem.W.kdv_all1 (thn (he.run pins s σ H _ I h) fun u s1 ⟨v, H0, J, r, hT, q⟩ => PySem.W.kdv_all0 ?_)
  rw [makeFunction_eq]
  simp only [List.zip_nil_right, List.filterMap_nil, List.isEmpty_nil, List.isEmpty_cons, if_true, pure_bind, Bool.false_eq_true, if_false]
  refine wpAny_bind (wpAny_newTextTuple ?_)
  have newT : H0 s1.heap.objs.size = none := J.hok.fresh (Nat.le_refl _)
  have atT : (s1.heap.push ({ cls := .type "tuple", data := .seq [u].toArray } : Obj)).get? s1.heap.objs.size = some ({ cls := .type "tuple", data := .seq [u].toArray } : Obj) := Heap.get?_push_size _ rfl
  have J1 : Inv X pins σ (upd H0 s1.heap.objs.size (.tup [v])) { s1 with heap := s1.heap.push ({ cls := .type "tuple", data := .seq [u].toArray } : Obj), toks := s1.toks } :=
    J.laid (t' := s1.toks) (fun b o q => Heap.get?_push_of_some _ q) (Nat.le_refl _) ⟨by show 1 ≤ sizeLine; decide, [u], .cons r .nil, _, atT, rfl, _, rfl⟩
  have grow : ∀ b o, H0 b = some o → upd H0 s1.heap.objs.size (.tup [v]) b = some o := fun b o q => (upd_ne (ne_of_none q newT)).trans q
  refine lam_tail J1 TB hcode hm hu (hT.ext grow) (fun y hy z => (L y hy z).elim (fun q => I.ok.has _ (.inl q)) fun q => I.ok.has _ (.inr q)) fun f c' H1 s' J2 x1 x2 x3 x4 x5 => ⟨.ref f, H1, J2, rfl, q f c' _ H1 (fun b o nb z => x1 b o nb (grow b o z)) x2 newT (x1 _ _ ?_ upd_same) ?_ x4 x5⟩
  · intro z
    obtain ⟨qs, z1, _⟩ := hT _ hm
    have z1 : H0 P = some (.tbl qs) := z1
    rw [← z, newT] at z1
    cases z1
  · cases z : H0 f with
    | none => rfl
    | some o =>
      rw [grow f o z] at x3
      cases x3
end
end LamB

set_option maxRecDepth 100000
set_option maxHeartbeats 2000000
/-! a list comprehension whose element knows the state at which the block begins (what cells hold that the block itself doesn't name) -/
namespace LamB
open PySem PySem.Spec PyProof.Rows L2 LamX NdefX
abbrev blkCells (X : Cx) (s : Shared) (scope : Scope) : List (Str × Addr) := cellsFrom (s.heap.objs.size + 1) scope.names (cloFrom X.env.cells scope.names [])
/-- the block's context when it begins at s -/
abbrev blkI (X : Cx) (s : Shared) (H : Hp) (scope : Scope) (C : Addr) (fp : List Addr) : Cx := X.blk s H scope (compEnvC scope (blkCells X s scope) C X.env) fp
theorem pe_lcI {X : Cx} {elt tg iter : Expr} {scope : Scope} {own : List (Str × Nat)} {pos : Pos} {wi : TI} {g : TG} {te : L2.St → TE} (hc : X.calm = true) (hN : X.N.Nodup) (hi : PI X tg iter wi) (ok : BlkOk X.N X.env.scope scope own)
    (hg : ∀ (s : Shared) (H : Hp) (C : Addr) (cl : List (Str × Addr)) (fp : List Addr), PG (X.blk s H scope (compEnvC scope cl C X.env) fp) tg g)
    (he : ∀ (pins : List (Addr × Obj)) (σ : L2.St) (s : Shared) (H : Hp) (C : Addr) (fp : List Addr), Inv X pins σ H s → (∀ b ∈ fp, FpOk X pins H b) → PE (blkI X s H scope C fp) elt (te σ)) (hs : ∀ x, foldedSetIterable iter X.env x = pure x := by intro _; rfl) :
    PE X (.ListComp elt [⟨tg, iter, [], 0⟩] scope pos) (fun σ H Q => tLc wi g tYes (te σ) (own.map (·.2)) σ H Q) := by
  refine ⟨fun pins s σ H Q I0 reading => ?_⟩
  rw [eval_ListComp]
  have frees : ∀ y ∈ scope.names, y.2 = .free → ∃ c, X.env.cells.lookup y.1 = some c := fun y hy z => (ok.free y hy z).elim (fun q => I0.ok.has _ (.inl q)) fun q => I0.ok.has _ (.inr q)
  refine wpAny_comprehension_free (use := none) rfl hs (closure_ok frees) ok.kind (fun y hy z => by rw [ok.uniq y hy, z]) (thn (hi.run pins s σ H _ I0 reading) fun _ sa ha => thn ha fun _ sb hb => ?_)
  obtain ⟨it, fp, tn, J, Hb, rfl, Ib, TT, stb, fpb, rest⟩ := hb
  refine wpAny_newObj_type (newEnv_comp ?_) (Nat.zero_le _)
  obtain ⟨L, hL⟩ : ∃ L, L = sb.heap.objs.size := ⟨_, rfl⟩
  have freshL : Hb L = none := Ib.hok.fresh (Nat.le_of_eq hL.symm)
  obtain ⟨W, ⟨m0, wBegin⟩, turns⟩ := rest L freshL
  rw [← hL]
  obtain ⟨sc, hsc⟩ : ∃ sc : Shared, sc = { sb with heap := sb.heap.push { cls := .type "list", data := .seq ([] : List Value).toArray } } := ⟨_, rfl⟩
  have heapC : sc.heap = sb.heap.push { cls := .type "list", data := .seq ([] : List Value).toArray } := by rw [hsc]
  have more : ∀ b o, sb.heap.get? b = some o → sc.heap.get? b = some o := fun b o q => by rw [heapC]; exact Heap.get?_push_of_some _ q
  obtain ⟨Hc, hHc⟩ : ∃ Hc, Hc = upd Hb L (.lst []) := ⟨_, rfl⟩
  have Ic : Inv X pins σ Hc sc := by
    rw [hHc, hsc]
    exact Ib.laid (t' := sb.toks) (fun b o q => Heap.get?_push_of_some _ q) (Nat.le_of_eq hL.symm) ⟨Nat.zero_le _, [], 0, .nil, by rw [hL]; exact Heap.get?_push_size _ rfl⟩
  rw [← hHc] at wBegin
  have small : ∀ b ∈ fp, b < sb.heap.objs.size := fun b hb => (TT.obj _ _ stb b hb).elim fun o q => Heap.lt_size q.1
  have fpc : ∀ b ∈ fp, FpOk X pins Hc b ∧ b < sc.heap.objs.size := fun b hb =>
    ⟨⟨by rw [hHc, upd_ne (by rw [hL]; exact Nat.ne_of_lt (small b hb))]; exact (fpb b hb).1, (fpb b hb).2⟩, by rw [heapC, Heap.size_push]; exact Nat.lt_succ_of_lt (small b hb)⟩
  have stc : tn 0 sc.heap := TT.keep _ _ _ stb fun b _ o q => more b o q
  have Id := block_start Ic ok hN fpc
  have pg := hg sc Hc sc.heap.objs.size (blkCells X sc scope) fp
  have pe := he pins σ sc Hc sc.heap.objs.size fp Ic fun b hb => (fpc b hb).1
  show codeAny _ _ (.compStart (.ListComp elt [⟨tg, iter, [], 0⟩] scope pos) 0 (.ref it) (.ref L) (compEnvC scope (cellsFrom (({ sb with heap := sb.heap.push { cls := .type "list", data := .seq ([] : List Value).toArray } } : Shared).heap.objs.size + 1) scope.names (cloFrom X.env.cells scope.names [])) _ X.env)) _ _
  rw [← hsc]
  obtain ⟨ce, hce⟩ : ∃ ce, ce = compEnvC scope (blkCells X sc scope) sc.heap.objs.size X.env := ⟨_, rfl⟩
  have ceL : ce.locals = sc.heap.objs.size := by rw [hce]; rfl
  rw [← hce] at Id pg
  rw [show blkI X sc Hc scope sc.heap.objs.size fp = X.blk sc Hc scope ce fp by rw [hce]] at pe
  show codeAny _ _ (.compStart (.ListComp elt [⟨tg, iter, [], 0⟩] scope pos) 0 (.ref it) (.ref L) (compEnvC scope (blkCells X sc scope) sc.heap.objs.size X.env)) (compPost (model X.prog X.w) X.A X.xe none _ (.ref L) sc.heap.objs.size) { sc with heap := pushCells (sc.heap.push { cls := .type "dict", data := .dict #[] }) scope.names }
  rw [← hce]
  obtain ⟨sd, hsd⟩ : ∃ sd : Shared, sd = { sc with heap := pushCells (sc.heap.push { cls := .type "dict", data := .dict #[] }) scope.names } := ⟨_, rfl⟩
  rw [← hsd] at Id ⊢
  have std : tn 0 sd.heap := TT.keep _ _ _ stc fun b _ o q => by rw [hsd]; exact pushCells_keeps _ _ _ _ (Heap.get?_push_of_some _ q)
  have still : ∀ {σ' : L2.St} {H' : Hp} {s' : Shared}, Inv (X.blk sc Hc scope ce fp) [] σ' H' s' → (∀ b ∈ fp, H' b = none) → ∀ b ∈ fp, FpOk (X.blk sc Hc scope ce fp) [] H' b := fun J no b hb =>
    ⟨no b hb, (J.ok.exf b hb).1, J.ok.exfs b hb, .inl hb, fun y c q => (J.ok.exf b hb).2 y c q, fun p hp => absurd (show p ∈ ([] : List (Addr × Obj)) ++ [] from hp) (by simp)⟩
  have whole : codeAny (model X.prog X.w) X.A (.compLoop (.ListComp elt [⟨tg, iter, [], 0⟩] scope pos) 0 (.ref it) (.ref L) ce) (compPost (model X.prog X.w) X.A X.xe none (EP X pins σ Q) (.ref L) sc.heap.objs.size) sd := by
    refine compLoop_any (fun n s' => ∃ i H', Inv (X.blk sc Hc scope ce fp) [] (wipe σ (own.map (·.2))) H' s' ∧ tn i s'.heap ∧ (∀ b ∈ fp, H' b = none) ∧ W i n H') (fun n s1 ⟨i, H1, I1, st1, no1, w1⟩ => ?_) m0 ⟨0, Hc, Id, std, fun b hb => (fpc b hb).1.1, wBegin⟩
    rcases turns i n H1 w1 with ⟨stop, qEnd⟩ | ⟨goes, Nx, later, step⟩
    · refine thnF (TT.done (X.blk sc Hc scope ce fp) rfl rfl rfl hc i [] s1 _ H1 (fun _ _ => False) I1 (still I1 no1) st1 stop) fun r s2 ⟨hr, I2⟩ => ?_
      subst hr
      have back : Inv X pins σ H1 s2 := Ic.call' (ch := fp) I2.os I2.base I2.hok I2.bare fun b hb => ⟨(fpc b hb).1.2.2.2.1, (fpc b hb).1.2.1, (fpc b hb).1.2.2.2.2.1, (fpc b hb).1.2.2.2.2.2⟩
      have noC : H1 sc.heap.objs.size = none := by
        rw [← ceL]
        exact I2.free
      obtain ⟨m, ns, _⟩ := I2.loc
      have ns : s2.heap.Ns ce.locals m := ns
      rw [ceL] at ns
      obtain ⟨f0, f1, f2, f3, f4, f5⟩ := Ic.fpOk (Nat.le_refl _) noC
      exact ⟨m, ns, fun h' sb' => ⟨.ref L, H1, back.turned (t' := s2.toks) (fun b o nb q => (sb'.2 b nb).trans q) f0 f1 f3 f4 f5, rfl, qEnd⟩⟩
    · refine thnF (TT.item (X.blk sc Hc scope ce fp) rfl rfl rfl hc i [] s1 _ H1 (fun _ _ => False) I1 (still I1 no1) st1 goes) fun r s2 ⟨u, hr, h2⟩ => ?_
      subst hr
      refine thnF h2 fun _ s3 ⟨x, H3, I3, r3, y3, st3, no3⟩ => ?_
      refine thnF (pg.run _ s3 _ H3 x u _ (I3.pinned (still I3 no3) (TT.obj _ _ st3)) r3 (step x H3 y3)) fun _ s4 ⟨σ4, H4, I4, same, q4⟩ => ?_
      refine wpAny_tests_nil ?_
      simp only [if_true]
      have q4 : (if true = true then te σ σ4 H4 _ else Nx H4) := q4
      simp only [if_true] at q4
      refine thnF (pe.run _ s4 σ4 H4 _ I4 q4) fun z s5 ⟨y, H5, I5, r5, acc, atL, few, nx⟩ => ?_
      refine app_ok (X := X.blk sc Hc scope ce fp) I5 atL few r5 fun s6 I6 => ?_
      obtain ⟨m', less, w'⟩ := later _ nx
      have keep : ∀ b ∈ fp, ∀ o, s3.heap.get? b = some o → s6.heap.get? b = some o ∧ upd H5 L (.lst (acc ++ [y])) b = none := fun b hb o q =>
        have z := I6.pin (b, o) (List.mem_append_right _ (List.mem_append_right _ (mem_pinsAt hb q)))
        ⟨z.1, z.2.1⟩
      refine ⟨m', less, i + 1, _, (I6.unpinned (pins := [])).weak (by rw [← same, wipe_length]) (fun j v q => ?_), TT.keep _ _ _ st3 fun b hb o q => (keep b hb o q).1, fun b hb => ?_, w'⟩
      · rw [← same] at q
        exact (wipe_some q).1
      · obtain ⟨o, q, _⟩ := TT.obj _ _ st3 b hb
        exact (keep b hb o q).2
  exact codeAny_compStart_list whole (TT.self X.A 0 _ _ _ std whole)
end LamB

set_option maxRecDepth 100000
set_option maxHeartbeats 2000000
/-! a dict comprehension whose value knows the state at which the block begins -/
namespace LamB
open PySem PySem.Spec PyProof.Rows L2 LamX NdefX
theorem dcI_core {X : Cx} {pins : List (Addr × Obj)} {s : Shared} {σ : L2.St} {H : Hp} {Q : VK} {kx vx tg iter : Expr} {scope : Scope} {own : List (Str × Nat)} {pos pos' : Pos} {wi : TI} {g : TG} {tk : TE} {te : L2.St → TE} {use : Option (Value → Sem Unit)} {Qf : Value → Shared → Prop} (hc : X.calm = true) (hN : X.N.Nodup) (I0 : Inv X pins σ H s) (hi : PI X tg iter wi) (ok : BlkOk X.N X.env.scope scope own)
    (hg : ∀ (s : Shared) (H : Hp) (C : Addr) (cl : List (Str × Addr)) (fp : List Addr), PG (X.blk s H scope (compEnvC scope cl C X.env) fp) tg g)
    (hk : ∀ (s : Shared) (H : Hp) (C : Addr) (cl : List (Str × Addr)) (fp : List Addr), PE (X.blk s H scope (compEnvC scope cl C X.env) fp) kx tk)
    (he : ∀ (pins : List (Addr × Obj)) (σ : L2.St) (s : Shared) (H : Hp) (C : Addr) (fp : List Addr), Inv X pins σ H s → (∀ b ∈ fp, FpOk X pins H b) → PE (blkI X s H scope C fp) vx (te σ)) (hs : ∀ x, foldedSetIterable iter X.env x = pure x)
    (reading : tDc wi g tYes tk (te σ) (own.map (·.2)) σ H Q)
    (hRR : ∀ D C s' m H', Inv X pins σ H' s' → Q (.ref D) H' → s'.heap.Ns C m → FpOk X pins H' C → compPost (model X.prog X.w) X.A X.xe use Qf (.ref D) C (.ok .next) s') :
    wpAny (model X.prog X.w) X.A (comprehension (.DictComp kx vx [⟨tg, iter, [], 0⟩] scope pos) scope X.env pos' newDict false (eval iter X.env) use) Qf X.xe s := by
  have frees : ∀ y ∈ scope.names, y.2 = .free → ∃ c, X.env.cells.lookup y.1 = some c := fun y hy z => (ok.free y hy z).elim (fun q => I0.ok.has _ (.inl q)) fun q => I0.ok.has _ (.inr q)
  refine wpAny_comprehension_free (use := use) rfl hs (closure_ok frees) ok.kind (fun y hy z => by rw [ok.uniq y hy, z]) (thn (hi.run pins s σ H _ I0 reading) fun _ sa ha => thn ha fun _ sb hb => ?_)
  obtain ⟨it, fp, tn, J, Hb, rfl, Ib, TT, stb, fpb, rest⟩ := hb
  refine wpAny_newObj_type (newEnv_comp ?_)
  obtain ⟨L, hL⟩ : ∃ L, L = sb.heap.objs.size := ⟨_, rfl⟩
  have freshL : Hb L = none := Ib.hok.fresh (Nat.le_of_eq hL.symm)
  obtain ⟨W, ⟨m0, wBegin⟩, turns⟩ := rest L freshL
  rw [← hL]
  obtain ⟨sc, hsc⟩ : ∃ sc : Shared, sc = { sb with heap := sb.heap.push { cls := .type "dict", data := .dict #[] } } := ⟨_, rfl⟩
  have heapC : sc.heap = sb.heap.push { cls := .type "dict", data := .dict #[] } := by rw [hsc]
  have more : ∀ b o, sb.heap.get? b = some o → sc.heap.get? b = some o := fun b o q => by rw [heapC]; exact Heap.get?_push_of_some _ q
  obtain ⟨Hc, hHc⟩ : ∃ Hc, Hc = upd Hb L (.dK []) := ⟨_, rfl⟩
  have Ic : Inv X pins σ Hc sc := by
    rw [hHc, hsc]
    refine Ib.laid (t' := sb.toks) (fun b o q => Heap.get?_push_of_some _ q) (Nat.le_of_eq hL.symm) ?_
    rw [hL]
    exact dk_empty sb.heap Ib.big
  rw [← hHc] at wBegin
  have small : ∀ b ∈ fp, b < sb.heap.objs.size := fun b hb => (TT.obj _ _ stb b hb).elim fun o q => Heap.lt_size q.1
  have fpc : ∀ b ∈ fp, FpOk X pins Hc b ∧ b < sc.heap.objs.size := fun b hb =>
    ⟨⟨by rw [hHc, upd_ne (by rw [hL]; exact Nat.ne_of_lt (small b hb))]; exact (fpb b hb).1, (fpb b hb).2⟩, by rw [heapC, Heap.size_push]; exact Nat.lt_succ_of_lt (small b hb)⟩
  have stc : tn 0 sc.heap := TT.keep _ _ _ stb fun b _ o q => more b o q
  have Id := block_start Ic ok hN fpc
  have pk := hk sc Hc sc.heap.objs.size (blkCells X sc scope) fp
  have pg := hg sc Hc sc.heap.objs.size (blkCells X sc scope) fp
  have pe := he pins σ sc Hc sc.heap.objs.size fp Ic fun b hb => (fpc b hb).1
  show codeAny _ _ (.compStart (.DictComp kx vx [⟨tg, iter, [], 0⟩] scope pos) 0 (.ref it) (.ref L) (compEnvC scope (cellsFrom (({ sb with heap := sb.heap.push { cls := .type "dict", data := .dict #[] } } : Shared).heap.objs.size + 1) scope.names (cloFrom X.env.cells scope.names [])) _ X.env)) _ _
  rw [← hsc]
  obtain ⟨ce, hce⟩ : ∃ ce, ce = compEnvC scope (blkCells X sc scope) sc.heap.objs.size X.env := ⟨_, rfl⟩
  have ceL : ce.locals = sc.heap.objs.size := by rw [hce]; rfl
  rw [← hce] at Id pg pk
  rw [show blkI X sc Hc scope sc.heap.objs.size fp = X.blk sc Hc scope ce fp by rw [hce]] at pe
  show codeAny _ _ (.compStart (.DictComp kx vx [⟨tg, iter, [], 0⟩] scope pos) 0 (.ref it) (.ref L) (compEnvC scope (blkCells X sc scope) sc.heap.objs.size X.env)) (compPost (model X.prog X.w) X.A X.xe use Qf (.ref L) sc.heap.objs.size) { sc with heap := pushCells (sc.heap.push { cls := .type "dict", data := .dict #[] }) scope.names }
  rw [← hce]
  obtain ⟨sd, hsd⟩ : ∃ sd : Shared, sd = { sc with heap := pushCells (sc.heap.push { cls := .type "dict", data := .dict #[] }) scope.names } := ⟨_, rfl⟩
  rw [← hsd] at Id ⊢
  have std : tn 0 sd.heap := TT.keep _ _ _ stc fun b _ o q => by rw [hsd]; exact pushCells_keeps _ _ _ _ (Heap.get?_push_of_some _ q)
  have still : ∀ {σ' : L2.St} {H' : Hp} {s' : Shared}, Inv (X.blk sc Hc scope ce fp) [] σ' H' s' → (∀ b ∈ fp, H' b = none) → ∀ b ∈ fp, FpOk (X.blk sc Hc scope ce fp) [] H' b := fun J no b hb =>
    ⟨no b hb, (J.ok.exf b hb).1, J.ok.exfs b hb, .inl hb, fun y c q => (J.ok.exf b hb).2 y c q, fun p hp => absurd (show p ∈ ([] : List (Addr × Obj)) ++ [] from hp) (by simp)⟩
  have whole : codeAny (model X.prog X.w) X.A (.compLoop (.DictComp kx vx [⟨tg, iter, [], 0⟩] scope pos) 0 (.ref it) (.ref L) ce) (compPost (model X.prog X.w) X.A X.xe use Qf (.ref L) sc.heap.objs.size) sd := by
    refine compLoop_anyD (fun n s' => ∃ i H', Inv (X.blk sc Hc scope ce fp) [] (wipe σ (own.map (·.2))) H' s' ∧ tn i s'.heap ∧ (∀ b ∈ fp, H' b = none) ∧ W i n H') (fun n s1 ⟨i, H1, I1, st1, no1, w1⟩ => ?_) m0 ⟨0, Hc, Id, std, fun b hb => (fpc b hb).1.1, wBegin⟩
    rcases turns i n H1 w1 with ⟨stop, qEnd⟩ | ⟨goes, Nx, later, step⟩
    · refine thnF (TT.done (X.blk sc Hc scope ce fp) rfl rfl rfl hc i [] s1 _ H1 (fun _ _ => False) I1 (still I1 no1) st1 stop) fun r s2 ⟨hr, I2⟩ => ?_
      subst hr
      have back : Inv X pins σ H1 s2 := Ic.call' (ch := fp) I2.os I2.base I2.hok I2.bare fun b hb => ⟨(fpc b hb).1.2.2.2.1, (fpc b hb).1.2.1, (fpc b hb).1.2.2.2.2.1, (fpc b hb).1.2.2.2.2.2⟩
      have noC : H1 sc.heap.objs.size = none := by
        rw [← ceL]
        exact I2.free
      obtain ⟨m, ns, _⟩ := I2.loc
      have ns : s2.heap.Ns ce.locals m := ns
      rw [ceL] at ns
      exact hRR L sc.heap.objs.size s2 m H1 back qEnd ns (Ic.fpOk (Nat.le_refl _) noC)
    · refine thnF (TT.item (X.blk sc Hc scope ce fp) rfl rfl rfl hc i [] s1 _ H1 (fun _ _ => False) I1 (still I1 no1) st1 goes) fun r s2 ⟨u, hr, h2⟩ => ?_
      subst hr
      refine thnF h2 fun _ s3 ⟨x, H3, I3, r3, y3, st3, no3⟩ => ?_
      refine thnF (pg.run _ s3 _ H3 x u _ (I3.pinned (still I3 no3) (TT.obj _ _ st3)) r3 (step x H3 y3)) fun _ s4 ⟨σ4, H4, I4, same, q4⟩ => ?_
      refine wpAny_tests_nil ?_
      simp only [if_true]
      have q4 : (if true = true then tk σ4 H4 _ else Nx H4) := q4
      simp only [if_true] at q4
      refine thnF (pk.run _ s4 σ4 H4 _ I4 q4) fun z0 s4b ⟨y0, H4b, I4b, r4b, q4b⟩ => ?_
      refine thnF (pe.run _ s4b σ4 H4b _ I4b q4b) fun z s5 ⟨y, H5, I5, r5, acc, kk, ek, atL, few, nx⟩ => ?_
      subst ek
      refine d_dictSet (X := X.blk sc Hc scope ce fp) I5 atL few r4b r5 fun s6 I6 => ?_
      obtain ⟨m', less, w'⟩ := later _ nx
      have keep : ∀ b ∈ fp, ∀ o, s3.heap.get? b = some o → s6.heap.get? b = some o ∧ upd H5 L (.dK (putK acc kk y)) b = none := fun b hb o q =>
        have z := I6.pin (b, o) (List.mem_append_right _ (List.mem_append_right _ (mem_pinsAt hb q)))
        ⟨z.1, z.2.1⟩
      refine ⟨m', less, i + 1, _, (I6.unpinned (pins := [])).weak (by rw [← same, wipe_length]) (fun j v q => ?_), TT.keep _ _ _ st3 fun b hb o q => (keep b hb o q).1, fun b hb => ?_, w'⟩
      · rw [← same] at q
        exact (wipe_some q).1
      · obtain ⟨o, q, _⟩ := TT.obj _ _ st3 b hb
        exact (keep b hb o q).2
  exact codeAny_compStart_dict whole (TT.self X.A 0 _ _ _ std whole)
theorem pe_dcI {X : Cx} {kx vx tg iter : Expr} {scope : Scope} {own : List (Str × Nat)} {pos : Pos} {wi : TI} {g : TG} {tk : TE} {te : L2.St → TE} (hc : X.calm = true) (hN : X.N.Nodup) (hi : PI X tg iter wi) (ok : BlkOk X.N X.env.scope scope own)
    (hg : ∀ (s : Shared) (H : Hp) (C : Addr) (cl : List (Str × Addr)) (fp : List Addr), PG (X.blk s H scope (compEnvC scope cl C X.env) fp) tg g)
    (hk : ∀ (s : Shared) (H : Hp) (C : Addr) (cl : List (Str × Addr)) (fp : List Addr), PE (X.blk s H scope (compEnvC scope cl C X.env) fp) kx tk)
    (he : ∀ (pins : List (Addr × Obj)) (σ : L2.St) (s : Shared) (H : Hp) (C : Addr) (fp : List Addr), Inv X pins σ H s → (∀ b ∈ fp, FpOk X pins H b) → PE (blkI X s H scope C fp) vx (te σ)) (hs : ∀ x, foldedSetIterable iter X.env x = pure x := by intro _; rfl) :
    PE X (.DictComp kx vx [⟨tg, iter, [], 0⟩] scope pos) (fun σ H Q => tDc wi g tYes tk (te σ) (own.map (·.2)) σ H Q) := by
  refine ⟨fun pins s σ H Q I h => ?_⟩
  rw [arm_eval_DictComp]
  refine dcI_core hc hN I hi ok hg hk he hs h fun D C s' m H' I' q hn f => ⟨m, hn, fun h'' sb => ?_⟩
  obtain ⟨f0, f1, f2, f3, f4, f5⟩ := f
  exact ⟨.ref D, H', I'.turned (t' := s'.toks) (fun b o hb e => (sb.2 b hb).trans e) f0 f1 f3 f4 f5, rfl, q⟩
/-- name = {..} on one line, the name a local -/
theorem ps_setDcI {X : Cx} {i : Nat} {y : Str} {py spos : Pos} {kx vx tg iter : Expr} {scope : Scope} {own : List (Str × Nat)} {pos : Pos} {wi : TI} {g : TG} {tk : TE} {te : L2.St → TE} (hc : X.calm = true) (hN : X.N.Nodup) (hy : X.N[i]? = some y) (hyl : X.env.scope.names.lookup y = some .local)
    (hsw : swapsWith (.DictComp kx vx [⟨tg, iter, [], 0⟩] scope pos) (some (.Name y py)) spos.line X.env = pure true) (hi : PI X tg iter wi) (ok : BlkOk X.N X.env.scope scope own)
    (hg : ∀ (s : Shared) (H : Hp) (C : Addr) (cl : List (Str × Addr)) (fp : List Addr), PG (X.blk s H scope (compEnvC scope cl C X.env) fp) tg g)
    (hk : ∀ (s : Shared) (H : Hp) (C : Addr) (cl : List (Str × Addr)) (fp : List Addr), PE (X.blk s H scope (compEnvC scope cl C X.env) fp) kx tk)
    (he : ∀ (pins : List (Addr × Obj)) (σ : L2.St) (s : Shared) (H : Hp) (C : Addr) (fp : List Addr), Inv X pins σ H s → (∀ b ∈ fp, FpOk X pins H b) → PE (blkI X s H scope C fp) vx (te σ)) (hs : ∀ x, foldedSetIterable iter X.env x = pure x := by intro _; rfl) :
    PS X (.Assign [.Name y py] (.DictComp kx vx [⟨tg, iter, [], 0⟩] scope pos) spos) (tAsg (fun σ H Q => tDc wi g tYes tk (te σ) (own.map (·.2)) σ H Q) (gName i)) := by
  refine ⟨fun pins s σ H D I h => ?_⟩
  rw [exec_Assign_Name_used _ _ _ _ hsw]
  refine wpAny_bind (wpAny_standAt (wpAny_bind ?_))
  show wpAny _ X.A (do let _ ← comprehension (.DictComp kx vx [⟨tg, iter, [], 0⟩] scope pos) scope X.env (firstIterPos [⟨tg, iter, [], 0⟩] pos) newDict false (eval iter X.env) (some (assign (.Name y py) X.env))) _ _ s
  have h : tDc wi g tYes tk (te σ) (own.map (·.2)) σ H (fun x H1 => gName i x σ H1 D.nx) := h
  refine wpAny_bind (thn (dcI_core (Qf := fun _ s' => SP X pins D .next s') hc hN I hi ok hg hk he hs h fun L C s' m H' I' q hn f => ?_) fun _ s' hq => wpAny_pure (wpAny_pure hq))
  show wpAny _ _ (assign (.Name y py) X.env (.ref L)) _ _ _
  refine wpAny_assign_Name (store_ok2 (v := V.ref L) I' hN hy (.inl hyl) rfl (fun s2 I2 ⟨a, sb, ha⟩ => ?_) (.inr hyl))
  obtain ⟨f0, f1, f2, f3, f4, f5⟩ := f
  have haC : C ≠ a := by
    rcases ha with z | z
    · rw [z]; exact f1
    · exact fun e => f4 y a z e.symm
  refine ⟨m, hn.sameBut sb haC, fun h3 sb3 => ?_⟩
  exact ⟨_, H', I2.turned (t' := s2.toks) (fun b o hb e => (sb3.2 b hb).trans e) f0 f1 f3 f4 f5, q⟩
theorem sw_trueD {kx vx : Expr} {gs : List Comprehension} {scope : Scope} {pos py : Pos} {y : Str} {l : Nat} {env : Env} (hk : env.scope.kind = .function) (hy : env.scope.names.lookup y = some .local) (hl : (py.line == pos.line) = true)
    (ha : (scope.names.any fun (n, k) => n == y && (k == .local || k == .cell)) = false) : swapsWith (.DictComp kx vx gs scope pos) (some (.Name y py)) l env = pure true := by
  have ky : env.kindOf y = some .local := hy
  have hb : env.blockKind = .function := by unfold Env.blockKind; rw [hk]; rfl
  unfold swapsWith
  simp only [hb, ky, ha, Expr.pos, hl]
  rfl
end LamB

set_option maxRecDepth 100000
set_option maxHeartbeats 4000000
namespace L2
open PySem PySem.Spec PyProof.Rows
/-- {k: v}, the key a tuple; the new dict stands empty while the pair is made -/
def tDisp1T (tk tv : TE) : TE := fun σ H Q => ∀ p, H p = none → tk σ (upd H p (.dT [])) fun x H1 => tv σ H1 fun y H2 => H2 p = some (.dT []) ∧
  ∃ (b : Addr) (ks : List Key), x = .ref b ∧ H2 b = some (.tup (ks.map kV)) ∧ Q (.ref p) (upd H2 p (.dT [(ks, y)]))
theorem pe_disp1T {X : Cx} {pos : Pos} {k v : Expr} {tk tv : TE} (hu : X.A.units + 1 < cLine) (hk : PE X k tk) (hv : PE X v tv) : PE X (.Dict [some k] [v] pos) (tDisp1T tk tv) := by
  refine ⟨fun pins s σ H Q I q => ?_⟩
  have hn := I.hok.fresh (Nat.le_refl s.heap.objs.size)
  have I1 := I.laid (a := s.heap.objs.size) (o := .dT []) (h' := s.heap.push { cls := .type "dict", data := .dict #[] }) (t' := s.toks) (fun _ _ q => Heap.get?_push_of_some _ q) (Nat.le_refl _) (dt_empty s.heap I.big)
  rw [arm_eval_Dict, zip_pairTrees [some k] [v] X.env pos (by simp) rfl, dictDisplay_pairs _ (by simp [pairTrees]) (by simp [pairTrees])]
  refine wpAny_bind (wpAny_standAt (wpAny_bind ?_))
  unfold subDict
  refine wpAny_bind (wpAny_alloc ?_)
  refine wpAny_bind (wpAny_holding ?_)
  rw [if_pos (by simp [pairTrees])]
  refine wpAny_bind (pairTrees_cons_walk (thn (hk.run pins _ σ _ _ I1 (q _ hn)) fun u s1 ⟨x, H1, I2, rx, q1⟩ => thn (hv.run pins s1 σ H1 _ I2 q1) fun w2 s2 ⟨y, H2, I3, ry, e, b, ks, ex, eb, q2⟩ => pairTrees_nil_walk ?_))
  subst ex
  cases (show u = Value.ref b from rx)
  obtain ⟨z, hd, xs, rel, dd⟩ := dt_of I3.hok e
  have x0 : xs = [] := by
    have := Paired.length rel
    exact List.length_eq_zero_iff.mp this.symm
  subst x0
  refine wpAny_holding ?_
  rw [List.forIn_cons]
  refine wpAny_bind (wpAny_bind (wpAny_bind (wpAny_dictSet_heap (hsz := Nat.zero_le _) (show (tupleKind (mixKind X.prog X.w)).room X.A from by show X.A.units < cLine; omega) (key_of I3.hok eb) dd fun h' dd' hs => wpAny_pure ?_)))
  show wpAny _ _ (forIn [] PUnit.unit _) _ _ _
  rw [List.forIn_nil]
  refine wpAny_pure (wpAny_pure (wpAny_pure (wpAny_pure ⟨.ref s.heap.objs.size, _, ?_, rfl, q2⟩)))
  obtain ⟨qo, es, ep, hq, h2, h3, h4, _, h5⟩ := dd'
  refine d_write I3 (by rw [e]; exact True.intro) hs ⟨qo, hq⟩ ⟨by rw [sizeLine_eq]; show 1 ≤ _; omega, hd, _, (KT.put rel ks eb ry).keeps fun c ys ec => ?_, qo, es, ep, hq, h2, h3, h4, h5⟩
  rw [upd_ne (ne_of ec e (fun z => nomatch z))]
  exact ec
end L2

set_option maxRecDepth 100000
set_option maxHeartbeats 4000000
/-! things in groups: each leads to another of its group, the last one to itself. Plain mathematics -/
namespace Wk
def put (ls : Nat → Nat) (k v : Nat) : Nat → Nat := fun i => if i = k then v else ls i
theorem put_same (ls : Nat → Nat) (k v : Nat) : put ls k v k = v := if_pos rfl
theorem put_ne {ls : Nat → Nat} {k v i : Nat} (h : i ≠ k) : put ls k v i = ls i := if_neg h
structure Rep (n : Nat) (ls rank rep : Nat → Nat) : Prop where
  lt : ∀ i, i < n → ls i < n
  rlt : ∀ i, i < n → rep i < n
  up : ∀ i, i < n → rep (ls i) = rep i
  own : ∀ i, i < n → ls i = i → rep i = i
  dn : ∀ i, i < n → ls i ≠ i → rank (ls i) < rank i
theorem Rep.root {n : Nat} {ls rank rep : Nat → Nat} (r : Rep n ls rank rep) : ∀ (m i : Nat), rank i ≤ m → i < n → ls (rep i) = rep i ∧ rep (rep i) = rep i
  | m, i, hm, hi => by
    by_cases h : ls i = i
    · have := r.own i hi h
      rw [this]
      exact ⟨h, this⟩
    · have d := r.dn i hi h
      cases m with
      | zero => omega
      | succ m =>
        have := Rep.root r m (ls i) (by omega) (r.lt i hi)
        rw [r.up i hi] at this
        exact this
theorem Rep.root' {n : Nat} {ls rank rep : Nat → Nat} (r : Rep n ls rank rep) {i : Nat} (hi : i < n) : ls (rep i) = rep i ∧ rep (rep i) = rep i := r.root _ i (Nat.le_refl _) hi
theorem Rep.half {n : Nat} {ls rank rep : Nat → Nat} (r : Rep n ls rank rep) {i : Nat} (hi : i < n) (h : ls i ≠ i) :
    Rep n (put ls i (ls (ls i))) rank rep ∧ rank (ls (ls i)) < rank i ∧ rep (ls (ls i)) = rep i := by
  have h1 := r.dn i hi h
  have hl := r.lt i hi
  have h2 : rank (ls (ls i)) < rank i := by
    by_cases z : ls (ls i) = ls i
    · rw [z]
      exact h1
    · have := r.dn _ hl z
      omega
  have h3 : rep (ls (ls i)) = rep i := by rw [r.up _ hl, r.up i hi]
  refine ⟨⟨fun j hj => ?_, r.rlt, fun j hj => ?_, fun j hj e => ?_, fun j hj e => ?_⟩, h2, h3⟩
  · by_cases z : j = i
    · subst z
      rw [put_same]
      exact r.lt _ hl
    · rw [put_ne z]
      exact r.lt j hj
  · by_cases z : j = i
    · subst z
      rw [put_same]
      exact h3
    · rw [put_ne z]
      exact r.up j hj
  · by_cases z : j = i
    · subst z
      rw [put_same] at e
      rw [e] at h2
      omega
    · rw [put_ne z] at e
      exact r.own j hj e
  · by_cases z : j = i
    · subst z
      rw [put_same]
      exact h2
    · rw [put_ne z] at e ⊢
      exact r.dn j hj e
def joinR (rep : Nat → Nat) (a b : Nat) : Nat → Nat := fun i => if rep i = b then a else rep i
theorem Rep.join {n : Nat} {ls rank rep : Nat → Nat} (r : Rep n ls rank rep) {a b : Nat} (ha : a < n) (hb : b < n) (ea : rep a = a) (eb : rep b = b) : ∃ rank', Rep n (put ls b a) rank' (joinR rep a b) := by
  by_cases ab : a = b
  · subst ab
    have l : ls a = a := by
      have := (r.root' ha).1
      rw [ea] at this
      exact this
    have e1 : put ls a a = ls := by
      funext i
      unfold put
      split
      · rename_i z
        rw [z, l]
      · rfl
    have e2 : joinR rep a a = rep := by
      funext i
      unfold joinR
      split
      · rename_i z
        exact z.symm
      · rfl
    rw [e1, e2]
    exact ⟨rank, r⟩
  · have ra : joinR rep a b a = a := by
      unfold joinR
      rw [ea, if_neg ab]
    have rb : joinR rep a b b = a := by
      unfold joinR
      rw [eb, if_pos rfl]
    refine ⟨fun i => if rep i = b then rank i + rank a + 1 else rank i, ⟨fun j hj => ?_, fun j hj => ?_, fun j hj => ?_, fun j hj e => ?_, fun j hj e => ?_⟩⟩
    · by_cases z : j = b
      · subst z
        rw [put_same]
        exact ha
      · rw [put_ne z]
        exact r.lt j hj
    · unfold joinR
      split
      · exact ha
      · exact r.rlt j hj
    · by_cases z : j = b
      · subst z
        rw [put_same, ra, rb]
      · rw [put_ne z]
        unfold joinR
        rw [r.up j hj]
    · by_cases z : j = b
      · subst z
        rw [put_same] at e
        exact absurd e ab
      · rw [put_ne z] at e
        have := r.own j hj e
        unfold joinR
        rw [this, if_neg z]
    · by_cases z : j = b
      · subst z
        rw [put_same]
        show (if rep a = j then rank a + rank a + 1 else rank a) < (if rep j = j then rank j + rank a + 1 else rank j)
        rw [ea, if_neg ab, eb, if_pos rfl]
        omega
      · rw [put_ne z] at e ⊢
        have d := r.dn j hj e
        show (if rep (ls j) = b then rank (ls j) + rank a + 1 else rank (ls j)) < (if rep j = b then rank j + rank a + 1 else rank j)
        rw [r.up j hj]
        split <;> omega
/-- how many groups there are -/
def groups (n : Nat) (rep : Nat → Nat) : Nat := (List.range n).countP fun i => decide (rep i = i)
theorem groups_le (n : Nat) (rep : Nat → Nat) : groups n rep ≤ n := by
  have := List.countP_le_length (p := fun i => decide (rep i = i)) (l := List.range n)
  rw [List.length_range] at this
  exact this
theorem count_less {b : Nat} {p q : Nat → Bool} (hb : p b = true) (hq : q b = false) (he : ∀ i, i ≠ b → q i = p i) : ∀ l : List Nat, l.Nodup → b ∈ l → l.countP q + 1 = l.countP p
  | [], _, h => nomatch h
  | x :: l, nd, h => by
    rw [List.nodup_cons] at nd
    have out : ∀ m : List Nat, b ∉ m → m.countP q = m.countP p := fun m hm => List.countP_congr fun y hy => by rw [he y (fun z => hm (z ▸ hy))]
    by_cases z : x = b
    · subst z
      rw [List.countP_cons_of_pos hb, List.countP_cons_of_neg (by rw [hq]; simp), out l nd.1]
    · have hm : b ∈ l := (List.mem_cons.mp h).elim (fun y => absurd y.symm z) id
      have ih := count_less hb hq he l nd.2 hm
      rw [List.countP_cons, List.countP_cons, he x z]
      omega
theorem groups_join {n : Nat} {ls rank rep : Nat → Nat} (r : Rep n ls rank rep) {a b : Nat} (hb : b < n) (ea : rep a = a) (eb : rep b = b) (ab : a ≠ b) : groups n (joinR rep a b) + 1 = groups n rep := by
  refine count_less (b := b) (decide_eq_true eb) ?_ (fun i hi => ?_) _ List.nodup_range (List.mem_range.mpr hb)
  · refine decide_eq_false ?_
    unfold joinR
    rw [eb, if_pos rfl]
    exact ab
  · refine decide_eq_decide.mpr ?_
    unfold joinR
    by_cases z : rep i = b
    · rw [if_pos z]
      constructor
      · intro y
        rw [← y, ea] at z
        exact absurd z ab
      · intro y
        rw [z] at y
        exact absurd y.symm hi
    · rw [if_neg z]
theorem Rep.start (n : Nat) : Rep n (fun i => i) (fun _ => 0) (fun i => i) := ⟨fun _ h => h, fun _ h => h, fun _ _ => rfl, fun _ _ _ => rfl, fun _ _ h => absurd rfl h⟩
end Wk

set_option maxRecDepth 100000
set_option maxHeartbeats 4000000
/-! breadth first: what is found first is reached by the least word. Words are rows of answers below B; num: the shorter first, then by their order. Plain mathematics -/
namespace Wk
def num (B : Nat) (w : List Nat) : Nat := w.foldl (fun n k => n * B + k) 1
theorem fold_app (B : Nat) : ∀ (s : List Nat) (a b : Nat), a ≤ b → s.foldl (fun n k => n * B + k) a ≤ s.foldl (fun n k => n * B + k) b
  | [], _, _, h => h
  | k :: s, a, b, h => fold_app B s _ _ (Nat.add_le_add_right (Nat.mul_le_mul_right B h) k)
theorem num_app (B : Nat) (w s : List Nat) : num B (w ++ s) = s.foldl (fun n k => n * B + k) (num B w) := List.foldl_append ..
theorem num_mono {B : Nat} {a b : List Nat} (h : num B a ≤ num B b) (s : List Nat) : num B (a ++ s) ≤ num B (b ++ s) := by
  rw [num_app, num_app]
  exact fold_app B s _ _ h
theorem fold_ge {B : Nat} (hB : 1 ≤ B) : ∀ (s : List Nat) (a : Nat), a ≤ s.foldl (fun n k => n * B + k) a
  | [], a => Nat.le_refl a
  | k :: s, a => by
    refine Nat.le_trans ?_ (fold_ge hB s (a * B + k))
    have := Nat.mul_le_mul_left a hB
    omega
theorem num_le {B : Nat} (hB : 1 ≤ B) (w s : List Nat) : num B w ≤ num B (w ++ s) := by
  rw [num_app]
  exact fold_ge hB s _
theorem num_pre {B : Nat} (hB : 1 ≤ B) (w : List Nat) {s t : List Nat} (h : s <+: t) : num B (w ++ s) ≤ num B (w ++ t) := by
  obtain ⟨u, rfl⟩ := h
  rw [← List.append_assoc]
  exact num_le hB _ _
theorem num_snoc (B : Nat) (w : List Nat) (k : Nat) : num B (w ++ [k]) = num B w * B + k := by
  rw [num_app]
  rfl
theorem fold_lo {B : Nat} : ∀ (s : List Nat) (a : Nat), a * B ^ s.length ≤ s.foldl (fun n k => n * B + k) a
  | [], a => by simp
  | k :: s, a => by
    refine Nat.le_trans ?_ (fold_lo s (a * B + k))
    rw [List.length_cons, Nat.pow_succ, Nat.mul_comm (B ^ s.length) B, ← Nat.mul_assoc]
    exact Nat.mul_le_mul_right _ (Nat.le_add_right _ _)
theorem fold_hi {B : Nat} : ∀ (s : List Nat) (a : Nat), (∀ k ∈ s, k < B) → s.foldl (fun n k => n * B + k) a < (a + 1) * B ^ s.length
  | [], a, _ => by simp
  | k :: s, a, h => by
    have h1 := fold_hi s (a * B + k) fun x hx => h x (List.mem_cons_of_mem _ hx)
    have hk := h k List.mem_cons_self
    refine Nat.lt_of_lt_of_le h1 ?_
    rw [List.length_cons, Nat.pow_succ, Nat.mul_comm (B ^ s.length) B, ← Nat.mul_assoc]
    refine Nat.mul_le_mul_right _ ?_
    rw [Nat.add_mul]
    omega
/-- a longer word is greater -/
theorem num_len {B : Nat} (hB : 2 ≤ B) {w v : List Nat} (hw : ∀ k ∈ w, k < B) (h : w.length < v.length) : num B w < num B v := by
  have h1 := fold_hi w 1 hw
  have h2 := fold_lo (B := B) v 1
  have h3 : B ^ (w.length + 1) ≤ B ^ v.length := Nat.pow_le_pow_right (by omega) h
  rw [Nat.pow_succ] at h3
  have h4 : (1 + 1) * B ^ w.length ≤ B ^ w.length * B := by
    rw [Nat.mul_comm (B ^ w.length) B]
    exact Nat.mul_le_mul_right _ hB
  show w.foldl _ 1 < v.foldl _ 1
  omega
theorem len_of_num {B : Nat} (hB : 2 ≤ B) {w v : List Nat} (hv : ∀ k ∈ v, k < B) (h : num B w ≤ num B v) : w.length ≤ v.length := by
  by_cases z : w.length ≤ v.length
  · exact z
  · have := num_len hB hv (show v.length < w.length by omega)
    omega
theorem num_inj {B : Nat} (hB : 2 ≤ B) : ∀ (n : Nat) (w v : List Nat), w.length = n → (∀ k ∈ w, k < B) → (∀ k ∈ v, k < B) → num B w = num B v → w = v
  | 0, w, v, hl, hw, hv, e => by
    have w0 : w = [] := List.length_eq_zero_iff.mp hl
    subst w0
    have := len_of_num hB hw (Nat.le_of_eq e.symm)
    exact (List.length_eq_zero_iff.mp (by simpa using this)).symm
  | n + 1, w, v, hl, hw, hv, e => by
    have l1 := len_of_num hB hw (Nat.le_of_eq e.symm)
    have l2 := len_of_num hB hv (Nat.le_of_eq e)
    have ll : v.length = w.length := by omega
    have hw0 : w ≠ [] := fun z => by rw [z] at hl; simp at hl
    have hv0 : v ≠ [] := fun z => by rw [z] at ll; simp at ll; omega
    have dw := List.dropLast_concat_getLast hw0
    have dv := List.dropLast_concat_getLast hv0
    have bw := hw _ (List.getLast_mem hw0)
    have bv := hv _ (List.getLast_mem hv0)
    generalize w.getLast hw0 = k at dw bw
    generalize v.getLast hv0 = l at dv bv
    rw [← dw, ← dv, num_snoc, num_snoc] at e
    have e1 : num B w.dropLast = num B v.dropLast := by
      have h1 : (num B w.dropLast * B + k) / B = num B w.dropLast := by
        rw [Nat.mul_comm, Nat.mul_add_div (by omega), Nat.div_eq_of_lt bw, Nat.add_zero]
      have h2 : (num B v.dropLast * B + l) / B = num B v.dropLast := by
        rw [Nat.mul_comm, Nat.mul_add_div (by omega), Nat.div_eq_of_lt bv, Nat.add_zero]
      rw [← h1, ← h2, e]
    rw [e1] at e
    have e2 : k = l := by omega
    have := num_inj hB n w.dropLast v.dropLast (by rw [List.length_dropLast]; omega) (fun x hx => hw x (List.dropLast_subset _ hx)) (fun x hx => hv x (List.dropLast_subset _ hx)) e1
    rw [← dw, ← dv, this, e2]
section
variable {S : Type} (suc : S → Nat → Option S) (bad : S → Prop)
/-- behind this word, and not ahead, things are bad -/
def Diff : S → List Nat → Prop
  | p, [] => bad p
  | p, k :: s => ¬ bad p ∧ ∃ c, suc p k = some c ∧ Diff c s
variable {suc bad}
theorem Diff.digits {B : Nat} (hS : ∀ p k c, suc p k = some c → k < B) : ∀ {s : List Nat} {p : S}, Diff suc bad p s → ∀ k ∈ s, k < B
  | [], _, _, _, h => nomatch h
  | k :: s, p, ⟨_, c, e, d⟩, x, hx => by
    rcases List.mem_cons.mp hx with z | z
    · rw [z]
      exact hS _ _ _ e
    · exact Diff.digits hS d x z
/-- the things that are met, each with the word that led to it; those ahead of d are gone through -/
structure Bfs (B : Nat) (suc : S → Nat → Option S) (bad : S → Prop) (p0 : S) (cap : Nat) (met : List S) (acc : List (List Nat)) (d m : Nat) : Prop where
  len : acc.length = met.length
  at0 : met[0]? = some p0 ∧ acc[0]? = some []
  dig : ∀ w ∈ acc, ∀ k ∈ w, k < B
  run : ∀ (i : Nat) (p : S) (w : List Nat), met[i]? = some p → acc[i]? = some w → ∀ s, Diff suc bad p s → Diff suc bad p0 (w ++ s)
  inc : ∀ (i j : Nat) (w v : List Nat), i < j → acc[i]? = some w → acc[j]? = some v → num B w < num B v
  bnd : ∀ (i : Nat) (w v : List Nat), acc[i]? = some w → acc[d]? = some v → num B w < num B v * B + m
  ok : ∀ (i : Nat) (p : S), i < d → met[i]? = some p → ¬ bad p
  cov : ∀ (i : Nat) (p : S) (w : List Nat) (k : Nat) (c : S), (i < d ∨ (i = d ∧ k < m)) → met[i]? = some p → acc[i]? = some w → suc p k = some c → w.length < cap → ∀ s, Diff suc bad c s →
    ∃ (j : Nat) (q : S) (v s' : List Nat), met[j]? = some q ∧ acc[j]? = some v ∧ num B v ≤ num B (w ++ [k]) ∧ Diff suc bad q s' ∧ s' <+: s
variable {B cap d m : Nat} {p0 : S} {met : List S} {acc : List (List Nat)}
theorem Bfs.start (hB : 2 ≤ B) : Bfs B suc bad p0 cap [p0] [[]] 0 0 where
  len := rfl
  at0 := ⟨rfl, rfl⟩
  dig := fun w hw k hk => by rw [List.mem_singleton.mp hw] at hk; exact nomatch hk
  run := fun i p w h1 h2 s h => by
    match i with
    | 0 =>
      have e1 := Option.some.inj h1
      have e2 := Option.some.inj h2
      subst e1 e2
      exact h
    | i + 1 => simp at h1
  inc := fun i j w v hij _ h2 => by
    match j with
    | 0 => omega
    | j + 1 => simp at h2
  bnd := fun i w v h1 h2 => by
    match i with
    | 0 =>
      have e1 := Option.some.inj h1
      have e2 := Option.some.inj h2
      subst e1 e2
      show 1 < 1 * B + 0
      omega
    | i + 1 => simp at h1
  ok := fun i p h => absurd h (Nat.not_lt_zero i)
  cov := fun i p w k c h => by omega
/-- a thing that is new is taken -/
theorem Bfs.push (h : Bfs B suc bad p0 cap met acc d m) {p c : S} {w : List Nat} (ep : met[d]? = some p) (ew : acc[d]? = some w) (np : ¬ bad p) (es : suc p m = some c) (hm : m < B) : Bfs B suc bad p0 cap (met ++ [c]) (acc ++ [w ++ [m]]) d (m + 1) := by
  have hd : d < met.length := (List.getElem?_eq_some_iff.mp ep).1
  have hl := h.len
  have old : ∀ {i : Nat} {x : S}, i < met.length → ((met ++ [c])[i]? = some x ↔ met[i]? = some x) := fun {i x} hi => by rw [List.getElem?_append_left hi]
  have olda : ∀ {i : Nat} {x : List Nat}, i < met.length → ((acc ++ [w ++ [m]])[i]? = some x ↔ acc[i]? = some x) := fun {i x} hi => by rw [List.getElem?_append_left (by omega)]
  have lt : ∀ {i : Nat} {x : List Nat}, (acc ++ [w ++ [m]])[i]? = some x → i < met.length ∨ (i = met.length ∧ x = w ++ [m]) := fun {i x} e => by
    by_cases z : i < met.length
    · exact .inl z
    · have := (List.getElem?_eq_some_iff.mp e).1
      rw [List.length_append] at this
      have hi : i = met.length := by
        simp at this
        omega
      subst hi
      rw [← hl, List.getElem?_append_right (Nat.le_refl _), Nat.sub_self] at e
      exact .inr ⟨rfl, (Option.some.inj e).symm⟩
  have newm : (met ++ [c])[met.length]? = some c := by rw [List.getElem?_append_right (Nat.le_refl _), Nat.sub_self]; rfl
  have newa : (acc ++ [w ++ [m]])[met.length]? = some (w ++ [m]) := by rw [← hl, List.getElem?_append_right (Nat.le_refl _), Nat.sub_self]; rfl
  have code : num B (w ++ [m]) = num B w * B + m := num_snoc B w m
  refine ⟨by rw [List.length_append, List.length_append, hl]; rfl, ⟨(old (by omega)).mpr h.at0.1, (olda (by omega)).mpr h.at0.2⟩, fun x hx k hk => ?_, fun i q v e1 e2 s ds => ?_, fun i j x y hij e1 e2 => ?_, fun i x y e1 e2 => ?_, fun i q hi e => h.ok i q hi ((old (by omega)).mp e), fun i q v k c' hi e1 e2 ec hc s ds => ?_⟩
  · rcases List.mem_append.mp hx with z | z
    · exact h.dig x z k hk
    · rw [List.mem_singleton.mp z] at hk
      rcases List.mem_append.mp hk with y | y
      · exact h.dig w (List.mem_of_getElem? ew) k y
      · rw [List.mem_singleton.mp y]
        exact hm
  · rcases lt e2 with z | ⟨z, rfl⟩
    · exact h.run i q v ((old z).mp e1) ((olda z).mp e2) s ds
    · subst z
      rw [newm] at e1
      have := Option.some.inj e1
      subst this
      rw [List.append_assoc]
      exact h.run d p w ep ew (m :: s) ⟨np, c, es, ds⟩
  · rcases lt e2 with z | ⟨z, rfl⟩
    · exact h.inc i j x y hij ((olda (by omega)).mp e1) ((olda z).mp e2)
    · subst z
      rw [code]
      exact h.bnd i x w ((olda hij).mp e1) ew
  · have e2' := (olda hd).mp e2
    rw [ew] at e2'
    have := Option.some.inj e2'
    subst this
    rcases lt e1 with z | ⟨z, rfl⟩
    · have := h.bnd i x w ((olda z).mp e1) ew
      omega
    · rw [code]
      omega
  · have hi' : i < met.length := by omega
    have e1' := (old hi').mp e1
    have e2' := (olda hi').mp e2
    by_cases z : i = d ∧ k = m
    · obtain ⟨rfl, rfl⟩ := z
      rw [ep] at e1'
      rw [ew] at e2'
      have := Option.some.inj e1'
      subst this
      have := Option.some.inj e2'
      subst this
      rw [es] at ec
      have := Option.some.inj ec
      subst this
      exact ⟨_, _, _, s, newm, newa, Nat.le_refl _, ds, List.prefix_refl s⟩
    · obtain ⟨j, q', v', s', k1, k2, k3, k4, k5⟩ := h.cov i q v k c' (by omega) e1' e2' ec hc s ds
      have hj : j < met.length := (List.getElem?_eq_some_iff.mp k1).1
      exact ⟨j, q', v', s', (old hj).mpr k1, (olda hj).mpr k2, k3, k4, k5⟩
/-- a thing is left out, since what parts it parts something met, too -/
theorem Bfs.skip (h : Bfs B suc bad p0 cap met acc d m) {p : S} {w : List Nat} (ep : met[d]? = some p) (ew : acc[d]? = some w)
    (hc : ∀ c, suc p m = some c → w.length < cap → ∀ s, Diff suc bad c s → ∃ (j : Nat) (q : S) (s' : List Nat), met[j]? = some q ∧ Diff suc bad q s' ∧ s' <+: s) : Bfs B suc bad p0 cap met acc d (m + 1) := by
  refine ⟨h.len, h.at0, h.dig, h.run, h.inc, fun i x y e1 e2 => by have := h.bnd i x y e1 e2; omega, h.ok, fun i q v k c' hi e1 e2 ec hcap s ds => ?_⟩
  by_cases z : i = d ∧ k = m
  · obtain ⟨rfl, rfl⟩ := z
    rw [ep] at e1
    rw [ew] at e2
    have := Option.some.inj e1
    subst this
    have := Option.some.inj e2
    subst this
    obtain ⟨j, q', s', k1, k2, k3⟩ := hc c' ec hcap s ds
    have hj : j < acc.length := by
      rw [h.len]
      exact (List.getElem?_eq_some_iff.mp k1).1
    have ej : acc[j]? = some acc[j] := List.getElem?_eq_getElem hj
    refine ⟨j, q', _, s', k1, ej, ?_, k2, k3⟩
    rw [num_snoc]
    exact Nat.le_of_lt (h.bnd j _ _ ej ew)
  · exact h.cov i q v k c' (by omega) e1 e2 ec hcap s ds
/-- all its answers are gone through -/
theorem Bfs.next (hB : 2 ≤ B) (h : Bfs B suc bad p0 cap met acc d m) {p : S} {w : List Nat} (ep : met[d]? = some p) (ew : acc[d]? = some w) (np : ¬ bad p) (hm : m ≤ B)
    (hs : ∀ k c, m ≤ k → suc p k = some c → cap ≤ w.length) : Bfs B suc bad p0 cap met acc (d + 1) 0 := by
  refine ⟨h.len, h.at0, h.dig, h.run, h.inc, fun i x y e1 e2 => ?_, fun i q hi e => ?_, fun i q v k c' hi e1 e2 ec hcap s ds => ?_⟩
  · have b1 := h.bnd i x w e1 ew
    have b2 := h.inc d (d + 1) w y (Nat.lt_succ_self d) ew e2
    have b3 : (num B w + 1) * B ≤ num B y * B := Nat.mul_le_mul_right B b2
    rw [Nat.add_mul] at b3
    omega
  · by_cases z : i = d
    · subst z
      rw [ep] at e
      have := Option.some.inj e
      subst this
      exact np
    · exact h.ok i q (by omega) e
  · by_cases z : i = d
    · subst z
      rw [ep] at e1
      rw [ew] at e2
      have := Option.some.inj e1
      subst this
      have := Option.some.inj e2
      subst this
      by_cases km : k < m
      · exact h.cov i p w k c' (.inr ⟨rfl, km⟩) ep ew ec hcap s ds
      · have := hs k c' (by omega) ec
        omega
    · exact h.cov i q v k c' (.inl (by omega)) e1 e2 ec hcap s ds
/-- what is bad first is reached by the least word -/
theorem Bfs.least (hB : 2 ≤ B) (hS : ∀ p k c, suc p k = some c → k < B) (h : Bfs B suc bad p0 cap met acc d m) {q : S} {v : List Nat} (eq : met[d]? = some q) (ev : acc[d]? = some v) (hq : bad q) (hv : v.length ≤ cap) :
    Diff suc bad p0 v ∧ ∀ u, Diff suc bad p0 u → num B v ≤ num B u := by
  have dv : ∀ k ∈ v, k < B := h.dig v (List.mem_of_getElem? ev)
  have main : ∀ (n : Nat) (s : List Nat) (j : Nat) (p : S) (w : List Nat), s.length ≤ n → met[j]? = some p → acc[j]? = some w → Diff suc bad p s → num B v ≤ num B (w ++ s) := by
    intro n
    induction n with
    | zero =>
      intro s j p w hn ep ew ds
      have : s = [] := List.length_eq_zero_iff.mp (by omega)
      subst this
      rw [List.append_nil]
      by_cases z : j < d
      · exact absurd ds (h.ok j p z ep)
      · by_cases y : j = d
        · subst y
          rw [ev] at ew
          have := Option.some.inj ew
          rw [this]
          exact Nat.le_refl _
        · exact Nat.le_of_lt (h.inc d j v w (by omega) ev ew)
    | succ n ih =>
      intro s j p w hn ep ew ds
      match s, ds with
      | [], ds => exact ih [] j p w (by simp) ep ew ds
      | k :: s, ⟨np, c, ec, dc⟩ =>
        by_cases z : j < d
        · by_cases hc : w.length < cap
          · obtain ⟨j', q', v', s', k1, k2, k3, k4, k5⟩ := h.cov j p w k c (.inl z) ep ew ec hc s dc
            have l5 := k5.length_le
            have := ih s' j' q' v' (by simp at hn; omega) k1 k2 k4
            refine Nat.le_trans this (Nat.le_trans (num_mono k3 s') ?_)
            have e : w ++ k :: s = (w ++ [k]) ++ s := by simp
            rw [e]
            exact num_pre (by omega) _ k5
          · refine Nat.le_of_lt (num_len hB dv ?_)
            rw [List.length_append, List.length_cons]
            omega
        · refine Nat.le_trans ?_ (num_le (by omega) w (k :: s))
          by_cases y : j = d
          · subst y
            rw [ev] at ew
            have := Option.some.inj ew
            rw [this]
            exact Nat.le_refl _
          · exact Nat.le_of_lt (h.inc d j v w (by omega) ev ew)
  refine ⟨?_, fun u du => ?_⟩
  · have := h.run d q v eq ev [] hq
    rw [List.append_nil] at this
    exact this
  · exact main u.length u 0 p0 [] (Nat.le_refl _) h.at0.1 h.at0.2 du
/-- where nothing is bad, nothing is within so many answers -/
theorem Bfs.none (hB : 2 ≤ B) (hS : ∀ p k c, suc p k = some c → k < B) (h : Bfs B suc bad p0 cap met acc met.length m) : ∀ u, Diff suc bad p0 u → cap < u.length := by
  have main : ∀ (n : Nat) (s : List Nat) (j : Nat) (p : S) (w : List Nat), s.length ≤ n → met[j]? = some p → acc[j]? = some w → Diff suc bad p s → cap < (w ++ s).length := by
    intro n
    induction n with
    | zero =>
      intro s j p w hn ep ew ds
      have : s = [] := List.length_eq_zero_iff.mp (by omega)
      subst this
      exact absurd ds (h.ok j p (List.getElem?_eq_some_iff.mp ep).1 ep)
    | succ n ih =>
      intro s j p w hn ep ew ds
      match s, ds with
      | [], ds => exact ih [] j p w (by simp) ep ew ds
      | k :: s, ⟨np, c, ec, dc⟩ =>
        rw [List.length_append, List.length_cons]
        by_cases hc : w.length < cap
        · obtain ⟨j', q', v', s', k1, k2, k3, k4, k5⟩ := h.cov j p w k c (.inl (List.getElem?_eq_some_iff.mp ep).1) ep ew ec hc s dc
          have l5 := k5.length_le
          have := ih s' j' q' v' (by simp at hn; omega) k1 k2 k4
          rw [List.length_append] at this
          have hk : ∀ x ∈ w ++ [k], x < B := fun x hx => by
            rcases List.mem_append.mp hx with z | z
            · exact h.dig w (List.mem_of_getElem? ew) x z
            · rw [List.mem_singleton.mp z]
              exact hS _ _ _ ec
          have l3 := len_of_num hB hk k3
          rw [List.length_append] at l3
          simp at l3
          omega
        · omega
  exact fun u du => by simpa using main u.length u 0 p0 [] (Nat.le_refl _) h.at0.1 h.at0.2 du
end
end Wk

set_option maxRecDepth 100000
set_option maxHeartbeats 4000000
namespace Mine
open PySem L2
/-! where a walk lands that goes on at most so often -/
theorem stp_at {rs : List RowD} (ok : GoOk rs) {i : Nat} (hi : i < rs.length) (t : Nat) (h : isGo rs (way rs t i) = false) : stp rs i = way rs t i := by
  have lt : way rs t i < rs.length := Mach.itr_lt (nxt_lt ok) t i hi
  rw [← stp_way ok t i hi]
  exact Mach.stop_fix (nxt_lt ok) lt (nxt_fix h)
theorem all_go {rs : List RowD} (ok : GoOk rs) {i : Nat} (hi : i < rs.length) (h : ∀ t, t ≤ rs.length → isGo rs (way rs t i) = true) : ∀ t, isGo rs (way rs t i) = true := by
  obtain ⟨a, b, ab, bn, e⟩ := Mach.again (nxt_lt ok) hi
  intro t
  induction t using Nat.strongRecOn with
  | _ t ih =>
    by_cases z : t ≤ rs.length
    · exact h t z
    · have e1 : way rs t i = way rs (t - (b - a)) i := by
        have h1 : way rs t i = Mach.itr (nxt rs) (t - b) (way rs b i) := by
          have := Mach.itr_add (nxt rs) b (t - b) i
          rw [show b + (t - b) = t by omega] at this
          exact this
        have h2 : way rs (t - (b - a)) i = Mach.itr (nxt rs) (t - b) (way rs a i) := by
          have := Mach.itr_add (nxt rs) a (t - b) i
          rw [show a + (t - b) = t - (b - a) by omega] at this
          exact this
        rw [h1, h2]
        show Mach.itr _ _ (Mach.itr _ _ _) = Mach.itr _ _ (Mach.itr _ _ _)
        rw [e]
      rw [e1]
      exact ih _ (by omega)
theorem stp_go {rs : List RowD} (ok : GoOk rs) {i : Nat} (hi : i < rs.length) (h : ∀ t, t ≤ rs.length → isGo rs (way rs t i) = true) : isGo rs (stp rs i) = true := by
  obtain ⟨k, e⟩ := Mach.stop_mem (nxt rs) rs.length i
  have : stp rs i = way rs (rs.length + k) i := by
    show Mach.stopAt _ _ _ = Mach.itr _ _ _
    rw [e, Mach.itr_add]
  rw [this]
  exact all_go ok hi h _
/-- the row at which it lands, None in a ring -/
def landV (rs : List RowD) (i : Nat) : V := if isGo rs (stp rs i) then .non else .int (stp rs i : Int)
/-- what is shown there -/
def showD : RowD → List Str
  | .ask op _ => ["ask", op]
  | .go _ => ["hang"]
  | .fin w => ["end", w]
def showAt (rs : List RowD) (j : Nat) : List Str := match rs[j]? with
  | some d => showD d
  | none => []
def stepsAt (rs : List RowD) (j : Nat) : List Int := match rs[j]? with
  | some d => nextsD d
  | none => []
theorem showAt_of {rs : List RowD} {j : Nat} {d : RowD} (e : rs[j]? = some d) : showAt rs j = showD d := by
  unfold showAt
  rw [e]
theorem stepsAt_of {rs : List RowD} {j : Nat} {d : RowD} (e : rs[j]? = some d) : stepsAt rs j = nextsD d := by
  unfold stepsAt
  rw [e]
def landD (d : RowD) (j : Nat) : V := match d with
  | .go _ => .non
  | _ => .int (j : Int)
theorem landV_of {rs : List RowD} {i : Nat} {d : RowD} (e : rs[stp rs i]? = some d) : landV rs i = landD d (stp rs i) := by
  unfold landV isGo
  rw [e]
  cases d <;> rfl
theorem one_ok (v : V) : [v].length ≤ sizeLine := by rw [sizeLine_eq]; exact Nat.succ_le_of_lt (by decide)
theorem two_ok (v u : V) : [v, u].length ≤ sizeLine := by rw [sizeLine_eq]; exact Nat.le_trans (show 2 ≤ 2 from Nat.le_refl 2) (by decide)
end Mine

set_option maxRecDepth 100000
set_option maxHeartbeats 4000000
namespace Mine
open PySem L2
abbrev s_shows_of : Stmt := top 32
abbrev s_leader_of : Stmt := top 47
abbrev s_are_led_together : Stmt := top 46
theorem But.refl (H : Hp) (a : Addr) : But H H a := fun _ _ _ e => e
def flN (n : Nat) (ls : Nat → Nat) : List V := fl n fun i => (ls i : Int)
theorem flN_at {n k : Nat} {ls : Nat → Nat} (h : k < n) : atI (flN n ls) (k : Int) = some (V.int (ls k : Int)) := fl_at h
theorem flN_len {n : Nat} {ls : Nat → Nat} : (flN n ls).length = n := fl_len
theorem flN_set {n k v : Nat} {ls : Nat → Nat} (h : k < n) : (flN n ls).set k (V.int (v : Int)) = flN n (Wk.put ls k v) := by
  unfold flN
  rw [fl_set h]
  congr 1
  funext i
  unfold Wk.put
  by_cases z : i = k
  · rw [if_pos z, if_pos z]
  · rw [if_neg z, if_neg z]
def spShows : Sp := fun vs H Q _ => ∃ (q : Addr) (d : RowD), vs = [.ref q] ∧ TRow H (.ref q) d ∧ ∀ (t : Addr) (H' : Hp), Same H H' → H' t = some (.tup ((showD d).map V.str)) → Q (.ref t) H'
def spLeader : Sp := fun vs H Q _ => ∃ (la : Addr) (n t : Nat) (ls rank rep : Nat → Nat), vs = [.ref la, .int (t : Int)] ∧ H la = some (.lst (flN n ls)) ∧ Wk.Rep n ls rank rep ∧ t < n ∧
  ∀ (ls' : Nat → Nat) (H' : Hp), Wk.Rep n ls' rank rep → But H H' la → H' la = some (.lst (flN n ls')) → Q (.int (rep t : Int)) H'
def spLed : Sp := fun vs H Q _ => ∃ (la : Addr) (n a b : Nat) (ls rank rep : Nat → Nat), vs = [.ref la, .int (a : Int), .int (b : Int)] ∧ H la = some (.lst (flN n ls)) ∧ Wk.Rep n ls rank rep ∧ a < n ∧ b < n ∧
  ∀ (ls' rank' : Nat → Nat) (H' : Hp), Wk.Rep n ls' rank' (Wk.joinR rep (rep a) (rep b)) → But H H' la → H' la = some (.lst (flN n ls')) → Q (.bl (decide (rep a = rep b))) H'
theorem natDec (a b : Nat) : decide (V.int (a : Int) = V.int (b : Int)) = decide (a = b) := by
  by_cases h : a = b
  · subst h
    simp
  · rw [decide_eq_false h]
    exact decide_eq_false fun z => h (by have := V.int.inj z; omega)
section
variable {P : Program} {w : World} {K : PySem.W.Frag} {mg : Str → Option Value} {base : Heap}
variable {fII fIW a_leader : Addr}
theorem sc_shows_of : FnScope ["line"] ["line"] (defScope s_shows_of) := ⟨rfl, rfl, rfl, by decide +kernel, rfl, by decide +kernel, by decide +kernel⟩
theorem ok_shows_of {f : Addr} {fd : FuncData} (F : Fun K "shows_of" "shows_of" s_shows_of f fd) : FnOk P w K mg base CX0 1 f fd ["line"] spShows := by
  refine F.ok sc_shows_of (fun vs H Q E h => ?_) (fun cdv A outer s H vs Q E hr h => ?_)
  · obtain ⟨q, d, rfl, _⟩ := h
    rfl
  · obtain ⟨q, d, rfl, row, k⟩ := h
    refine ⟨_, (pss_cons (ps_if (pt_cmpR op_eq (pe_ix ix_tup (pv 0) pe_int (fun _ _ => rfl)) pe_str (nomark _)) (pss_one (ps_ret (pe_tupG (pa_cons pe_str pa_nil)))) pss_nil)
      (pss_one (ps_ret (pe_tupG (pa_cons (pe_ix ix_tup (pv 0) pe_int (fun _ _ => rfl)) (pa_cons (pe_ix ix_tup (pv 0) pe_int (fun _ _ => rfl)) pa_nil)))))), ?_⟩
    have one : ∀ v : V, [v].length ≤ sizeLine := fun v => by rw [sizeLine_eq]; exact Nat.succ_le_of_lt (by decide)
    have two : ∀ v u : V, [v, u].length ≤ sizeLine := fun v u => by rw [sizeLine_eq]; exact Nat.le_trans (show 2 ≤ 2 from Nat.le_refl 2) (by decide)
    cases d with
    | ask op ns =>
      obtain ⟨a, t, e, h1, h2⟩ := row
      cases e
      refine ⟨_, rfl, _, _, _, _, rfl, rfl, .inl (.inl h1), at0', rfl, _, rfl, ?_⟩
      rw [strNe (show ("ask" : Str) ≠ "go" by decide +kernel)]
      refine iteF ?_
      exact ⟨_, rfl, _, _, _, _, rfl, rfl, .inl (.inl h1), at0', _, rfl, _, _, _, _, rfl, rfl, .inl (.inl h1), at1', two _ _, fun t H' n s e => k t H' s e⟩
    | go n =>
      obtain ⟨a, e, h1⟩ := row
      cases e
      refine ⟨_, rfl, _, _, _, _, rfl, rfl, .inl (.inl h1), at0', rfl, _, rfl, ?_⟩
      rw [strEq]
      refine iteT ?_
      exact ⟨one _, fun t H' n s e => k t H' s e⟩
    | fin x =>
      obtain ⟨a, e, h1⟩ := row
      cases e
      refine ⟨_, rfl, _, _, _, _, rfl, rfl, .inl (.inl h1), at0', rfl, _, rfl, ?_⟩
      rw [strNe (show ("end" : Str) ≠ "go" by decide +kernel)]
      refine iteF ?_
      exact ⟨_, rfl, _, _, _, _, rfl, rfl, .inl (.inl h1), at0', _, rfl, _, _, _, _, rfl, rfl, .inl (.inl h1), at1', two _ _, fun t H' n s e => k t H' s e⟩
theorem sc_leader_of : FnScope ["leaders", "thing"] ["leaders", "thing"] (defScope s_leader_of) := ⟨rfl, rfl, rfl, by decide +kernel, rfl, by decide +kernel, by decide +kernel⟩
theorem ok_leader_of {f : Addr} {fd : FuncData} (F : Fun K "leader_of" "leader_of" s_leader_of f fd) : FnOk P w K mg base CX0 1 f fd ["leaders", "thing"] spLeader := by
  refine F.ok sc_leader_of (fun vs H Q E h => ?_) (fun cdv A outer s H vs Q E hr h => ?_)
  · obtain ⟨la, n, t, ls, rank, rep, rfl, _⟩ := h
    rfl
  · obtain ⟨la, n, t, ls, rank, rep, rfl, hl, r, ht, k⟩ := h
    refine ⟨_, (pss_cons (ps_while PassesOwn.never (pt_cmpR op_ne (pe_ix ix_list (pv 0) (pv 1) (fun _ _ => rfl)) (pv 1) (nomark _)) (pss_cons (ps_asg (pe_ix ix_list (pv 0) (pe_ix ix_list (pv 0) (pv 1) (fun _ _ => rfl)) (fun _ _ => rfl)) (pg_sub (pv 0) (pv 1) set_list))
      (pss_one (ps_set (i := 1) sc_leader_of.nd rfl (Or.inl rfl) (pe_ix ix_list (pv 0) (pv 1) (fun _ _ => rfl))))))
      (pss_one (ps_ret (pv 1)))), ?_⟩
    refine ⟨fun m σ H' => ∃ (ls' : Nat → Nat) (u : Nat), m = rank u ∧ σ = [some (.ref la), some (.int (u : Int))] ∧ Wk.Rep n ls' rank rep ∧ u < n ∧ rep u = rep t ∧ But H H' la ∧ H' la = some (.lst (flN n ls')), ⟨_, ls, t, rfl, rfl, r, ht, rfl, But.refl _ _, hl⟩, ?_⟩
    rintro m σ H' ⟨ls', u, rfl, rfl, r', hu, eu, bt, e⟩
    refine ⟨_, rfl, _, rfl, la, _, _, _, rfl, rfl, SqL.of e, flN_at hu, _, rfl, rfl, _, rfl, ?_⟩
    rw [natDec]
    by_cases h1 : ls' u = u
    · rw [decide_eq_true h1]
      refine iteF ?_
      refine ⟨_, rfl, ?_⟩
      have := r'.own u hu h1
      rw [eu] at this
      rw [← this]
      exact k ls' H' r' bt e
    · rw [decide_eq_false h1]
      refine iteT ?_
      obtain ⟨r2, d2, p2⟩ := r'.half hu h1
      refine ⟨fun σ' H'' => ∃ (ls2 : Nat → Nat) (u2 : Nat), rank u2 < rank u ∧ σ' = [some (.ref la), some (.int (u2 : Int))] ∧ Wk.Rep n ls2 rank rep ∧ u2 < n ∧ rep u2 = rep t ∧ But H H'' la ∧ H'' la = some (.lst (flN n ls2)), fun σ' H'' ⟨ls2, u2, z1, z2, z3, z4, z5, z6, z7⟩ => ⟨_, z1, ls2, u2, rfl, z2, z3, z4, z5, z6, z7⟩, ?_⟩
      refine ⟨_, rfl, _, rfl, _, rfl, la, _, _, _, rfl, rfl, SqL.of e, flN_at hu, la, _, _, _, rfl, rfl, SqL.of e, flN_at (r'.lt u hu), _, rfl, _, rfl, la, _, _, u, rfl, rfl, e, by rw [flN_len]; exact ixn hu, ?_⟩
      rw [flN_set hu]
      have at2 := flN_at (ls := Wk.put ls' u (ls' (ls' u))) hu
      rw [Wk.put_same] at at2
      exact ⟨_, rfl, _, rfl, la, _, _, _, rfl, rfl, SqL.of upd_same, at2, _, _, d2, rfl, r2, r'.lt _ (r'.lt u hu), by rw [p2, eu], fun b o nb eb => by rw [upd_ne nb]; exact bt b o nb eb, upd_same⟩
theorem sc_are_led_together : FnScope ["leaders", "one", "other", "first", "second"] ["leaders", "one", "other"] (defScope s_are_led_together) := ⟨rfl, rfl, rfl, by decide +kernel, rfl, by decide +kernel, by decide +kernel⟩
theorem ok_led {f : Addr} {fd fd_leader : FuncData} (F : Fun K "are_led_together" "are_led_together" s_are_led_together f fd)
    (GL : FnOk P w K mg base CX0 1 a_leader fd_leader ["leaders", "thing"] spLeader) (b_leader_of : Binds K fd_leader ["leaders", "thing"] []) (g_leader_of : mg "leader_of" = some (.ref a_leader)) (k_leader_of : PySem.W.keepIn K (.ref a_leader) = true) : FnOk P w K mg base CX0 2 f fd ["leaders", "one", "other"] spLed := by
  refine F.ok sc_are_led_together (fun vs H Q E h => ?_) (fun cdv A outer s H vs Q E hr h => ?_)
  · obtain ⟨la, n, a, b, ls, rank, rep, rfl, _⟩ := h
    rfl
  · obtain ⟨la, n, a, b, ls, rank, rep, rfl, hl, r, ha, hb, k⟩ := h
    refine ⟨_, (pss_cons (ps_par (i := 3) (j := 4) rfl sc_are_led_together.nd rfl rfl (by decide) rfl rfl (pa_cons (pe_call GL (hr.mono (by decide)) (by rfl) g_leader_of k_leader_of b_leader_of .nil pass0 (pa_cons (pv 0) (pa_cons (pv 1) pa_nil))) (pa_cons (pe_call GL (hr.mono (by decide)) (by rfl) g_leader_of k_leader_of b_leader_of .nil pass0 (pa_cons (pv 0) (pa_cons (pv 2) pa_nil))) pa_nil)) rfl)
      (pss_cons (ps_asg (pv 3) (pg_sub (pv 0) (pv 4) set_list))
      (pss_one (ps_ret (pe_cmpR op_eq (pv 3) (pv 4) (nomark _)))))), ?_⟩
    refine ⟨_, rfl, _, rfl, la, n, a, ls, rank, rep, rfl, hl, r, ha, fun ls1 H1 r1 bt1 e1 => ?_⟩
    refine ⟨_, rfl, _, rfl, la, n, b, ls1, rank, rep, rfl, e1, r1, hb, fun ls2 H2 r2 bt2 e2 => ?_⟩
    refine ⟨_, _, rfl, ?_⟩
    refine ⟨_, rfl, _, rfl, _, rfl, la, _, _, rep b, rfl, rfl, e2, by rw [flN_len]; exact ixn (r.rlt b hb), ?_⟩
    rw [flN_set (r.rlt b hb)]
    obtain ⟨rank', r3⟩ := r2.join (r.rlt a ha) (r.rlt b hb) (r.root' ha).2 (r.root' hb).2
    refine ⟨_, rfl, _, rfl, rfl, ?_⟩
    rw [natDec]
    exact k _ rank' _ r3 (fun c o nc ec => by rw [upd_ne nc]; exact bt2 c o nc (bt1 c o nc ec)) upd_same
end
end Mine

set_option maxRecDepth 100000
set_option maxHeartbeats 4000000
namespace L2
open PySem PySem.Spec PyProof.Rows
section
variable {K : PySem.W.Frag} {a b : Addr} {xs ys : List V}
theorem walk_zipT {n : Nat} (hn : n = min xs.length ys.length) : Walk (RZ.ItzT K a b) n (fun H => SqT K H a xs ∧ SqT K H b ys) (YPair (fun i => xs[i]?) (fun i => ys[i]?)) := by
  subst hn
  refine ⟨fun i _ hi q => ?_, fun _ q => ⟨xs, ys, q.1, q.2, by omega⟩, fun i H v H' _ q y => ?_⟩
  · have h1 : i < xs.length := by omega
    have h2 : i < ys.length := by omega
    exact ⟨xs, ys, xs[i], ys[i], q.1, q.2, by simp [h1], by simp [h2]⟩
  · obtain ⟨T, x, z, h1, h2, h3, h4, h5⟩ := y
    exact ⟨T, x, z, h1, h2, h3, h4 xs q.1, h5 ys q.2⟩
end
end L2
namespace Mine
open PySem L2
abbrev s_begin_of : Stmt := top 42
abbrev s_both_shown : Stmt := top 43
abbrev s_pairs_behind : Stmt := top 44
/-- a machine stands there -/
structure MachP (CM : Addr) (H : Hp) (m : Addr) (o : Ops) (rs : List RowD) (b : Nat) (dm : Addr) (fm : List (Str × V)) (t l sa aa ea : Addr) (o' : Ops) (xs : List V) (as es : List Str) : Prop where
  hm : H m = some (.ins CM dm fm)
  fs : MachFs H fm t l b rs sa aa ea as es
  ht : H t = some (.dK (opsK o'))
  ord : Ordered o o'
  hl : H l = some (.lst xs)
  rows : Rows H xs rs
  lt : b < rs.length
def MachV (CM : Addr) (H : Hp) (m : Addr) (o : Ops) (rs : List RowD) (b : Nat) : Prop := ∃ dm fm t l sa aa ea o' xs as es, MachP CM H m o rs b dm fm t l sa aa ea o' xs as es
theorem MachV.same {CM : Addr} {H H' : Hp} {m : Addr} {o : Ops} {rs : List RowD} {b : Nat} (s : Same H H') (h : MachV CM H m o rs b) : MachV CM H' m o rs b := by
  obtain ⟨dm, fm, t, l, sa, aa, ea, o', xs, as, es, h⟩ := h
  exact ⟨dm, fm, t, l, sa, aa, ea, o', xs, as, es, s _ _ h.hm, h.fs.same s, s _ _ h.ht, h.ord, s _ _ h.hl, h.rows.same s, h.lt⟩
theorem BodyAt.mach {CB CM : Addr} {H : Hp} {bd : Addr} {o : Ops} {rs : List RowD} {b : Nat} (h : BodyAt CB CM H bd o rs b) : ∃ m dx fb, H bd = some (.ins CB dx fb) ∧ fb.lookup ("machine" : Str) = some (.ref m) ∧ MachV CM H m o rs b := by
  obtain ⟨m, t, l, sa, aa, ea, o', xs, as, es, ⟨dx, fb, h1, h2⟩, ⟨dm, fm, h3, h4⟩, h5, h6, h7, h8, h9, _⟩ := h
  exact ⟨m, dx, fb, h1, h2, dm, fm, t, l, sa, aa, ea, o', xs, as, es, h3, h4, h5, h6, h7, h8, h9⟩
abbrev Prw := Nat × Nat
/-- the tuple of a pair of rows -/
def PairT (H : Hp) (q : Addr) (p : Prw) : Prop := H q = some (.tup [.int (p.1 : Int), .int (p.2 : Int)])
def Prs (H : Hp) (vs : List V) (ps : List Prw) : Prop := vs.length = ps.length ∧ ∀ (k : Nat) (p : Prw), ps[k]? = some p → ∃ q, vs[k]? = some (.ref q) ∧ PairT H q p
theorem Prs.same {H H' : Hp} {vs : List V} {ps : List Prw} (s : Same H H') (h : Prs H vs ps) : Prs H' vs ps := ⟨h.1, fun k p e => by
  obtain ⟨q, h1, h2⟩ := h.2 k p e
  exact ⟨q, h1, s _ _ h2⟩⟩
theorem Prs.nil (H : Hp) : Prs H [] [] := ⟨rfl, fun k p e => by simp at e⟩
theorem Prs.snoc {H : Hp} {vs : List V} {ps : List Prw} {q : Addr} {p : Prw} (h : Prs H vs ps) (e : PairT H q p) : Prs H (vs ++ [.ref q]) (ps ++ [p]) := by
  refine ⟨by rw [List.length_append, List.length_append, h.1]; rfl, fun k r er => ?_⟩
  by_cases z : k < ps.length
  · rw [List.getElem?_append_left z] at er
    obtain ⟨q', h1, h2⟩ := h.2 k r er
    exact ⟨q', by rw [List.getElem?_append_left (by rw [h.1]; exact z)]; exact h1, h2⟩
  · have hk : k = ps.length := by
      have := (List.getElem?_eq_some_iff.mp er).1
      rw [List.length_append] at this
      simp at this
      omega
    subst hk
    rw [List.getElem?_append_right (Nat.le_refl _), Nat.sub_self] at er
    have er2 : p = r := Option.some.inj er
    subst er2
    exact ⟨q, by rw [List.getElem?_append_right (by rw [h.1]; exact Nat.le_refl _), h.1, Nat.sub_self]; rfl, e⟩
theorem PairT.other {H : Hp} {D q : Addr} {p : Prw} {ys : List V} {o : HO} (e : H D = some (.lst ys)) (h : PairT H q p) : PairT (upd H D o) q p := by
  unfold PairT at h ⊢
  rw [upd_ne (fun z => by rw [z, e] at h; cases h)]
  exact h
theorem Prs.other {H : Hp} {D : Addr} {vs ys : List V} {ps : List Prw} {o : HO} (e : H D = some (.lst ys)) (h : Prs H vs ps) : Prs (upd H D o) vs ps := ⟨h.1, fun k p ek => by
  obtain ⟨q, h1, h2⟩ := h.2 k p ek
  exact ⟨q, h1, h2.other e⟩⟩
/-- where both go on, by the answers -/
def behind (rs1 rs2 : List RowD) (d1 d2 : RowD) : List Prw := List.zipWith (fun (a b : Int) => (stp rs1 a.toNat, stp rs2 b.toNat)) (nextsD d1) (nextsD d2)
def spBegin (CM : Addr) : Sp := fun vs H Q _ => ∃ (m1 m2 : Addr) (o1 o2 : Ops) (rs1 rs2 : List RowD) (b1 b2 : Nat), vs = [.ref m1, .ref m2] ∧ MachV CM H m1 o1 rs1 b1 ∧ MachV CM H m2 o2 rs2 b2 ∧
  ∀ (t : Addr) (H' : Hp), H t = none → Same H H' → PairT H' t (stp rs1 b1, stp rs2 b2) → Q (.ref t) H'
def spBoth (CM : Addr) : Sp := fun vs H Q _ => ∃ (m1 m2 t : Addr) (o1 o2 : Ops) (rs1 rs2 : List RowD) (b1 b2 : Nat) (p : Prw) (d1 d2 : RowD), vs = [.ref m1, .ref m2, .ref t] ∧ MachV CM H m1 o1 rs1 b1 ∧ MachV CM H m2 o2 rs2 b2 ∧ PairT H t p ∧ rs1[p.1]? = some d1 ∧ rs2[p.2]? = some d2 ∧
  ∀ (u s1 s2 : Addr) (H' : Hp), Same H H' → H' u = some (.tup [.ref s1, .ref s2]) → H' s1 = some (.tup ((showD d1).map V.str)) → H' s2 = some (.tup ((showD d2).map V.str)) → Q (.ref u) H'
def spBehind (CM : Addr) : Sp := fun vs H Q _ => ∃ (m1 m2 t : Addr) (o1 o2 : Ops) (rs1 rs2 : List RowD) (b1 b2 : Nat) (p : Prw) (d1 d2 : RowD), vs = [.ref m1, .ref m2, .ref t] ∧ MachV CM H m1 o1 rs1 b1 ∧ MachV CM H m2 o2 rs2 b2 ∧ PairT H t p ∧ rs1[p.1]? = some d1 ∧ rs2[p.2]? = some d2 ∧ Fit rs1 ∧ Fit rs2 ∧ (nextsD d1).length ≤ 1000 ∧
  ∀ (D : Addr) (us : List V) (H' : Hp), H D = none → Same H H' → H' D = some (.lst us) → Prs H' us (behind rs1 rs2 d1 d2) → Q (.ref D) H'
section
variable {P : Program} {w : World} {K : PySem.W.Frag} {mg : Str → Option Value} {base : Heap}
variable {fII fIW CM a_nexts a_shows : Addr}
theorem sc_begin_of : FnScope ["one", "other"] ["one", "other"] (defScope s_begin_of) := ⟨rfl, rfl, rfl, by decide +kernel, rfl, by decide +kernel, by decide +kernel⟩
theorem ok_begin_of {f : Addr} {fd : FuncData} (F : Fun K "begin_of" "begin_of" s_begin_of f fd) (TM : MachC K CM) : FnOk P w K mg base CX0 1 f fd ["one", "other"] (spBegin CM) := by
  refine F.ok sc_begin_of (fun vs H Q E h => ?_) (fun cdv A outer s H vs Q E hr h => ?_)
  · obtain ⟨m1, m2, o1, o2, rs1, rs2, b1, b2, rfl, _⟩ := h
    rfl
  · obtain ⟨m1, m2, o1, o2, rs1, rs2, b1, b2, rfl, ⟨dm1, fm1, t1, l1, sa1, aa1, ea1, o1', xs1, as1, es1, p1⟩, ⟨dm2, fm2, t2, l2, sa2, aa2, ea2, o2', xs2, as2, es2, p2⟩, k⟩ := h
    refine ⟨_, (pss_one (ps_ret (pe_tupG (pa_cons (pe_ix ix_list (pe_fld (pv 0) rfl) (pe_fld (pv 0) rfl) (fun _ _ => rfl)) (pa_cons (pe_ix ix_list (pe_fld (pv 1) rfl) (pe_fld (pv 1) rfl) (fun _ _ => rfl)) pa_nil))))), ?_⟩
    refine ⟨_, rfl, m1, CM, dm1, fm1, _, rfl, p1.hm, TM.cl, TM.n_stops, p1.fs.stops, _, rfl, m1, CM, dm1, fm1, _, rfl, p1.hm, TM.cl, TM.n_begin, p1.fs.begin, sa1, _, _, _, rfl, rfl, SqL.of p1.fs.hs, fl_at p1.lt, ?_⟩
    refine ⟨_, rfl, m2, CM, dm2, fm2, _, rfl, p2.hm, TM.cl, TM.n_stops, p2.fs.stops, _, rfl, m2, CM, dm2, fm2, _, rfl, p2.hm, TM.cl, TM.n_begin, p2.fs.begin, sa2, _, _, _, rfl, rfl, SqL.of p2.fs.hs, fl_at p2.lt, ?_⟩
    exact ⟨two_ok _ _, fun t H' n s e => k t H' n s e⟩
theorem sc_both_shown : FnScope ["one", "other", "pair"] ["one", "other", "pair"] (defScope s_both_shown) := ⟨rfl, rfl, rfl, by decide +kernel, rfl, by decide +kernel, by decide +kernel⟩
theorem ok_both_shown {f : Addr} {fd fd_shows : FuncData} (F : Fun K "both_shown" "both_shown" s_both_shown f fd) (TM : MachC K CM)
    (GS : FnOk P w K mg base CX0 1 a_shows fd_shows ["line"] spShows) (b_shows_of : Binds K fd_shows ["line"] []) (g_shows_of : mg "shows_of" = some (.ref a_shows)) (k_shows_of : PySem.W.keepIn K (.ref a_shows) = true) : FnOk P w K mg base CX0 2 f fd ["one", "other", "pair"] (spBoth CM) := by
  refine F.ok sc_both_shown (fun vs H Q E h => ?_) (fun cdv A outer s H vs Q E hr h => ?_)
  · obtain ⟨m1, m2, t, o1, o2, rs1, rs2, b1, b2, p, d1, d2, rfl, _⟩ := h
    rfl
  · obtain ⟨m1, m2, t, o1, o2, rs1, rs2, b1, b2, p, d1, d2, rfl, ⟨dm1, fm1, t1, l1, sa1, aa1, ea1, o1', xs1, as1, es1, p1⟩, ⟨dm2, fm2, t2, l2, sa2, aa2, ea2, o2', xs2, as2, es2, p2⟩, ht, e1, e2, k⟩ := h
    refine ⟨_, (pss_one (ps_ret (pe_tupG (pa_cons (pe_call GS (hr.mono (by decide)) (by rfl) g_shows_of k_shows_of b_shows_of .nil pass0 (pa_cons (pe_ix ix_list (pe_fld (pv 0) rfl) (pe_ix ix_tup (pv 2) pe_int (fun _ _ => rfl)) (fun _ _ => rfl)) pa_nil)) (pa_cons (pe_call GS (hr.mono (by decide)) (by rfl) g_shows_of k_shows_of b_shows_of .nil pass0 (pa_cons (pe_ix ix_list (pe_fld (pv 1) rfl) (pe_ix ix_tup (pv 2) pe_int (fun _ _ => rfl)) (fun _ _ => rfl)) pa_nil)) pa_nil))))), ?_⟩
    obtain ⟨q1, _, d1', ed1, x1, row1, _⟩ := p1.rows.at (List.getElem?_eq_some_iff.mp e1).1
    rw [e1] at ed1
    cases ed1
    obtain ⟨q2, _, d2', ed2, x2, row2, _⟩ := p2.rows.at (List.getElem?_eq_some_iff.mp e2).1
    rw [e2] at ed2
    cases ed2
    refine ⟨_, rfl, m1, CM, dm1, fm1, _, rfl, p1.hm, TM.cl, TM.n_lines, p1.fs.lines, _, rfl, _, _, _, _, rfl, rfl, .inl (.inl ht), at0', l1, _, _, _, rfl, rfl, SqL.of p1.hl, atI_nat x1, q1, d1, rfl, row1, fun u1 H1 s1 c1 => ?_⟩
    refine ⟨_, rfl, m2, CM, dm2, fm2, _, rfl, s1 _ _ p2.hm, TM.cl, TM.n_lines, p2.fs.lines, _, rfl, _, _, _, _, rfl, rfl, .inl (.inl (s1 _ _ ht)), at1', l2, _, _, _, rfl, rfl, SqL.of (s1 _ _ p2.hl), atI_nat x2, q2, d2, rfl, row2.same s1, fun u2 H2 s2 c2 => ?_⟩
    exact ⟨two_ok _ _, fun u H3 n3 s3 c3 => k u u1 u2 H3 (s1.trans (s2.trans s3)) c3 (s3 _ _ (s2 _ _ c1)) (s3 _ _ c2)⟩
theorem sc_pairs_behind : FnScope ["one", "other", "pair", "nexts", "other_nexts", "index", "other_index"] ["one", "other", "pair"] (defScope s_pairs_behind) := ⟨rfl, rfl, rfl, by decide +kernel, rfl, by decide +kernel, by decide +kernel⟩
theorem ok_pairs_behind {f : Addr} {fd fd_nexts : FuncData} (F : Fun K "pairs_behind" "pairs_behind" s_pairs_behind f fd) (TM : MachC K CM) (h_zip : mg "zip" = none)
    (GN : FnOk P w K mg base CX0 1 a_nexts fd_nexts ["line"] spNextsOf) (b_nexts_of : Binds K fd_nexts ["line"] []) (g_nexts_of : mg "nexts_of" = some (.ref a_nexts)) (k_nexts_of : PySem.W.keepIn K (.ref a_nexts) = true) : FnOk P w K mg base CX0 2 f fd ["one", "other", "pair"] (spBehind CM) := by
  refine F.ok sc_pairs_behind (fun vs H Q E h => ?_) (fun cdv A outer s H vs Q E hr h => ?_)
  · obtain ⟨m1, m2, t, o1, o2, rs1, rs2, b1, b2, p, d1, d2, rfl, _⟩ := h
    rfl
  · obtain ⟨m1, m2, t, o1, o2, rs1, rs2, b1, b2, p, d1, d2, rfl, ⟨dm1, fm1, t1, l1, sa1, aa1, ea1, o1', xs1, as1, es1, p1⟩, ⟨dm2, fm2, t2, l2, sa2, aa2, ea2, o2', xs2, as2, es2, p2⟩, ht, e1, e2, fit1, fit2, few, k⟩ := h
    refine ⟨_, (pss_cons (ps_par (i := 3) (j := 4) rfl sc_pairs_behind.nd rfl rfl (by decide) rfl rfl (pa_cons (pe_call GN (hr.mono (by decide)) (by rfl) g_nexts_of k_nexts_of b_nexts_of .nil pass0 (pa_cons (pe_ix ix_list (pe_fld (pv 0) rfl) (pe_ix ix_tup (pv 2) pe_int (fun _ _ => rfl)) (fun _ _ => rfl)) pa_nil)) (pa_cons (pe_call GN (hr.mono (by decide)) (by rfl) g_nexts_of k_nexts_of b_nexts_of .nil pass0 (pa_cons (pe_ix ix_list (pe_fld (pv 1) rfl) (pe_ix ix_tup (pv 2) pe_int (fun _ _ => rfl)) (fun _ _ => rfl)) pa_nil)) pa_nil)) rfl)
      (pss_one (ps_ret (pe_lc (own := [("index", 5), ("other_index", 6)]) (g := gTup K 2 (gCons (gName 5) (gCons (gName 6) gNil))) (tt := tYes) rfl sc_pairs_behind.nd (RZ.pi_zipA (by rfl) h_zip (pa_cons (pv 3) (pa_cons (pv 4) pa_nil))) (blkOk_by (own := [("index", 5), ("other_index", 6)]) (N := ["one", "other", "pair", "nexts", "other_nexts", "index", "other_index"]) (sc := defScope s_pairs_behind) (by decide +kernel)) (fun _ _ _ _ _ => pg_tup rfl (pgs_cons (pg_name (i := 5) sc_pairs_behind.nd rfl (Or.inl rfl)) (pgs_cons (pg_name (i := 6) sc_pairs_behind.nd rfl (Or.inl rfl)) pgs_nil))) (fun _ _ _ _ _ => pts_nil) (fun _ _ _ _ _ => (pe_tupG (pa_cons (pe_ix (show IxR _ (rIxL K) from ix_list) (show PE _ _ (tFld K (tVar 0) "stops") from pe_fld (pv 0) rfl) (pv 5) (fun _ _ => rfl)) (pa_cons (pe_ix (show IxR _ (rIxL K) from ix_list) (show PE _ _ (tFld K (tVar 1) "stops") from pe_fld (pv 1) rfl) (pv 6) (fun _ _ => rfl)) pa_nil)))))))), ?_⟩
    obtain ⟨q1, _, d1', ed1, x1, row1, _⟩ := p1.rows.at (List.getElem?_eq_some_iff.mp e1).1
    rw [e1] at ed1
    cases ed1
    obtain ⟨q2, _, d2', ed2, x2, row2, _⟩ := p2.rows.at (List.getElem?_eq_some_iff.mp e2).1
    rw [e2] at ed2
    cases ed2
    refine ⟨_, rfl, m1, CM, dm1, fm1, _, rfl, p1.hm, TM.cl, TM.n_lines, p1.fs.lines, _, rfl, _, _, _, _, rfl, rfl, .inl (.inl ht), at0', l1, _, _, _, rfl, rfl, SqL.of p1.hl, atI_nat x1, q1, d1, rfl, row1, fun u1 H1 s1 c1 => ?_⟩
    refine ⟨_, rfl, m2, CM, dm2, fm2, _, rfl, s1 _ _ p2.hm, TM.cl, TM.n_lines, p2.fs.lines, _, rfl, _, _, _, _, rfl, rfl, .inl (.inl (s1 _ _ ht)), at1', l2, _, _, _, rfl, rfl, SqL.of (s1 _ _ p2.hl), atI_nat x2, q2, d2, rfl, row2.same s1, fun u2 H2 s2 c2 => ?_⟩
    refine ⟨_, _, rfl, ?_⟩
    have c1' := s2 _ _ c1
    have s12 : Same H H2 := s1.trans s2
    refine ⟨_, rfl, _, rfl, u1, u2, _, _, rfl, .inr ⟨.inl (.inl c1'), .inl (.inl c2), fun D nD => ?_⟩⟩
    refine lc_it (walk_zipT (xs := (nextsD d1).map V.int) (ys := (nextsD d2).map V.int) rfl) (fun j Hx => Same H2 Hx ∧ ∃ vs, Hx D = some (.lst vs) ∧ Prs Hx vs ((behind rs1 rs2 d1 d2).take j)) ⟨sameNew nD _, [], upd_same, Prs.nil _⟩ (fun j Hx _ z => ⟨.inl (.inl (z.1 _ _ c1')), .inl (.inl (z.1 _ _ c2))⟩) (fun j x Ha Hb hj z1 z2 => ?_) (fun Hx z => ?_)
    · obtain ⟨sx, vs, ev, pv⟩ := z1
      obtain ⟨T', x, y, rfl, nT, rfl, h1, h2⟩ := z2
      rw [List.length_map, List.length_map] at hj
      have hj1 : j < (nextsD d1).length := by omega
      have hj2 : j < (nextsD d2).length := by omega
      have g1 : (nextsD d1)[j]? = some (nextsD d1)[j] := List.getElem?_eq_getElem hj1
      have g2 : (nextsD d2)[j]? = some (nextsD d2)[j] := List.getElem?_eq_getElem hj2
      generalize (nextsD d1)[j] = n1 at g1
      generalize (nextsD d2)[j] = n2 at g2
      dsimp only at h1 h2
      rw [List.getElem?_map, g1] at h1
      rw [List.getElem?_map, g2] at h2
      have h1' : V.int n1 = x := Option.some.inj h1
      have h2' : V.int n2 = y := Option.some.inj h2
      subst h1' h2'
      obtain ⟨a0, a1⟩ := fit1.nexts e1 (List.mem_of_getElem? g1)
      obtain ⟨b0, b1'⟩ := fit2.nexts e2 (List.mem_of_getElem? g2)
      have at1 : atI (fl rs1.length fun i => (stp rs1 i : Int)) n1 = some (V.int (stp rs1 n1.toNat : Int)) := by
        conv => lhs; rw [show n1 = (n1.toNat : Int) by omega]
        exact fl_at (by omega)
      have at2 : atI (fl rs2.length fun i => (stp rs2 i : Int)) n2 = some (V.int (stp rs2 n2.toNat : Int)) := by
        conv => lhs; rw [show n2 = (n2.toNat : Int) by omega]
        exact fl_at (by omega)
      have gb : (behind rs1 rs2 d1 d2)[j]? = some (stp rs1 n1.toNat, stp rs2 n2.toNat) := by
        unfold behind
        rw [List.getElem?_zipWith, g1, g2]
      have sT : Same H2 (upd Ha T' (.tup [.int n1, .int n2])) := fun b o e => by
        rw [upd_ne (ne_of_none (sx _ _ e) nT)]
        exact sx _ _ e
      refine ⟨T', _, rfl, .inl (.inl upd_same), rfl, _, _, rfl, _, _, rfl, rfl, rfl, ?_⟩
      refine ⟨_, rfl, m1, CM, dm1, fm1, _, rfl, sT _ _ (s12 _ _ p1.hm), TM.cl, TM.n_stops, p1.fs.stops, _, rfl, sa1, _, _, _, rfl, rfl, SqL.of (sT _ _ (s12 _ _ p1.fs.hs)), at1, ?_⟩
      refine ⟨_, rfl, m2, CM, dm2, fm2, _, rfl, sT _ _ (s12 _ _ p2.hm), TM.cl, TM.n_stops, p2.fs.stops, _, rfl, sa2, _, _, _, rfl, rfl, SqL.of (sT _ _ (s12 _ _ p2.fs.hs)), at2, ?_⟩
      have lk : vs.length ≤ j := by
        rw [pv.1, List.length_take]
        omega
      have sTa : Same Ha (upd Ha T' (.tup [.int n1, .int n2])) := sameNew nT _
      refine ⟨two_ok _ _, fun p3 H3 n3 s3 c3 => ⟨vs, s3 _ _ (sTa _ _ ev), by rw [sizeLine_eq]; omega, fun b o e => ?_, vs ++ [.ref p3], upd_same, ?_⟩⟩
      · rw [upd_ne (ne_of_none e nD)]
        exact s3 _ _ (sT _ _ e)
      · rw [List.take_succ, gb]
        exact ((pv.same (sTa.trans s3)).snoc (p := (stp rs1 n1.toNat, stp rs2 n2.toNat)) (show PairT H3 p3 _ from c3)).other (s3 _ _ (sTa _ _ ev))
    · obtain ⟨sx, vs, ev, pv⟩ := z
      have le : ((behind rs1 rs2 d1 d2)).length = min ((nextsD d1).map V.int).length ((nextsD d2).map V.int).length := by
        unfold behind
        rw [List.length_zipWith, List.length_map, List.length_map]
      rw [← le, List.take_length] at pv
      exact k D vs Hx (none_of s12 nD) (s12.trans sx) ev pv
end
end Mine

set_option maxRecDepth 100000
set_option maxHeartbeats 4000000
namespace Mine
open PySem L2
abbrev s_walk_init : Stmt := inClass (top 41) 0
abbrev s_walk_take : Stmt := inClass (top 41) 1
structure WalkC (K : PySem.W.Frag) (C : Addr) : Prop where
  cl : Cls K C
  n_one : NoAttr K C "one"
  n_other : NoAttr K C "other"
  n_met : NoAttr K C "met"
  n_origins : NoAttr K C "origins"
structure WalkF (fs : List (Str × V)) (m1 m2 ma oa : Addr) : Prop where
  one : fs.lookup ("one" : Str) = some (.ref m1)
  other : fs.lookup ("other" : Str) = some (.ref m2)
  met : fs.lookup ("met" : Str) = some (.ref ma)
  origins : fs.lookup ("origins" : Str) = some (.ref oa)
  take : fs.lookup ("take" : Str) = none
/-- where each pair came from: the number of the pair ahead, the answer -/
abbrev Org := Int × Int
def OrgT (H : Hp) (q : Addr) (p : Org) : Prop := H q = some (.tup [.int p.1, .int p.2])
def Orgs (H : Hp) (vs : List V) (ps : List Org) : Prop := vs.length = ps.length ∧ ∀ (k : Nat) (p : Org), ps[k]? = some p → ∃ q, vs[k]? = some (.ref q) ∧ OrgT H q p
theorem Orgs.same {H H' : Hp} {vs : List V} {ps : List Org} (s : Same H H') (h : Orgs H vs ps) : Orgs H' vs ps := ⟨h.1, fun k p e => by
  obtain ⟨q, h1, h2⟩ := h.2 k p e
  exact ⟨q, h1, s _ _ h2⟩⟩
theorem Orgs.nil (H : Hp) : Orgs H [] [] := ⟨rfl, fun k p e => by simp at e⟩
theorem Orgs.snoc {H : Hp} {vs : List V} {ps : List Org} {q : Addr} {p : Org} (h : Orgs H vs ps) (e : OrgT H q p) : Orgs H (vs ++ [.ref q]) (ps ++ [p]) := by
  refine ⟨by rw [List.length_append, List.length_append, h.1]; rfl, fun k r er => ?_⟩
  by_cases z : k < ps.length
  · rw [List.getElem?_append_left z] at er
    obtain ⟨q', h1, h2⟩ := h.2 k r er
    exact ⟨q', by rw [List.getElem?_append_left (by rw [h.1]; exact z)]; exact h1, h2⟩
  · have hk : k = ps.length := by
      have := (List.getElem?_eq_some_iff.mp er).1
      rw [List.length_append] at this
      simp at this
      omega
    subst hk
    rw [List.getElem?_append_right (Nat.le_refl _), Nat.sub_self] at er
    have er2 : p = r := Option.some.inj er
    subst er2
    exact ⟨q, by rw [List.getElem?_append_right (by rw [h.1]; exact Nat.le_refl _), h.1, Nat.sub_self]; rfl, e⟩
theorem Orgs.other {H : Hp} {D : Addr} {vs ys : List V} {ps : List Org} {o : HO} (e : H D = some (.lst ys)) (h : Orgs H vs ps) : Orgs (upd H D o) vs ps := ⟨h.1, fun k p ek => by
  obtain ⟨q, h1, h2⟩ := h.2 k p ek
  refine ⟨q, h1, ?_⟩
  unfold OrgT at h2 ⊢
  rw [upd_ne (fun z => by rw [z, e] at h2; cases h2)]
  exact h2⟩
/-- a walk stands there; what stood at H0 is as it was -/
structure WalkP (CW : Addr) (H0 H : Hp) (wk m1 m2 ma oa : Addr) (met : List Prw) (org : List Org) : Prop where
  hw : ∃ dx fs, H wk = some (.ins CW dx fs) ∧ WalkF fs m1 m2 ma oa
  em : ∃ vs, H ma = some (.lst vs) ∧ Prs H vs met
  eo : ∃ vs, H oa = some (.lst vs) ∧ Orgs H vs org
  ne : ma ≠ oa
  same : Same H0 H
  nm : H0 ma = none
  no : H0 oa = none
theorem WalkP.go {CW : Addr} {H0 H H' : Hp} {wk m1 m2 ma oa : Addr} {met : List Prw} {org : List Org} (h : WalkP CW H0 H wk m1 m2 ma oa met org) (s : Same H H') : WalkP CW H0 H' wk m1 m2 ma oa met org := by
  obtain ⟨⟨dx, fs, h1, h2⟩, ⟨vs, h3, h4⟩, ⟨us, h5, h6⟩, h7, h8, h9, h10⟩ := h
  exact ⟨⟨dx, fs, s _ _ h1, h2⟩, ⟨vs, s _ _ h3, h4.same s⟩, ⟨us, s _ _ h5, h6.same s⟩, h7, h8.trans s, h9, h10⟩
/-- another list is changed -/
theorem WalkP.but {CW : Addr} {H0 H H' : Hp} {wk m1 m2 ma oa la : Addr} {met : List Prw} {org : List Org} {ls : List V} (h : WalkP CW H0 H wk m1 m2 ma oa met org) (s : But H H' la) (el : H la = some (.lst ls)) (n0 : H0 la = none) (a1 : ma ≠ la) (a2 : oa ≠ la) : WalkP CW H0 H' wk m1 m2 ma oa met org := by
  obtain ⟨⟨dx, fs, h1, h2⟩, ⟨vs, h3, h4⟩, ⟨us, h5, h6⟩, h7, h8, h9, h10⟩ := h
  refine ⟨⟨dx, fs, s _ _ (fun z => by rw [z, el] at h1; cases h1) h1, h2⟩, ⟨vs, s _ _ a1 h3, h4.1, fun k p e => ?_⟩, ⟨us, s _ _ a2 h5, h6.1, fun k p e => ?_⟩, h7, fun b o e => s _ _ (ne_of_none e n0) (h8 _ _ e), h9, h10⟩
  · obtain ⟨q, k1, k2⟩ := h4.2 k p e
    exact ⟨q, k1, s _ _ (fun z => by unfold PairT at k2; rw [z, el] at k2; cases k2) k2⟩
  · obtain ⟨q, k1, k2⟩ := h6.2 k p e
    exact ⟨q, k1, s _ _ (fun z => by unfold OrgT at k2; rw [z, el] at k2; cases k2) k2⟩
def spWInit (CW : Addr) : Sp := fun vs H Q _ => ∃ (wk m1 m2 q dx : Addr) (p : Prw), vs = [.ref wk, .ref m1, .ref m2, .ref q] ∧ H wk = some (.ins CW dx []) ∧ PairT H q p ∧
  ∀ (fs : List (Str × V)) (ma oa t : Addr) (H' : Hp), H ma = none → H oa = none → ma ≠ oa → SameX wk H H' → H' wk = some (.ins CW dx fs) → WalkF fs m1 m2 ma oa → H' ma = some (.lst [.ref q]) → H' oa = some (.lst [.ref t]) → OrgT H' t (-1, -1) → Q .non H'
def spTake (CW : Addr) : Sp := fun vs H Q _ => ∃ (H0 : Hp) (wk m1 m2 ma oa q : Addr) (n a : Int) (p : Prw) (met : List Prw) (org : List Org), vs = [.ref wk, .ref q, .int n, .int a] ∧ WalkP CW H0 H wk m1 m2 ma oa met org ∧ PairT H q p ∧ met.length ≤ 1000000 ∧ org.length ≤ 1000000 ∧
  ∀ H' : Hp, WalkP CW H0 H' wk m1 m2 ma oa (met ++ [p]) (org ++ [(n, a)]) → (∀ b o, b ≠ ma → b ≠ oa → H b = some o → H' b = some o) → Q .non H'
section
variable {P : Program} {w : World} {K : PySem.W.Frag} {mg : Str → Option Value} {base : Heap}
variable {CW : Addr}
theorem sc_walk_init : FnScope ["self", "one", "other", "begin"] ["self", "one", "other", "begin"] (defScope s_walk_init) := ⟨rfl, rfl, rfl, by decide +kernel, rfl, by decide +kernel, by decide +kernel⟩
theorem ok_walk_init {f : Addr} {fd : FuncData} (F : Fun K "__init__" "Walk.__init__" s_walk_init f fd) (TW : WalkC K CW) : FnOk P w K mg base CX0 1 f fd ["self", "one", "other", "begin"] (spWInit CW) := by
  refine F.ok sc_walk_init (fun vs H Q E h => ?_) (fun cdv A outer s H vs Q E hr h => ?_)
  · obtain ⟨wk, m1, m2, q, dx, p, rfl, _⟩ := h
    rfl
  · obtain ⟨wk, m1, m2, q, dx, p, rfl, hw, hq, k⟩ := h
    refine ⟨_, (pss_cons (ps_fld (pv 0) (pv 1) rfl)
      (pss_cons (ps_fld (pv 0) (pv 2) rfl)
      (pss_cons (ps_fld (pv 0) (pe_lstG (pa_cons (pv 3) pa_nil)) rfl)
      (pss_one (ps_fld (pv 0) (pe_lstG (pa_cons (pe_tupG (pa_cons (pe_un un_neg pe_int) (pa_cons (pe_un un_neg pe_int) pa_nil))) pa_nil)) rfl))))), ?_⟩
    have L0 : ([] : List (Str × V)).length ≤ 0 := Nat.le_refl _
    have L1 := putF_len (f := "one") (v := .ref m1) L0
    have L2 := putF_len (f := "other") (v := .ref m2) L1
    refine ⟨_, rfl, _, rfl, wk, CW, dx, _, rfl, hw, TW.cl, TW.n_one, Nat.lt_of_le_of_lt L0 (by decide), ?_⟩
    refine ⟨_, rfl, _, rfl, wk, CW, dx, _, rfl, upd_same, TW.cl, TW.n_other, Nat.lt_of_le_of_lt L1 (by decide), ?_⟩
    rw [upd_upd]
    have x2 : SameX wk H (upd H wk (.ins CW dx (putF "other" (.ref m2) (putF "one" (.ref m1) [])))) := SameX.upd fun _ _ _ e => e
    have e2 : upd H wk (.ins CW dx (putF "other" (.ref m2) (putF "one" (.ref m1) []))) wk = some (.ins CW dx (putF "other" (.ref m2) (putF "one" (.ref m1) []))) := upd_same
    generalize upd H wk (.ins CW dx (putF "other" (.ref m2) (putF "one" (.ref m1) []))) = H2 at x2 e2 ⊢
    have L3 : ∀ ma : Addr, (putF ("met" : Str) (V.ref ma) (putF "other" (.ref m2) (putF "one" (.ref m1) []))).length ≤ 0 + 1 + 1 + 1 := fun ma => putF_len L2
    refine ⟨_, rfl, one_ok _, fun ma H3 n3 s3 e3 => ?_⟩
    refine ⟨_, rfl, wk, CW, dx, _, rfl, s3 _ _ e2, TW.cl, TW.n_met, Nat.lt_of_le_of_lt L2 (by decide), ?_⟩
    have nmw : ma ≠ wk := fun z => by
      rw [z, e2] at n3
      cases n3
    have e4 : upd H3 wk (.ins CW dx (putF "met" (.ref ma) (putF "other" (.ref m2) (putF "one" (.ref m1) [])))) wk = some (.ins CW dx (putF "met" (.ref ma) (putF "other" (.ref m2) (putF "one" (.ref m1) [])))) := upd_same
    have e4m : upd H3 wk (.ins CW dx (putF "met" (.ref ma) (putF "other" (.ref m2) (putF "one" (.ref m1) [])))) ma = some (.lst [.ref q]) := by
      rw [upd_ne nmw]
      exact e3
    have x4 : SameX wk H2 (upd H3 wk (.ins CW dx (putF "met" (.ref ma) (putF "other" (.ref m2) (putF "one" (.ref m1) []))))) := SameX.upd fun b o _ e => s3 b o e
    generalize upd H3 wk (.ins CW dx (putF "met" (.ref ma) (putF "other" (.ref m2) (putF "one" (.ref m1) [])))) = H4 at e4 e4m x4 ⊢
    refine ⟨_, rfl, _, rfl, two_ok _ _, fun t H5 n5 s5 e5 => ⟨one_ok _, fun oa H6 n6 s6 e6 => ?_⟩⟩
    refine ⟨_, rfl, wk, CW, dx, _, rfl, s6 _ _ (s5 _ _ e4), TW.cl, TW.n_origins, Nat.lt_of_le_of_lt (L3 ma) (by decide), ?_⟩
    have now : oa ≠ wk := fun z => by
      rw [z, s5 _ _ e4] at n6
      cases n6
    have nom : ma ≠ oa := fun z => by
      rw [← z, s5 _ _ e4m] at n6
      cases n6
    have x6 : SameX wk H (upd H6 wk (.ins CW dx (putF "origins" (.ref oa) (putF "met" (.ref ma) (putF "other" (.ref m2) (putF "one" (.ref m1) [])))))) := SameX.upd fun b o nb e => s6 _ _ (s5 _ _ (x4 _ _ nb (x2 _ _ nb e)))
    have off : ∀ {a : Addr}, a ≠ wk → H2 a = none → H a = none := fun {a} na n => SameX.off x2 n na
    refine k _ ma oa t _ (off nmw n3) (off now (SameX.off x4 (none_of s5 n6) now)) nom x6 upd_same ⟨?_, ?_, ?_, ?_, ?_⟩ ?_ ?_ ?_
    · rw [lookup_putF, if_neg (by decide +kernel), lookup_putF, if_neg (by decide +kernel), lookup_putF, if_neg (by decide +kernel), lookup_putF, if_pos rfl]
    · rw [lookup_putF, if_neg (by decide +kernel), lookup_putF, if_neg (by decide +kernel), lookup_putF, if_pos rfl]
    · rw [lookup_putF, if_neg (by decide +kernel), lookup_putF, if_pos rfl]
    · rw [lookup_putF, if_pos rfl]
    · rw [lookup_putF, if_neg (by decide +kernel), lookup_putF, if_neg (by decide +kernel), lookup_putF, if_neg (by decide +kernel), lookup_putF, if_neg (by decide +kernel)]
      rfl
    · rw [upd_ne nmw]
      exact s6 _ _ (s5 _ _ e4m)
    · rw [upd_ne now]
      exact e6
    · unfold OrgT
      have e5' := s6 _ _ e5
      rw [upd_ne (fun z => by rw [z, s6 _ _ (s5 _ _ e4)] at e5'; cases e5')]
      exact e5'
theorem sc_walk_take : FnScope ["self", "pair", "number", "answer"] ["self", "pair", "number", "answer"] (defScope s_walk_take) := ⟨rfl, rfl, rfl, by decide +kernel, rfl, by decide +kernel, by decide +kernel⟩
theorem ok_walk_take {f : Addr} {fd : FuncData} (F : Fun K "take" "Walk.take" s_walk_take f fd) (TW : WalkC K CW) : FnOk P w K mg base CX0 1 f fd ["self", "pair", "number", "answer"] (spTake CW) := by
  refine F.ok sc_walk_take (fun vs H Q E h => ?_) (fun cdv A outer s H vs Q E hr h => ?_)
  · obtain ⟨H0, wk, m1, m2, ma, oa, q, n, a, p, met, org, rfl, _⟩ := h
    rfl
  · obtain ⟨H0, wk, m1, m2, ma, oa, q, n, a, p, met, org, rfl, W, hq, few, few2, k⟩ := h
    refine ⟨_, (pss_cons (ps_expr (pe_bm PySem.F.plainAttrs_list PySem.F.slot_list_append PySem.F.type_list_append mt_append (pe_fld (pv 0) rfl) (pa_cons (pv 1) pa_nil)))
      (pss_one (ps_expr (pe_bm PySem.F.plainAttrs_list PySem.F.slot_list_append PySem.F.type_list_append mt_append (pe_fld (pv 0) rfl) (pa_cons (pe_tupG (pa_cons (pv 2) (pa_cons (pv 3) pa_nil))) pa_nil))))), ?_⟩
    obtain ⟨⟨dx, fs, hw, wf⟩, ⟨vs, em, pm⟩, ⟨us, eo, lo⟩, ne, same, nm, no⟩ := W
    refine ⟨_, rfl, wk, CW, dx, fs, _, rfl, hw, TW.cl, TW.n_met, wf.met, .inl ⟨rfl, _, SqL.of em⟩, _, rfl, ma, _, _, rfl, rfl, em, by rw [pm.1, sizeLine_eq]; omega, ?_⟩
    have nwm : wk ≠ ma := fun z => by
      rw [z, em] at hw
      cases hw
    have hw1 : upd H ma (.lst (vs ++ [.ref q])) wk = some (.ins CW dx fs) := by
      rw [upd_ne nwm]
      exact hw
    have eo1 : upd H ma (.lst (vs ++ [.ref q])) oa = some (.lst us) := by
      rw [upd_ne (Ne.symm ne)]
      exact eo
    have em1 : upd H ma (.lst (vs ++ [.ref q])) ma = some (.lst (vs ++ [.ref q])) := upd_same
    have pm1 : Prs (upd H ma (.lst (vs ++ [.ref q]))) (vs ++ [.ref q]) (met ++ [p]) := (pm.snoc hq).other em
    have po1 : Orgs (upd H ma (.lst (vs ++ [.ref q]))) us org := lo.other em
    have x1 : ∀ b o, b ≠ ma → H b = some o → upd H ma (.lst (vs ++ [.ref q])) b = some o := fun b o nb e => by
      rw [upd_ne nb]
      exact e
    generalize upd H ma (.lst (vs ++ [.ref q])) = H1 at hw1 eo1 em1 pm1 po1 x1 ⊢
    refine ⟨_, rfl, wk, CW, dx, fs, _, rfl, hw1, TW.cl, TW.n_origins, wf.origins, .inl ⟨rfl, _, SqL.of eo1⟩, _, rfl, _, rfl, two_ok _ _, fun t H2 n2 s2 e2 => ?_⟩
    refine ⟨oa, _, _, rfl, rfl, s2 _ _ eo1, by rw [lo.1, sizeLine_eq]; omega, ?_⟩
    have nwo : wk ≠ oa := fun z => by
      rw [z, eo1] at hw1
      cases hw1
    refine k _ ⟨⟨dx, fs, by rw [upd_ne nwo]; exact s2 _ _ hw1, wf⟩, ⟨_, by rw [upd_ne ne]; exact s2 _ _ em1, (pm1.same s2).other (s2 _ _ eo1)⟩, ⟨_, upd_same, ((po1.same s2).snoc (p := (n, a)) (show OrgT H2 t (n, a) from e2)).other (s2 _ _ eo1)⟩, ne, fun b o e => ?_, nm, no⟩ (fun b o nb1 nb2 e => ?_)
    · rw [upd_ne (ne_of_none e no)]
      exact s2 _ _ (x1 _ _ (ne_of_none e nm) (same _ _ e))
    · rw [upd_ne nb2]
      exact s2 _ _ (x1 _ _ nb1 e)
end
end Mine

set_option maxRecDepth 100000
set_option maxHeartbeats 4000000
namespace Mine
open PySem L2
/-! what parts two machines, from a pair of rows of rest on. Plain mathematics -/
abbrev BASE : Nat := 1001
theorem base2 : 2 ≤ BASE := by decide
def behindAt (rs1 rs2 : List RowD) (p : Prw) : List Prw := match rs1[p.1]?, rs2[p.2]? with
  | some d1, some d2 => behind rs1 rs2 d1 d2
  | _, _ => []
def sucP (rs1 rs2 : List RowD) (p : Prw) (k : Nat) : Option Prw := (behindAt rs1 rs2 p)[k]?
def badP (rs1 rs2 : List RowD) (p : Prw) : Prop := showAt rs1 p.1 ≠ showAt rs2 p.2
abbrev DiffP (rs1 rs2 : List RowD) : Prw → List Nat → Prop := Wk.Diff (sucP rs1 rs2) (badP rs1 rs2)
def InP (rs1 rs2 : List RowD) (p : Prw) : Prop := p.1 < rs1.length ∧ p.2 < rs2.length
/-- what shows the same has as many nexts -/
def Even (rs1 rs2 : List RowD) : Prop := ∀ (i j : Nat) (d1 d2 : RowD), rs1[i]? = some d1 → rs2[j]? = some d2 → showD d1 = showD d2 → (nextsD d1).length = (nextsD d2).length
theorem InP.rows {rs1 rs2 : List RowD} {p : Prw} (h : InP rs1 rs2 p) : ∃ d1 d2, rs1[p.1]? = some d1 ∧ rs2[p.2]? = some d2 := ⟨_, _, List.getElem?_eq_getElem h.1, List.getElem?_eq_getElem h.2⟩
theorem behindAt_of {rs1 rs2 : List RowD} {p : Prw} {d1 d2 : RowD} (e1 : rs1[p.1]? = some d1) (e2 : rs2[p.2]? = some d2) : behindAt rs1 rs2 p = behind rs1 rs2 d1 d2 := by
  unfold behindAt
  rw [e1, e2]
theorem sucP_of {rs1 rs2 : List RowD} {p c : Prw} {k : Nat} (h : sucP rs1 rs2 p k = some c) : ∃ d1 d2 a b, rs1[p.1]? = some d1 ∧ rs2[p.2]? = some d2 ∧ (nextsD d1)[k]? = some a ∧ (nextsD d2)[k]? = some b ∧ c = (stp rs1 a.toNat, stp rs2 b.toNat) := by
  unfold sucP behindAt at h
  cases e1 : rs1[p.1]? with
  | none => rw [e1] at h; simp at h
  | some d1 =>
    cases e2 : rs2[p.2]? with
    | none => rw [e1, e2] at h; simp at h
    | some d2 =>
      rw [e1, e2] at h
      have h : (behind rs1 rs2 d1 d2)[k]? = some c := h
      unfold behind at h
      rw [List.getElem?_zipWith] at h
      cases g1 : (nextsD d1)[k]? with
      | none => rw [g1] at h; simp at h
      | some a =>
        cases g2 : (nextsD d2)[k]? with
        | none => rw [g1, g2] at h; simp at h
        | some b =>
          rw [g1, g2] at h
          exact ⟨d1, d2, a, b, rfl, rfl, g1, g2, (Option.some.inj h).symm⟩
theorem sucP_mk {rs1 rs2 : List RowD} {p : Prw} {k : Nat} {d1 d2 : RowD} {a b : Int} (e1 : rs1[p.1]? = some d1) (e2 : rs2[p.2]? = some d2) (g1 : (nextsD d1)[k]? = some a) (g2 : (nextsD d2)[k]? = some b) : sucP rs1 rs2 p k = some (stp rs1 a.toNat, stp rs2 b.toNat) := by
  unfold sucP
  rw [behindAt_of e1 e2]
  unfold behind
  rw [List.getElem?_zipWith, g1, g2]
theorem sucP_in {rs1 rs2 : List RowD} (f1 : Fit rs1) (f2 : Fit rs2) {p c : Prw} {k : Nat} (h : sucP rs1 rs2 p k = some c) : InP rs1 rs2 c := by
  obtain ⟨d1, d2, a, b, e1, e2, g1, g2, rfl⟩ := sucP_of h
  obtain ⟨a0, a1⟩ := f1.nexts e1 (List.mem_of_getElem? g1)
  obtain ⟨b0, b1⟩ := f2.nexts e2 (List.mem_of_getElem? g2)
  exact ⟨stp_lt f1.go (by omega), stp_lt f2.go (by omega)⟩
theorem sucP_lt {rs1 rs2 : List RowD} (few : ∀ d ∈ rs1, (nextsD d).length ≤ 1000) : ∀ (p : Prw) (k : Nat) (c : Prw), sucP rs1 rs2 p k = some c → k < BASE := fun p k c h => by
  obtain ⟨d1, d2, a, b, e1, e2, g1, g2, rfl⟩ := sucP_of h
  have h1 := (List.getElem?_eq_some_iff.mp g1).1
  have h2 := few d1 (List.mem_of_getElem? e1)
  show k < 1001
  omega
def opAt (rs : List RowD) (i : Nat) : Str := match rs[i]? with
  | some (.ask op _) => op
  | _ => ""
def runPr (rs1 rs2 : List RowD) : Prw → List Nat → Option Prw
  | p, [] => some p
  | p, k :: s => match sucP rs1 rs2 p k with
    | some c => runPr rs1 rs2 c s
    | none => none
def histP (rs1 rs2 : List RowD) : Prw → List Nat → List (Str × Nat)
  | _, [] => []
  | p, k :: s => (opAt rs1 p.1, k) :: match sucP rs1 rs2 p k with
    | some c => histP rs1 rs2 c s
    | none => []
theorem runPr_snoc {rs1 rs2 : List RowD} : ∀ {w : List Nat} {p q c : Prw} {k : Nat}, runPr rs1 rs2 p w = some q → sucP rs1 rs2 q k = some c → runPr rs1 rs2 p (w ++ [k]) = some c
  | [], p, q, c, k, h, e => by
    have : p = q := Option.some.inj h
    subst this
    show (match sucP rs1 rs2 p k with | some c => runPr rs1 rs2 c [] | none => none) = some c
    rw [e]
    rfl
  | l :: w, p, q, c, k, h, e => by
    show (match sucP rs1 rs2 p l with | some c => runPr rs1 rs2 c (w ++ [k]) | none => none) = some c
    have h : (match sucP rs1 rs2 p l with | some c => runPr rs1 rs2 c w | none => none) = some q := h
    cases z : sucP rs1 rs2 p l with
    | none => rw [z] at h; cases h
    | some y =>
      rw [z] at h
      exact runPr_snoc (w := w) h e
theorem histP_snoc {rs1 rs2 : List RowD} : ∀ {w : List Nat} {p q : Prw} {k : Nat}, runPr rs1 rs2 p w = some q → histP rs1 rs2 p (w ++ [k]) = histP rs1 rs2 p w ++ [(opAt rs1 q.1, k)]
  | [], p, q, k, h => by
    have : p = q := Option.some.inj h
    subst this
    show (opAt rs1 p.1, k) :: (match sucP rs1 rs2 p k with | some c => histP rs1 rs2 c [] | none => []) = [(opAt rs1 p.1, k)]
    cases sucP rs1 rs2 p k <;> rfl
  | l :: w, p, q, k, h => by
    have h : (match sucP rs1 rs2 p l with | some c => runPr rs1 rs2 c w | none => none) = some q := h
    show (opAt rs1 p.1, l) :: (match sucP rs1 rs2 p l with | some c => histP rs1 rs2 c (w ++ [k]) | none => []) = ((opAt rs1 p.1, l) :: (match sucP rs1 rs2 p l with | some c => histP rs1 rs2 c w | none => [])) ++ [(opAt rs1 q.1, k)]
    cases z : sucP rs1 rs2 p l with
    | none => rw [z] at h; cases h
    | some y =>
      rw [z] at h
      show _ = (opAt rs1 p.1, l) :: (histP rs1 rs2 y w ++ [(opAt rs1 q.1, k)])
      rw [← histP_snoc (w := w) h]
theorem runPr_inv {rs1 rs2 : List RowD} : ∀ {w : List Nat} {p q c : Prw} {k : Nat}, runPr rs1 rs2 p w = some q → runPr rs1 rs2 p (w ++ [k]) = some c → sucP rs1 rs2 q k = some c
  | [], p, q, c, k, h, e => by
    have : p = q := Option.some.inj h
    subst this
    have e : (match sucP rs1 rs2 p k with | some c => runPr rs1 rs2 c [] | none => none) = some c := e
    cases z : sucP rs1 rs2 p k with
    | none => rw [z] at e; cases e
    | some y => rw [z] at e; exact e
  | l :: w, p, q, c, k, h, e => by
    have e : (match sucP rs1 rs2 p l with | some c => runPr rs1 rs2 c (w ++ [k]) | none => none) = some c := e
    have h : (match sucP rs1 rs2 p l with | some c => runPr rs1 rs2 c w | none => none) = some q := h
    cases z : sucP rs1 rs2 p l with
    | none => rw [z] at h; cases h
    | some y =>
      rw [z] at h e
      exact runPr_inv (w := w) h e
/-- what a row of either machine shows behind answers -/
def outU (rs1 rs2 : List RowD) (x : Nat) : List Str := if x < rs1.length then showAt rs1 x else showAt rs2 (x - rs1.length)
def nxU (rs1 rs2 : List RowD) (x k : Nat) : Option Nat := if x < rs1.length then (stepsAt rs1 x)[k]?.map fun a => stp rs1 a.toNat else (stepsAt rs2 (x - rs1.length))[k]?.map fun a => rs1.length + stp rs2 a.toNat
def beh (rs1 rs2 : List RowD) : Nat → List Nat → List Str
  | x, [] => outU rs1 rs2 x
  | x, k :: s => match nxU rs1 rs2 x k with
    | some y => beh rs1 rs2 y s
    | none => []
theorem out_one {rs1 rs2 : List RowD} {p : Prw} (h : InP rs1 rs2 p) : outU rs1 rs2 p.1 = showAt rs1 p.1 := if_pos h.1
theorem out_two {rs1 rs2 : List RowD} {j : Nat} : outU rs1 rs2 (rs1.length + j) = showAt rs2 j := by
  unfold outU
  rw [if_neg (by omega), Nat.add_sub_cancel_left]
theorem nx_one {rs1 rs2 : List RowD} {i k : Nat} {d : RowD} (e : rs1[i]? = some d) : nxU rs1 rs2 i k = (nextsD d)[k]?.map fun a => stp rs1 a.toNat := by
  unfold nxU
  rw [if_pos (List.getElem?_eq_some_iff.mp e).1, stepsAt_of e]
theorem nx_two {rs1 rs2 : List RowD} {j k : Nat} {d : RowD} (e : rs2[j]? = some d) : nxU rs1 rs2 (rs1.length + j) k = (nextsD d)[k]?.map fun a => rs1.length + stp rs2 a.toNat := by
  unfold nxU
  rw [if_neg (by omega), Nat.add_sub_cancel_left, stepsAt_of e]
theorem diff_beh {rs1 rs2 : List RowD} (f1 : Fit rs1) (f2 : Fit rs2) : ∀ {s : List Nat} {p : Prw}, InP rs1 rs2 p → DiffP rs1 rs2 p s → beh rs1 rs2 p.1 s ≠ beh rs1 rs2 (rs1.length + p.2) s
  | [], p, hp, h => by
    show outU rs1 rs2 p.1 ≠ outU rs1 rs2 (rs1.length + p.2)
    rw [out_one hp, out_two]
    exact h
  | k :: s, p, hp, ⟨_, c, ec, dc⟩ => by
    obtain ⟨d1, d2, a, b, e1, e2, g1, g2, rfl⟩ := sucP_of ec
    have ih := diff_beh f1 f2 (sucP_in f1 f2 ec) dc
    show (match nxU rs1 rs2 p.1 k with | some y => beh rs1 rs2 y s | none => []) ≠ (match nxU rs1 rs2 (rs1.length + p.2) k with | some y => beh rs1 rs2 y s | none => [])
    rw [nx_one e1, nx_two e2, g1, g2]
    exact ih
theorem beh_same {rs1 rs2 : List RowD} (f1 : Fit rs1) (f2 : Fit rs2) (ev : Even rs1 rs2) : ∀ {s : List Nat} {p : Prw}, InP rs1 rs2 p → (∀ s', s' <+: s → ¬ DiffP rs1 rs2 p s') → beh rs1 rs2 p.1 s = beh rs1 rs2 (rs1.length + p.2) s
  | [], p, hp, h => by
    show outU rs1 rs2 p.1 = outU rs1 rs2 (rs1.length + p.2)
    rw [out_one hp, out_two]
    exact Classical.byContradiction fun z => h [] (List.prefix_refl _) z
  | k :: s, p, hp, h => by
    have np : ¬ badP rs1 rs2 p := h [] (List.nil_prefix)
    have eqs : showAt rs1 p.1 = showAt rs2 p.2 := Classical.byContradiction np
    obtain ⟨d1, d2, e1, e2⟩ := hp.rows
    have le : (nextsD d1).length = (nextsD d2).length := ev _ _ d1 d2 e1 e2 (by rw [← showAt_of e1, ← showAt_of e2]; exact eqs)
    show (match nxU rs1 rs2 p.1 k with | some y => beh rs1 rs2 y s | none => []) = (match nxU rs1 rs2 (rs1.length + p.2) k with | some y => beh rs1 rs2 y s | none => [])
    rw [nx_one e1, nx_two e2]
    by_cases hk : k < (nextsD d1).length
    · have g1 : (nextsD d1)[k]? = some (nextsD d1)[k] := List.getElem?_eq_getElem hk
      have g2 : (nextsD d2)[k]? = some (nextsD d2)[k] := List.getElem?_eq_getElem (by omega)
      have ec := sucP_mk e1 e2 g1 g2
      rw [g1, g2]
      exact beh_same f1 f2 ev (sucP_in f1 f2 ec) fun s' hs' hd => h (k :: s') (List.cons_prefix_cons.mpr ⟨rfl, hs'⟩) ⟨np, _, ec, hd⟩
    · rw [List.getElem?_eq_none (by omega), List.getElem?_eq_none (by omega)]
      rfl
/-- the groups are those that the pairs make -/
def Gen (n n1 : Nat) (met : List Prw) (rep : Nat → Nat) : Prop := ∀ S : Nat → Nat → Prop, (∀ x, S x x) → (∀ x y, S x y → S y x) → (∀ x y z, S x y → S y z → S x z) → (∀ p ∈ met, S p.1 (n1 + p.2)) → ∀ x y, x < n → y < n → rep x = rep y → S x y
theorem Gen.start (n n1 : Nat) : Gen n n1 [] (fun i => i) := fun S h1 _ _ _ x y _ _ e => by
  have : x = y := e
  rw [this]
  exact h1 y
theorem Gen.join {n n1 : Nat} {met : List Prw} {rep : Nat → Nat} (g : Gen n n1 met rep) {p : Prw} (h1 : p.1 < n) (h2 : n1 + p.2 < n) : Gen n n1 (met ++ [p]) (Wk.joinR rep (rep p.1) (rep (n1 + p.2))) := by
  intro S r s t hm x y hx hy e
  have old : ∀ u v, u < n → v < n → rep u = rep v → S u v := g S r s t fun q hq => hm q (List.mem_append_left _ hq)
  have link : S p.1 (n1 + p.2) := hm p (List.mem_append_right _ (List.mem_singleton.mpr rfl))
  unfold Wk.joinR at e
  by_cases zx : rep x = rep (n1 + p.2)
  · by_cases zy : rep y = rep (n1 + p.2)
    · exact old x y hx hy (by rw [zx, zy])
    · rw [if_pos zx, if_neg zy] at e
      exact t _ _ _ (old x _ hx h2 zx) (t _ _ _ (s _ _ link) (old _ y h1 hy e))
  · by_cases zy : rep y = rep (n1 + p.2)
    · rw [if_neg zx, if_pos zy] at e
      exact t _ _ _ (old x _ hx h1 e) (t _ _ _ link (old _ y h2 hy zy.symm))
    · rw [if_neg zx, if_neg zy] at e
      exact old x y hx hy e
theorem Gen.cover {rs1 rs2 : List RowD} (f1 : Fit rs1) (f2 : Fit rs2) (ev : Even rs1 rs2) {n : Nat} {met : List Prw} {rep : Nat → Nat} (g : Gen n rs1.length met rep) (hm : ∀ p ∈ met, InP rs1 rs2 p) {c : Prw} (hc : InP rs1 rs2 c) (h1 : c.1 < n) (h2 : rs1.length + c.2 < n)
    (e : rep c.1 = rep (rs1.length + c.2)) {s : List Nat} (d : DiffP rs1 rs2 c s) : ∃ (j : Nat) (q : Prw) (s' : List Nat), met[j]? = some q ∧ DiffP rs1 rs2 q s' ∧ s' <+: s := by
  refine Classical.byContradiction fun no => diff_beh f1 f2 hc d ?_
  refine g (fun x y => beh rs1 rs2 x s = beh rs1 rs2 y s) (fun _ => rfl) (fun _ _ h => h.symm) (fun _ _ _ a b => a.trans b) (fun q hq => ?_) _ _ h1 h2 e
  obtain ⟨j, hj, ej⟩ := List.mem_iff_getElem.mp hq
  exact beh_same f1 f2 ev (hm q hq) fun s' hs' hd => no ⟨j, q, s', by rw [List.getElem?_eq_getElem hj, ej], hd, hs'⟩
/-- where the pairs came from, by the words that led to them -/
structure OrgOk (org : List Org) (acc : List (List Nat)) : Prop where
  len : org.length = acc.length
  at0 : org[0]? = some (-1, -1)
  a0 : acc[0]? = some []
  up : ∀ (i : Nat) (o : Org), 0 < i → org[i]? = some o → ∃ (j k : Nat) (w : List Nat), o = ((j : Int), (k : Int)) ∧ j < i ∧ acc[j]? = some w ∧ acc[i]? = some (w ++ [k])
theorem OrgOk.push {org : List Org} {acc : List (List Nat)} (h : OrgOk org acc) (h0 : 0 < acc.length) {d k : Nat} {w : List Nat} (ew : acc[d]? = some w) : OrgOk (org ++ [((d : Int), (k : Int))]) (acc ++ [w ++ [k]]) := by
  have hd := (List.getElem?_eq_some_iff.mp ew).1
  refine ⟨by rw [List.length_append, List.length_append, h.len]; rfl, by rw [List.getElem?_append_left (by rw [h.len]; exact h0)]; exact h.at0, by rw [List.getElem?_append_left h0]; exact h.a0, fun i o hi e => ?_⟩
  by_cases z : i < org.length
  · rw [List.getElem?_append_left z] at e
    obtain ⟨j, l, v, e1, e2, e3, e4⟩ := h.up i o hi e
    exact ⟨j, l, v, e1, e2, by rw [List.getElem?_append_left (List.getElem?_eq_some_iff.mp e3).1]; exact e3, by rw [List.getElem?_append_left (List.getElem?_eq_some_iff.mp e4).1]; exact e4⟩
  · have hi2 : i = org.length := by
      have := (List.getElem?_eq_some_iff.mp e).1
      rw [List.length_append] at this
      simp at this
      omega
    subst hi2
    rw [List.getElem?_append_right (Nat.le_refl _), Nat.sub_self] at e
    have e := (Option.some.inj e).symm
    subst e
    exact ⟨d, k, w, rfl, by rw [h.len]; exact hd, by rw [List.getElem?_append_left hd]; exact ew, by rw [h.len, List.getElem?_append_right (Nat.le_refl _), Nat.sub_self]; rfl⟩
/-- each word leads to its pair -/
def Runs (rs1 rs2 : List RowD) (p0 : Prw) (met : List Prw) (acc : List (List Nat)) : Prop := ∀ (i : Nat) (w : List Nat), acc[i]? = some w → runPr rs1 rs2 p0 w = met[i]?
theorem Runs.push {rs1 rs2 : List RowD} {p0 : Prw} {met : List Prw} {acc : List (List Nat)} (h : Runs rs1 rs2 p0 met acc) (hl : acc.length = met.length) {d k : Nat} {p c : Prw} {w : List Nat} (ep : met[d]? = some p) (ew : acc[d]? = some w) (ec : sucP rs1 rs2 p k = some c) : Runs rs1 rs2 p0 (met ++ [c]) (acc ++ [w ++ [k]]) := by
  intro i v e
  by_cases z : i < acc.length
  · rw [List.getElem?_append_left z] at e
    rw [List.getElem?_append_left (by omega)]
    exact h i v e
  · have hi2 : i = acc.length := by
      have := (List.getElem?_eq_some_iff.mp e).1
      rw [List.length_append] at this
      simp at this
      omega
    subst hi2
    rw [List.getElem?_append_right (Nat.le_refl _), Nat.sub_self] at e
    have e := (Option.some.inj e).symm
    subst e
    rw [hl, List.getElem?_append_right (Nat.le_refl _), Nat.sub_self]
    exact runPr_snoc ((h d w ew).trans ep) ec
end Mine

set_option maxRecDepth 100000
set_option maxHeartbeats 4000000
namespace Mine
open PySem L2
abbrev s_parting_place : Stmt := top 45
/-- what is shown, as data -/
def showP (d : RowD) : PyData := .tuple ((showD d).map PyData.str)
def TxOk (rs : List RowD) : Prop := ∀ d ∈ rs, PyData.strOk (rowStr d) = true
theorem showS_ok {d : RowD} (h : PyData.strOk (rowStr d) = true) : ∀ t ∈ showD d, PyData.strOk t = true := by
  intro t ht
  cases d with
  | ask op ns =>
    rcases List.mem_cons.mp ht with z | z
    · rw [z]
      exact strOk_of "ask"
    · rw [List.mem_singleton.mp z]
      exact h
  | go n =>
    rw [List.mem_singleton.mp ht]
    exact strOk_of "hang"
  | fin w =>
    rcases List.mem_cons.mp ht with z | z
    · rw [z]
      exact strOk_of "end"
    · rw [List.mem_singleton.mp z]
      exact h
theorem strs_all {K : PySem.W.Frag} {H : Hp} : ∀ ts : List Str, DpAll K H (ts.map V.str) (ts.map PyData.str)
  | [] => .nil
  | t :: ts => .cons (.str t) (strs_all ts)
theorem show_dp {K : PySem.W.Frag} {H : Hp} {q : Addr} {d : RowD} (h : H q = some (.tup ((showD d).map V.str))) : Dp K H (.ref q) (showP d) := .tup (.inl (.inl h)) (strs_all _)
theorem strs_dep : ∀ ts : List Str, PyData.depthAll (ts.map PyData.str) = 0
  | [] => by simp [PyData.depthAll]
  | t :: ts => by simp [PyData.depthAll, PyData.depth, strs_dep ts]
theorem show_lay {d : RowD} (h : PyData.strOk (rowStr d) = true) : (showP d).canLay0 = true := by
  show PyData.canLayAll0 _ = true
  exact strs_lay _ (showS_ok h)
theorem show_shaped {d : RowD} (h : PyData.strOk (rowStr d) = true) : SeqAt.shaped (showP d) = true := by
  show (PyData.canLay0 _ && decide (PyData.depth _ ≤ 64)) = true
  rw [Bool.and_eq_true]
  refine ⟨show_lay h, decide_eq_true ?_⟩
  unfold showP
  simp only [PyData.depth]
  rw [strs_dep]
  decide
theorem strs_eqv : ∀ ns ms : List Str, (PyData.eqvAll (ns.map PyData.str) (ms.map PyData.str) = true) ↔ ns = ms
  | [], [] => by simp [PyData.eqvAll]
  | [], _ :: _ => by simp [PyData.eqvAll]
  | _ :: _, [] => by simp [PyData.eqvAll]
  | n :: ns, m :: ms => by
    have ih := strs_eqv ns ms
    simp [PyData.eqvAll, PyData.eqv, ih]
theorem show_eqv (d1 d2 : RowD) : (PyData.eqv (showP d1) (showP d2) = true) ↔ showD d1 = showD d2 := by
  unfold showP
  rw [PyData.eqv]
  exact strs_eqv _ _
theorem rgV_nat (n : Nat) : rgV 0 (n : Int) = flN n fun i => i := by
  unfold rgV flN fl
  rw [show ((n : Int) - 0).toNat = n by omega]
  refine List.map_congr_left fun i _ => ?_
  rw [Int.zero_add]
theorem joinR_self (rep : Nat → Nat) (x : Nat) : Wk.joinR rep x x = rep := by
  funext i
  unfold Wk.joinR
  split
  · rename_i z
    exact z.symm
  · rfl
/-- ahead of a turn -/
structure PartJ (CW : Addr) (H0 : Hp) (wk m1 m2 ma oa la : Addr) (n : Nat) (rs1 rs2 : List RowD) (p0 : Prw) (met : List Prw) (org : List Org) (acc : List (List Nat)) (ls rank rep : Nat → Nat) (d m : Nat) (H : Hp) : Prop where
  w : WalkP CW H0 H wk m1 m2 ma oa met org
  el : H la = some (.lst (flN n ls))
  n0 : H0 la = none
  a1 : ma ≠ la
  a2 : oa ≠ la
  r : Wk.Rep n ls rank rep
  all : ∀ p ∈ met, InP rs1 rs2 p
  gen : Gen n rs1.length met rep
  bfs : ∀ cap, Wk.Bfs BASE (sucP rs1 rs2) (badP rs1 rs2) p0 cap met acc d m
  org : OrgOk org acc
  runs : Runs rs1 rs2 p0 met acc
theorem PartJ.go {CW : Addr} {H0 H H' : Hp} {wk m1 m2 ma oa la : Addr} {n : Nat} {rs1 rs2 : List RowD} {p0 : Prw} {met : List Prw} {org : List Org} {acc : List (List Nat)} {ls rank rep : Nat → Nat} {d m : Nat} (h : PartJ CW H0 wk m1 m2 ma oa la n rs1 rs2 p0 met org acc ls rank rep d m H) (s : Same H H') : PartJ CW H0 wk m1 m2 ma oa la n rs1 rs2 p0 met org acc ls rank rep d m H' :=
  ⟨h.w.go s, s _ _ h.el, h.n0, h.a1, h.a2, h.r, h.all, h.gen, h.bfs, h.org, h.runs⟩
theorem bad_row {rs1 rs2 : List RowD} {p : Prw} {d1 d2 : RowD} (e1 : rs1[p.1]? = some d1) (e2 : rs2[p.2]? = some d2) : badP rs1 rs2 p ↔ showD d1 ≠ showD d2 := by
  unfold badP
  rw [showAt_of e1, showAt_of e2]
def spPartF (CW CM : Addr) : Sp := fun vs H Q _ => ∃ (H0 : Hp) (wk m1 m2 ma oa : Addr) (o1 o2 : Ops) (rs1 rs2 : List RowD) (b1 b2 : Nat) (p0 : Prw), vs = [.ref wk] ∧ WalkP CW H0 H wk m1 m2 ma oa [p0] [(-1, -1)] ∧ MachV CM H0 m1 o1 rs1 b1 ∧ MachV CM H0 m2 o2 rs2 b2 ∧
  Fit rs1 ∧ Fit rs2 ∧ rs1.length ≤ 100000 ∧ rs2.length ≤ 100000 ∧ TxOk rs1 ∧ TxOk rs2 ∧ (∀ d ∈ rs1, (nextsD d).length ≤ 1000) ∧ Even rs1 rs2 ∧ InP rs1 rs2 p0 ∧
  (∀ (met : List Prw) (org : List Org) (H' : Hp), WalkP CW H0 H' wk m1 m2 ma oa met org → (∀ u, ¬ DiffP rs1 rs2 p0 u) → Q (.int (-1)) H') ∧
  (∀ (met : List Prw) (org : List Org) (acc : List (List Nat)) (d : Nat) (q : Prw) (v : List Nat) (H' : Hp), WalkP CW H0 H' wk m1 m2 ma oa met org → met.length ≤ 200001 → acc.length = met.length → OrgOk org acc → Runs rs1 rs2 p0 met acc → met[d]? = some q → acc[d]? = some v → InP rs1 rs2 q → badP rs1 rs2 q →
    DiffP rs1 rs2 p0 v → (∀ u, DiffP rs1 rs2 p0 u → Wk.num BASE v ≤ Wk.num BASE u) → Q (.int (d : Int)) H')
section
variable {P : Program} {w : World} {K : PySem.W.Frag} {mg : Str → Option Value} {base : Heap}
variable {fII fIW CW CM a_led a_both a_behind f_take : Addr}
theorem sc_parting_place : FnScope ["walk", "many", "leaders", "done", "first", "second", "behind", "answer", "pair"] ["walk"] (defScope s_parting_place) := ⟨rfl, rfl, rfl, by decide +kernel, rfl, by decide +kernel, by decide +kernel⟩
theorem ok_parting_place {f : Addr} {fd fd_led fd_both fd_behind fd_take : FuncData} (F : Fun K "parting_place" "parting_place" s_parting_place f fd) (T : TxtF K mg fII fIW) (TM : MachC K CM) (TW : WalkC K CW) (h_range : mg "range" = none) (h_enum : mg "enumerate" = none)
    (GD : FnOk P w K mg base CX0 2 a_led fd_led ["leaders", "one", "other"] spLed) (b_led : Binds K fd_led ["leaders", "one", "other"] []) (g_led : mg "are_led_together" = some (.ref a_led)) (k_led : PySem.W.keepIn K (.ref a_led) = true)
    (GB : FnOk P w K mg base CX0 2 a_both fd_both ["one", "other", "pair"] (spBoth CM)) (b_both : Binds K fd_both ["one", "other", "pair"] []) (g_both : mg "both_shown" = some (.ref a_both)) (k_both : PySem.W.keepIn K (.ref a_both) = true)
    (GH : FnOk P w K mg base CX0 2 a_behind fd_behind ["one", "other", "pair"] (spBehind CM)) (b_behind : Binds K fd_behind ["one", "other", "pair"] []) (g_behind : mg "pairs_behind" = some (.ref a_behind)) (k_behind : PySem.W.keepIn K (.ref a_behind) = true)
    (GT : FnOk P w K mg base CX0 1 f_take fd_take ["self", "pair", "number", "answer"] (spTake CW)) (b_take : Binds K fd_take ["self", "pair", "number", "answer"] []) (m_take : Meth K CW "take" f_take) : FnOk P w K mg base CX0 3 f fd ["walk"] (spPartF CW CM) := by
  refine F.ok sc_parting_place (fun vs H Q E h => ?_) (fun cdv A outer s H vs Q E hr h => ?_)
  · obtain ⟨H0, wk, m1, m2, ma, oa, o1, o2, rs1, rs2, b1, b2, p0, rfl, _⟩ := h
    rfl
  · obtain ⟨H0, wk, m1, m2, ma, oa, o1, o2, rs1, rs2, b1, b2, p0, rfl, W, M1, M2, fit1, fit2, big1, big2, tx1, tx2, few, ev, in0, kN, kS⟩ := h
    refine ⟨_, (pss_cons (ps_set (i := 1) sc_parting_place.nd rfl (Or.inl rfl) (pe_callB call_len_seq (by rfl) T.b_len PySem.boot_len (pa_cons (pe_fld (pe_fld (pv 0) rfl) rfl) pa_nil)))
      (pss_cons (ps_set (i := 2) sc_parting_place.nd rfl (Or.inl rfl) (pe_listRg rfl (by rfl) T.b_list (prg_1 (by rfl) h_range (pe_op op_add (pv 1) (pe_callB call_len_seq (by rfl) T.b_len PySem.boot_len (pa_cons (pe_fld (pe_fld (pv 0) rfl) rfl) pa_nil))))))
      (pss_cons (ps_expr (pe_call GD (hr.mono (by decide)) (by rfl) g_led k_led b_led .nil pass0 (pa_cons (pv 2) (pa_cons (pe_ix ix_tup (pe_ix ix_list (pe_fld (pv 0) rfl) pe_int (fun _ _ => rfl)) pe_int (fun _ _ => rfl)) (pa_cons (pe_op op_add (pv 1) (pe_ix ix_tup (pe_ix ix_list (pe_fld (pv 0) rfl) pe_int (fun _ _ => rfl)) pe_int (fun _ _ => rfl))) pa_nil)))))
      (pss_cons (ps_set (i := 3) sc_parting_place.nd rfl (Or.inl rfl) pe_int)
      (pss_cons (ps_while PassesOwn.never (pt_cmpR op_lt (pv 3) (pe_callB call_len_seq (by rfl) T.b_len PySem.boot_len (pa_cons (pe_fld (pv 0) rfl) pa_nil)) (nomark _)) (pss_cons (ps_asg (pe_call GB (hr.mono (by decide)) (by rfl) g_both k_both b_both .nil pass0 (pa_cons (pe_fld (pv 0) rfl) (pa_cons (pe_fld (pv 0) rfl) (pa_cons (pe_ix ix_list (pe_fld (pv 0) rfl) (pv 3) (fun _ _ => rfl)) pa_nil)))) (pg_tup rfl (pgs_cons (pg_name (i := 4) sc_parting_place.nd rfl (Or.inl rfl)) (pgs_cons (pg_name (i := 5) sc_parting_place.nd rfl (Or.inl rfl)) pgs_nil))))
      (pss_cons (ps_if (pt_cmpR (op_neD hr.units) (pv 4) (pv 5) (nomark _)) (pss_one (ps_ret (pv 3))) pss_nil)
      (pss_cons (ps_set (i := 6) sc_parting_place.nd rfl (Or.inl rfl) (pe_call GH (hr.mono (by decide)) (by rfl) g_behind k_behind b_behind .nil pass0 (pa_cons (pe_fld (pv 0) rfl) (pa_cons (pe_fld (pv 0) rfl) (pa_cons (pe_ix ix_list (pe_fld (pv 0) rfl) (pv 3) (fun _ _ => rfl)) pa_nil)))))
      (pss_cons (ps_for PassesOwn.never rfl (pi_enum (by rfl) h_enum (pa_cons (pv 6) pa_nil)) (pg_tup rfl (pgs_cons (pg_name (i := 7) sc_parting_place.nd rfl (Or.inl rfl)) (pgs_cons (pg_name (i := 8) sc_parting_place.nd rfl (Or.inl rfl)) pgs_nil))) (pss_one (ps_if (pt_not (pt_val (pe_call GD (hr.mono (by decide)) (by rfl) g_led k_led b_led .nil pass0 (pa_cons (pv 2) (pa_cons (pe_ix ix_tup (pv 8) pe_int (fun _ _ => rfl)) (pa_cons (pe_op op_add (pv 1) (pe_ix ix_tup (pv 8) pe_int (fun _ _ => rfl))) pa_nil)))))) (pss_one (ps_expr (pe_meth (pv 0) TW.cl m_take GT (hr.mono (by decide)) b_take .nil pass0 (pa_cons (pv 8) (pa_cons (pv 3) (pa_cons (pv 7) pa_nil)))))) pss_nil)))
      (pss_one (ps_aug (i := 3) sc_parting_place.nd rfl (Or.inl rfl) pe_int ip_add)))))))
      (pss_one (ps_ret (pe_un un_neg pe_int)))))))), ?_⟩
    obtain ⟨⟨dx, fs, hw, wf⟩, ⟨vs0, em, pm⟩, _⟩ := id W
    have M1' := M1
    have M2' := M2
    obtain ⟨dm1, fm1, t1, l1, sa1, aa1, ea1, o1', xs1, as1, es1, p1⟩ := M1'
    obtain ⟨dm2, fm2, t2, l2, sa2, aa2, ea2, o2', xs2, as2, es2, p2⟩ := M2'
    have lt1 : p0.1 < rs1.length := in0.1
    have lt2 : p0.2 < rs2.length := in0.2
    refine ⟨_, rfl, wk, CW, dx, fs, _, rfl, hw, TW.cl, TW.n_one, wf.one, m1, CM, dm1, fm1, _, rfl, W.same _ _ p1.hm, TM.cl, TM.n_lines, p1.fs.lines, l1, _, rfl, .inl (SqL.of (W.same _ _ p1.hl)), ?_⟩
    refine ⟨_, rfl, _, rfl, wk, CW, dx, fs, _, rfl, hw, TW.cl, TW.n_other, wf.other, m2, CM, dm2, fm2, _, rfl, W.same _ _ p2.hm, TM.cl, TM.n_lines, p2.fs.lines, l2, _, rfl, .inl (SqL.of (W.same _ _ p2.hl)), _, _, rfl, rfl, _, rfl, ?_⟩
    rw [p1.rows.1, p2.rows.1]
    have en : (rs1.length : Int) + (rs2.length : Int) = ((rs1.length + rs2.length : Nat) : Int) := by omega
    rw [en]
    refine ⟨RgOk.of_le (Int.le_refl _) (by omega) (by omega) (by omega), fun la nla => ?_⟩
    rw [rgV_nat]
    have en1 : rs1.length + rs2.length ≤ 200000 := by omega
    generalize hn : rs1.length + rs2.length = n at en1
    have sl := sameNew nla (.lst (flN n fun i => i))
    have W1 := W.go sl
    have el1 : upd H la (.lst (flN n fun i => i)) la = some (.lst (flN n fun i => i)) := upd_same
    generalize upd H la (.lst (flN n fun i => i)) = H1 at sl W1 el1 ⊢
    have nma : ma ≠ la := ne_of_none em nla
    have noa : oa ≠ la := by
      obtain ⟨_, eo, _⟩ := W.eo
      exact ne_of_none eo nla
    have n0 : H0 la = none := none_of W.same nla
    obtain ⟨q0, v0, pq0⟩ := pm.2 0 p0 rfl
    have a00 : atI vs0 0 = some (.ref q0) := atI_nat (j := 0) v0
    have eadd : ∀ j : Nat, (rs1.length : Int) + (j : Int) = ((rs1.length + j : Nat) : Int) := fun j => by omega
    have evl : ∀ (a j : Nat), ([.ref la, .int (a : Int), .int ((rs1.length : Int) + (j : Int))] : List V) = [.ref la, .int (a : Int), .int ((rs1.length + j : Nat) : Int)] := fun a j => by rw [eadd]
    refine ⟨_, rfl, _, rfl, wk, CW, dx, fs, _, rfl, sl _ _ hw, TW.cl, TW.n_met, wf.met, ma, _, _, _, rfl, rfl, SqL.of (sl _ _ em), a00, _, _, _, _, rfl, rfl, .inl (.inl (sl _ _ pq0)), at0', ?_⟩
    refine ⟨_, rfl, _, rfl, wk, CW, dx, fs, _, rfl, sl _ _ hw, TW.cl, TW.n_met, wf.met, ma, _, _, _, rfl, rfl, SqL.of (sl _ _ em), a00, _, _, _, _, rfl, rfl, .inl (.inl (sl _ _ pq0)), at1', _, _, rfl, rfl, ?_⟩
    refine ⟨la, n, p0.1, rs1.length + p0.2, _, _, _, evl _ _, el1, Wk.Rep.start n, by omega, by omega, fun ls2 rank2 H2 r2 bt2 e2 => ?_⟩
    have W2 := W1.but bt2 el1 n0 nma noa
    have sum2 : Wk.groups n (Wk.joinR (fun i => i) p0.1 (rs1.length + p0.2)) + [p0].length ≤ n + 1 := by
      have := Wk.groups_le n (Wk.joinR (fun i => i) p0.1 (rs1.length + p0.2))
      show _ + 1 ≤ n + 1
      omega
    have gen2 : Gen n rs1.length [p0] (Wk.joinR (fun i => i) p0.1 (rs1.length + p0.2)) := (Gen.start n rs1.length).join (p := p0) (by omega) (by omega)
    have runs2 : Runs rs1 rs2 p0 [p0] [[]] := fun i w e => by
      match i with
      | 0 =>
        have := Option.some.inj e
        subst this
        rfl
      | i + 1 => simp at e
    have org2 : OrgOk [(-1, -1)] [[]] := ⟨rfl, rfl, rfl, fun i o hi e => by
      match i with
      | 0 => omega
      | i + 1 => simp at e⟩
    refine ⟨fun m σ H' => ∃ (d : Nat) (met : List Prw) (org : List Org) (acc : List (List Nat)) (ls rank rep : Nat → Nat) (v4 v5 v6 v7 v8 : Option V), m = Wk.groups n rep + met.length - d ∧ σ = [some (.ref wk), some (.int (rs1.length : Int)), some (.ref la), some (.int (d : Int)), v4, v5, v6, v7, v8] ∧ PartJ CW H0 wk m1 m2 ma oa la n rs1 rs2 p0 met org acc ls rank rep d 0 H' ∧ d ≤ met.length ∧ Wk.groups n rep + met.length ≤ n + 1, ⟨_, 0, [p0], [(-1, -1)], [[]], ls2, rank2, _, none, none, none, none, none, rfl, rfl, ⟨W2, e2, n0, nma, noa, r2, fun p hp => by rw [List.mem_singleton.mp hp]; exact in0, gen2, fun cap => Wk.Bfs.start base2, org2, runs2⟩, Nat.zero_le _, sum2⟩, ?_⟩
    rintro m σ H' ⟨d, met, org, acc, ls, rank, rep, v4, v5, v6, v7, v8, rfl, rfl, I, hd, sum⟩
    obtain ⟨⟨dx', fs', hw', wf'⟩, ⟨vs', em', pm'⟩, _⟩ := id I.w
    have lacc : acc.length = met.length := (I.bfs 0).len
    refine ⟨_, rfl, _, rfl, wk, CW, dx', fs', _, rfl, hw', TW.cl, TW.n_met, wf'.met, ma, _, rfl, .inl (SqL.of em'), _, _, rfl, rfl, _, rfl, ?_⟩
    rw [pm'.1]
    refine ite2 (fun h1 => ?_) (fun h1 => ?_)
    · have hlt : d < met.length := by
        have := of_decide_eq_true h1
        omega
      obtain ⟨p, ep⟩ : ∃ p, met[d]? = some p := ⟨_, List.getElem?_eq_getElem hlt⟩
      obtain ⟨wd, ewd⟩ : ∃ wd, acc[d]? = some wd := ⟨_, List.getElem?_eq_getElem (by omega)⟩
      have inp := I.all p (List.mem_of_getElem? ep)
      obtain ⟨d1, d2, g1, g2⟩ := inp.rows
      obtain ⟨qd, vd, pqd⟩ := pm'.2 d p ep
      have s0 := I.w.same
      refine ⟨fun σ' H'' => ∃ (met' : List Prw) (org' : List Org) (acc' : List (List Nat)) (ls' rank' rep' : Nat → Nat) (v4 v5 v6 v7 v8 : Option V), σ' = [some (.ref wk), some (.int (rs1.length : Int)), some (.ref la), some (.int ((d + 1 : Nat) : Int)), v4, v5, v6, v7, v8] ∧ PartJ CW H0 wk m1 m2 ma oa la n rs1 rs2 p0 met' org' acc' ls' rank' rep' (d + 1) 0 H'' ∧ met.length ≤ met'.length ∧ Wk.groups n rep' + met'.length = Wk.groups n rep + met.length, fun σ' H'' ⟨met', org', acc', ls', rank', rep', v4, v5, v6, v7, v8, z1, z2, z3, z4⟩ => ⟨Wk.groups n rep + met.length - (d + 1), by omega, d + 1, met', org', acc', ls', rank', rep', v4, v5, v6, v7, v8, by rw [z4], z1, z2, by omega, by omega⟩, ?_⟩
      refine ⟨_, rfl, wk, CW, dx', fs', _, rfl, hw', TW.cl, TW.n_one, wf'.one, _, rfl, wk, CW, dx', fs', _, rfl, hw', TW.cl, TW.n_other, wf'.other, _, rfl, wk, CW, dx', fs', _, rfl, hw', TW.cl, TW.n_met, wf'.met, _, rfl, ma, _, _, _, rfl, rfl, SqL.of em', atI_nat vd, ?_⟩
      refine ⟨m1, m2, qd, o1, o2, rs1, rs2, b1, b2, p, d1, d2, rfl, M1.same s0, M2.same s0, pqd, g1, g2, fun u s1 s2 H3 s3 eu es1 es2 => ?_⟩
      refine ⟨u, _, rfl, .inl (.inl eu), rfl, _, _, rfl, _, _, rfl, rfl, ?_⟩
      have ok1 := tx1 _ (List.mem_of_getElem? g1)
      have ok2 := tx2 _ (List.mem_of_getElem? g2)
      refine ⟨_, rfl, _, rfl, showP d1, showP d2, show_dp es1, show_dp es2, show_shaped ok1, show_shaped ok2, _, rfl, ?_⟩
      have I3 := I.go s3
      by_cases same : showD d1 = showD d2
      · rw [(show_eqv d1 d2).mpr same]
        refine iteF ?_
        have nbad : ¬ badP rs1 rs2 p := fun z => (bad_row g1 g2).mp z same
        refine ⟨_, rfl, wk, CW, dx', fs', _, rfl, s3 _ _ hw', TW.cl, TW.n_one, wf'.one, _, rfl, wk, CW, dx', fs', _, rfl, s3 _ _ hw', TW.cl, TW.n_other, wf'.other, _, rfl, wk, CW, dx', fs', _, rfl, s3 _ _ hw', TW.cl, TW.n_met, wf'.met, _, rfl, ma, _, _, _, rfl, rfl, SqL.of (s3 _ _ em'), atI_nat vd, ?_⟩
        refine ⟨m1, m2, qd, o1, o2, rs1, rs2, b1, b2, p, d1, d2, rfl, M1.same (s0.trans s3), M2.same (s0.trans s3), s3 _ _ pqd, g1, g2, fit1, fit2, few _ (List.mem_of_getElem? g1), fun D us H4 nD s4 eD pD => ?_⟩
        have I4 := I3.go s4
        have nDl : D ≠ la := fun z => by
          rw [z, I3.el] at nD
          cases nD
        have nDm : D ≠ ma := fun z => by
          rw [z, s3 _ _ em'] at nD
          cases nD
        have nDo : D ≠ oa := fun z => by
          obtain ⟨_, eo, _⟩ := I3.w.eo
          rw [z, eo] at nD
          cases nD
        refine ⟨_, rfl, D, us, rfl, SqL.of eD, for_enumL (K := K) (a := D) (xs := us) (fun j σ H5 => ∃ (met' : List Prw) (org' : List Org) (acc' : List (List Nat)) (ls' rank' rep' : Nat → Nat) (v7 v8 : Option V), σ = [some (.ref wk), some (.int (rs1.length : Int)), some (.ref la), some (.int (d : Int)), some (.ref s1), some (.ref s2), some (.ref D), v7, v8] ∧ PartJ CW H0 wk m1 m2 ma oa la n rs1 rs2 p0 met' org' acc' ls' rank' rep' d j H5 ∧ H5 D = some (.lst us) ∧ Prs H5 us (behind rs1 rs2 d1 d2) ∧ met.length ≤ met'.length ∧ Wk.groups n rep' + met'.length = Wk.groups n rep + met.length ∧ met'[d]? = some p ∧ acc'[d]? = some wd) ⟨met, org, acc, ls, rank, rep, _, _, rfl, I4, eD, pD, Nat.le_refl _, rfl, ep, ewd⟩ (fun j σ H5 _ z => by obtain ⟨_, _, _, _, _, _, _, _, _, _, z, _⟩ := z; exact SqL.of z) ?_ ?_⟩
        · rintro j x σ Ha T' Hb hxj ⟨met', org', acc', ls', rank', rep', w7, w8, rfl, Ia, eDa, pDa, ge, sm, epd, ewd'⟩ nT sT eT
          have hj : j < (behind rs1 rs2 d1 d2).length := by
            have := (List.getElem?_eq_some_iff.mp hxj).1
            rw [← pD.1]
            exact this
          obtain ⟨pj, epj⟩ : ∃ pj, (behind rs1 rs2 d1 d2)[j]? = some pj := ⟨_, List.getElem?_eq_getElem hj⟩
          obtain ⟨qj, vj, pqj⟩ := pDa.2 j pj epj
          rw [hxj] at vj
          cases vj
          have sc : sucP rs1 rs2 p j = some pj := by
            unfold sucP
            rw [behindAt_of g1 g2]
            exact epj
          have inj := sucP_in fit1 fit2 sc
          have lj1 : pj.1 < rs1.length := inj.1
          have lj2 : pj.2 < rs2.length := inj.2
          have jB : j < BASE := sucP_lt few p j pj sc
          have Ib := Ia.go sT
          refine ⟨T', _, rfl, .inl (.inl eT), rfl, _, _, rfl, _, _, rfl, rfl, ?_⟩
          refine ⟨_, rfl, _, rfl, _, _, _, _, rfl, rfl, .inl (.inl (sT _ _ pqj)), at0', ?_⟩
          refine ⟨_, rfl, _, rfl, _, _, _, _, rfl, rfl, .inl (.inl (sT _ _ pqj)), at1', _, _, rfl, rfl, ?_⟩
          refine ⟨la, n, pj.1, rs1.length + pj.2, _, _, _, evl _ _, Ib.el, Ib.r, by omega, by omega, fun ls6 rank6 H6 r6 bt6 e6 => ⟨_, rfl, ?_⟩⟩
          have W6 := Ib.w.but bt6 Ib.el Ib.n0 Ib.a1 Ib.a2
          have eD6 : H6 D = some (.lst us) := bt6 _ _ nDl (sT _ _ eDa)
          have pD6 : Prs H6 us (behind rs1 rs2 d1 d2) := ⟨pDa.1, fun kk pp ee => by
            obtain ⟨qq, k1, k2⟩ := pDa.2 kk pp ee
            have k3 := sT _ _ k2
            exact ⟨qq, k1, bt6 _ _ (fun z => by rw [z, Ib.el] at k3; cases k3) k3⟩⟩
          have pq6 := (pD6.2 j pj epj)
          rw [hxj] at pq6
          obtain ⟨_, c6, pq6⟩ := pq6
          cases c6
          have len' : acc'.length = met'.length := (Ia.bfs 0).len
          by_cases hab : rep' pj.1 = rep' (rs1.length + pj.2)
          · rw [decide_eq_true hab]
            refine iteF ?_
            have r6' := r6
            rw [hab, joinR_self] at r6'
            refine ⟨met', org', acc', ls6, rank6, rep', _, _, rfl, ⟨W6, e6, Ib.n0, Ib.a1, Ib.a2, r6', Ib.all, Ib.gen, fun cap => (Ib.bfs cap).skip epd ewd' fun c ec _ s ds => ?_, Ib.org, Ib.runs⟩, eD6, pD6, ge, sm, epd, ewd'⟩
            rw [sc] at ec
            have ec := Option.some.inj ec
            subst ec
            exact Ib.gen.cover fit1 fit2 ev Ib.all inj (by omega) (by omega) hab ds
          · rw [decide_eq_false hab]
            refine iteT ?_
            have gj := Wk.groups_join Ib.r (a := rep' pj.1) (b := rep' (rs1.length + pj.2)) (Ib.r.rlt _ (by omega)) (Ib.r.root' (by omega)).2 (Ib.r.root' (by omega)).2 hab
            obtain ⟨dx6, fs6, hw6, wf6⟩ := W6.hw
            have lorg : org'.length = met'.length := by rw [Ib.org.len, len']
            refine ⟨_, rfl, wk, dx6, fs6, rfl, hw6, wf6.take, _, rfl, _, rfl, _, rfl, H0, wk, m1, m2, ma, oa, qj, (d : Int), ((j : Nat) : Int), pj, met', org', rfl, W6, pq6, by omega, by omega, fun H7 W7 off => ?_⟩
            have el7 := off la _ (Ne.symm Ib.a1) (Ne.symm Ib.a2) e6
            have eD7 := off D _ nDm nDo eD6
            have hd' : d < met'.length := (List.getElem?_eq_some_iff.mp epd).1
            refine ⟨met' ++ [pj], org' ++ [((d : Int), (j : Int))], acc' ++ [wd ++ [j]], ls6, rank6, _, _, _, rfl, ⟨W7, el7, Ib.n0, Ib.a1, Ib.a2, r6, fun y hy => (List.mem_append.mp hy).elim (Ib.all y) fun z => by rw [List.mem_singleton.mp z]; exact inj, Ib.gen.join (by omega) (by omega), fun cap => (Ib.bfs cap).push epd ewd' nbad sc jB, Ib.org.push (by omega) ewd', Ib.runs.push len' epd ewd' sc⟩, eD7, ⟨pD6.1, fun kk pp ee => ?_⟩, by rw [List.length_append]; omega, by rw [List.length_append]; show _ + (met'.length + 1) = _; omega, by rw [List.getElem?_append_left hd']; exact epd, by rw [List.getElem?_append_left (by omega)]; exact ewd'⟩
            obtain ⟨qq, k1, k2⟩ := pD6.2 kk pp ee
            refine ⟨qq, k1, off _ _ (fun z => ?_) (fun z => ?_) k2⟩
            · obtain ⟨_, em6, _⟩ := W6.em
              unfold PairT at k2
              rw [z, em6] at k2
              cases k2
            · obtain ⟨_, eo6, _⟩ := W6.eo
              unfold PairT at k2
              rw [z, eo6] at k2
              cases k2
        · rintro σ H5 ⟨met', org', acc', ls', rank', rep', w7, w8, rfl, I5, _, pD5, ge, sm, epd, ewd'⟩
          have le : us.length ≤ BASE := by
            rw [pD5.1]
            unfold behind
            rw [List.length_zipWith]
            have := few _ (List.mem_of_getElem? g1)
            show _ ≤ 1001
            omega
          refine ⟨_, rfl, _, _, rfl, rfl, met', org', acc', ls', rank', rep', _, _, _, _, _, rfl, ⟨I5.w, I5.el, I5.n0, I5.a1, I5.a2, I5.r, I5.all, I5.gen, fun cap => (I5.bfs cap).next base2 epd ewd' nbad le fun k c hk ec => ?_, I5.org, I5.runs⟩, ge, sm⟩
          unfold sucP at ec
          rw [behindAt_of g1 g2] at ec
          have := (List.getElem?_eq_some_iff.mp ec).1
          rw [← pD5.1] at this
          omega
      · have ne : PyData.eqv (showP d1) (showP d2) = false := Bool.eq_false_iff.mpr fun z => same ((show_eqv d1 d2).mp z)
        rw [ne]
        refine iteT ?_
        have hb : badP rs1 rs2 p := (bad_row g1 g2).mpr same
        obtain ⟨dv, lv⟩ := (I.bfs wd.length).least base2 (sucP_lt few) ep ewd hb (Nat.le_refl _)
        exact ⟨_, rfl, kS met org acc d p wd H3 I3.w (by omega) lacc I.org I.runs ep ewd inp hb dv lv⟩
    · have hge : d = met.length := by
        by_cases z : d < met.length
        · exact absurd (decide_eq_true (by omega)) h1
        · omega
      subst hge
      refine ⟨_, rfl, kN met org H' I.w fun u du => ?_⟩
      have := (I.bfs u.length).none base2 (sucP_lt few) u du
      omega
end
end Mine

set_option maxRecDepth 100000
set_option maxHeartbeats 4000000
namespace Mine
open PySem L2
abbrev s_told_of : Stmt := top 49
abbrev s_joined : Stmt := top 24
abbrev s_walk_of : Stmt := top 52
abbrev s_parted : Stmt := top 51
theorem opLook_mem {o : Ops} {x : Str} {m : Int} (h : opLook o x = some m) : (x, m) ∈ o := by
  unfold opLook at h
  cases e : o.find? fun p => decide (p.1 = x) with
  | none => rw [e] at h; cases h
  | some p =>
    rw [e] at h
    have h2 := List.find?_some e
    have h3 : p.1 = x := of_decide_eq_true h2
    have h4 : p.2 = m := Option.some.inj h
    rw [← h3, ← h4]
    exact List.mem_of_find?_eq_some e
theorem opLook_none {o : Ops} {x : Str} (h : opLook o x = none) : x ∉ o.map (·.1) := fun z => by
  obtain ⟨p, hp, e⟩ := List.mem_map.mp z
  unfold opLook at h
  have := List.find?_eq_none.mp (Option.map_eq_none_iff.mp h) p hp
  exact this (decide_eq_true e)

/-- a history's pairs stand there -/
def HPs (H : Hp) (vs : List V) (ws : List (Str × Nat)) : Prop := vs.length = ws.length ∧ ∀ (k : Nat) (p : Str × Nat), ws[k]? = some p → ∃ q, vs[k]? = some (.ref q) ∧ H q = some (.tup [.str p.1, .int (p.2 : Int)])
theorem HPs.same {H H' : Hp} {vs : List V} {ws : List (Str × Nat)} (s : Same H H') (h : HPs H vs ws) : HPs H' vs ws := ⟨h.1, fun k p e => by
  obtain ⟨q, h1, h2⟩ := h.2 k p e
  exact ⟨q, h1, s _ _ h2⟩⟩
theorem HPs.nil (H : Hp) : HPs H [] [] := ⟨rfl, fun k p e => by simp at e⟩
theorem HPs.snoc {H : Hp} {vs : List V} {ws : List (Str × Nat)} {q : Addr} {p : Str × Nat} (h : HPs H vs ws) (e : H q = some (.tup [.str p.1, .int (p.2 : Int)])) : HPs H (vs ++ [.ref q]) (ws ++ [p]) := by
  refine ⟨by rw [List.length_append, List.length_append, h.1]; rfl, fun k r er => ?_⟩
  by_cases z : k < ws.length
  · rw [List.getElem?_append_left z] at er
    obtain ⟨q', h1, h2⟩ := h.2 k r er
    exact ⟨q', by rw [List.getElem?_append_left (by rw [h.1]; exact z)]; exact h1, h2⟩
  · have hk : k = ws.length := by
      have := (List.getElem?_eq_some_iff.mp er).1
      rw [List.length_append] at this
      simp at this
      omega
    subst hk
    rw [List.getElem?_append_right (Nat.le_refl _), Nat.sub_self] at er
    have er2 : p = r := Option.some.inj er
    subst er2
    exact ⟨q, by rw [List.getElem?_append_right (by rw [h.1]; exact Nat.le_refl _), h.1, Nat.sub_self]; rfl, e⟩
theorem HPs.other {H : Hp} {D : Addr} {vs ys : List V} {ws : List (Str × Nat)} {o : HO} (e : H D = some (.lst ys)) (h : HPs H vs ws) : HPs (upd H D o) vs ws := ⟨h.1, fun k p ek => by
  obtain ⟨q, h1, h2⟩ := h.2 k p ek
  exact ⟨q, h1, by rw [upd_ne (fun z => by rw [z, e] at h2; cases h2)]; exact h2⟩⟩
theorem HPs.rev {H : Hp} {vs : List V} {ws : List (Str × Nat)} (h : HPs H vs ws) : HPs H vs.reverse ws.reverse := by
  refine ⟨by rw [List.length_reverse, List.length_reverse, h.1], fun k p e => ?_⟩
  have hk : k < ws.length := by
    have := (List.getElem?_eq_some_iff.mp e).1
    rw [List.length_reverse] at this
    exact this
  rw [List.getElem?_reverse hk] at e
  rw [List.getElem?_reverse (by rw [h.1]; exact hk), h.1]
  exact h.2 _ _ e
def HistT (H : Hp) (h : Addr) (ws : List (Str × Nat)) : Prop := ∃ vs, H h = some (.tup vs) ∧ HPs H vs ws
theorem HistT.same {H H' : Hp} {h : Addr} {ws : List (Str × Nat)} (s : Same H H') (t : HistT H h ws) : HistT H' h ws := by
  obtain ⟨vs, h1, h2⟩ := t
  exact ⟨vs, s _ _ h1, h2.same s⟩
/-- what parts two bodies: the history, what both show behind it -/
def ToldT (H : Hp) (t : Addr) (ws : List (Str × Nat)) (u v : List Str) : Prop := ∃ h a b, H t = some (.tup [.ref h, .ref a, .ref b]) ∧ HistT H h ws ∧ H a = some (.tup (u.map V.str)) ∧ H b = some (.tup (v.map V.str))
theorem ToldT.same {H H' : Hp} {t : Addr} {ws : List (Str × Nat)} {u v : List Str} (s : Same H H') (h : ToldT H t ws u v) : ToldT H' t ws u v := by
  obtain ⟨x, a, b, h1, h2, h3, h4⟩ := h
  exact ⟨x, a, b, s _ _ h1, h2.same s, s _ _ h3, s _ _ h4⟩
theorem ne_of_some2 {H : Hp} {a b : Addr} {xs : List V} {ys : List V} (e : H a = some (.lst xs)) (h : H b = some (.tup ys)) : b ≠ a := fun z => by
  rw [z, e] at h
  cases h
theorem three_ok (v u t : V) : [v, u, t].length ≤ sizeLine := by rw [sizeLine_eq]; exact Nat.le_trans (show 3 ≤ 3 from Nat.le_refl 3) (by decide)
/-- the operations of several dicts go together -/
def spJoined : Sp := fun vs H Q _ => ∃ (a : Addr) (ts : List (Addr × Ops)) (g : Str → Option Int), vs = [.ref a] ∧ H a = some (.lst (ts.map fun t => V.ref t.1)) ∧ (∀ t ∈ ts, H t.1 = some (.dK (opsK t.2)) ∧ ∀ p ∈ t.2, g p.1 = some p.2) ∧
  (ts.map fun t => t.2.length).sum < 64 ∧ ∀ (q : Addr) (H' : Hp), Same H H' → Q (.ref q) H'
/-- what was gathered so far -/
structure JoinI (ka ua : Addr) (g : Str → Option Int) (n : Nat) (acc : Ops) (Hx : Hp) : Prop where
  ek : Hx ka = some (.dK (opsK acc))
  eu : Hx ua = some (.lst [])
  nd : (acc.map (·.1)).Nodup
  ok : ∀ p ∈ acc, g p.1 = some p.2
  few : acc.length ≤ n

def spToldF (CW CM : Addr) : Sp := fun vs H Q _ => (∃ (v : V) (n : Int), vs = [v, .int n] ∧ n < 0 ∧ Q .non H) ∨
  (∃ (H0 : Hp) (wk m1 m2 ma oa : Addr) (o1 o2 : Ops) (rs1 rs2 : List RowD) (b1 b2 : Nat) (p0 : Prw) (met : List Prw) (org : List Org) (acc : List (List Nat)) (d : Nat) (q : Prw) (v : List Nat), vs = [.ref wk, .int (d : Int)] ∧ WalkP CW H0 H wk m1 m2 ma oa met org ∧ MachV CM H0 m1 o1 rs1 b1 ∧ MachV CM H0 m2 o2 rs2 b2 ∧
    met.length ≤ 200001 ∧ acc.length = met.length ∧ OrgOk org acc ∧ Runs rs1 rs2 p0 met acc ∧ met[d]? = some q ∧ acc[d]? = some v ∧ InP rs1 rs2 q ∧
    ∀ (t : Addr) (H' : Hp), Same H H' → ToldT H' t (histP rs1 rs2 p0 v) (showAt rs1 q.1) (showAt rs2 q.2) → Q (.ref t) H')
section
variable {P : Program} {w : World} {K : PySem.W.Frag} {mg : Str → Option Value} {base : Heap}
variable {fII fIW CB CM CW a_in_order a_joined a_begin a_part a_both a_walk a_told f_walk : Addr}
theorem sc_told_of : FnScope ["walk", "number", "first", "second", "history", "answer"] ["walk", "number"] (defScope s_told_of) := ⟨rfl, rfl, rfl, by decide +kernel, rfl, by decide +kernel, by decide +kernel⟩
theorem ok_told_of {f : Addr} {fd fd_both : FuncData} (F : Fun K "told_of" "told_of" s_told_of f fd) (T : TxtF K mg fII fIW) (TM : MachC K CM) (TW : WalkC K CW)
    (GB : FnOk P w K mg base CX0 2 a_both fd_both ["one", "other", "pair"] (spBoth CM)) (b_both : Binds K fd_both ["one", "other", "pair"] []) (g_both : mg "both_shown" = some (.ref a_both)) (k_both : PySem.W.keepIn K (.ref a_both) = true) : FnOk P w K mg base CX0 3 f fd ["walk", "number"] (spToldF CW CM) := by
  refine F.ok sc_told_of (fun vs H Q E h => ?_) (fun cdv A outer s H vs Q E hr h => ?_)
  · rcases h with ⟨v, n, rfl, _⟩ | ⟨H0, wk, m1, m2, ma, oa, o1, o2, rs1, rs2, b1, b2, p0, met, org, acc, d, q, v, rfl, _⟩ <;> rfl
  · refine ⟨_, (pss_cons (ps_if (pt_cmpR op_lt (pv 1) pe_int (nomark _)) (pss_one (ps_ret pe_non)) pss_nil)
      (pss_cons (ps_asg (pe_call GB (hr.mono (by decide)) (by rfl) g_both k_both b_both .nil pass0 (pa_cons (pe_fld (pv 0) rfl) (pa_cons (pe_fld (pv 0) rfl) (pa_cons (pe_ix ix_list (pe_fld (pv 0) rfl) (pv 1) (fun _ _ => rfl)) pa_nil)))) (pg_tup rfl (pgs_cons (pg_name (i := 2) sc_told_of.nd rfl (Or.inl rfl)) (pgs_cons (pg_name (i := 3) sc_told_of.nd rfl (Or.inl rfl)) pgs_nil))))
      (pss_cons (ps_set (i := 4) sc_told_of.nd rfl (Or.inl rfl) (pe_lstG pa_nil))
      (pss_cons (ps_while PassesOwn.never (pt_cmpR op_ge (pe_ix ix_tup (pe_ix ix_list (pe_fld (pv 0) rfl) (pv 1) (fun _ _ => rfl)) pe_int (fun _ _ => rfl)) pe_int (nomark _)) (pss_cons (ps_asg (pe_ix ix_list (pe_fld (pv 0) rfl) (pv 1) (fun _ _ => rfl)) (pg_tup rfl (pgs_cons (pg_name (i := 1) sc_told_of.nd rfl (Or.inl rfl)) (pgs_cons (pg_name (i := 5) sc_told_of.nd rfl (Or.inl rfl)) pgs_nil))))
      (pss_one (ps_expr (pe_bm PySem.F.plainAttrs_list PySem.F.slot_list_append PySem.F.type_list_append mt_append (pv 4) (pa_cons (pe_tupG (pa_cons (pe_ix ix_tup (pe_ix ix_list (pe_fld (pe_fld (pv 0) rfl) rfl) (pe_ix ix_tup (pe_ix ix_list (pe_fld (pv 0) rfl) (pv 1) (fun _ _ => rfl)) pe_int (fun _ _ => rfl)) (fun _ _ => rfl)) pe_int (fun _ _ => rfl)) (pa_cons (pv 5) pa_nil))) pa_nil))))))
      (pss_one (ps_ret (pe_tupG (pa_cons (pe_callTy call_tupleG (by rfl) T.b_tuple (by decide +kernel) (pa_cons (pe_revL (pv 4)) pa_nil)) (pa_cons (pv 2) (pa_cons (pv 3) pa_nil)))))))))), ?_⟩
    rcases h with ⟨v, n, rfl, hn, k⟩ | ⟨H0, wk, m1, m2, ma, oa, o1, o2, rs1, rs2, b1, b2, p0, met, org, acc, d, q, v, rfl, W, M1, M2, few, lam, OO, RR, ed, ev, inq, k⟩
    · refine ⟨_, rfl, _, _, rfl, rfl, _, rfl, ?_⟩
      rw [decide_eq_true hn]
      exact iteT k
    · refine ⟨_, rfl, _, _, rfl, rfl, _, rfl, ?_⟩
      rw [decide_eq_false (by omega)]
      refine iteF ?_
      obtain ⟨⟨dx, fs, hw, wf⟩, ⟨vs0, em, pm⟩, ⟨us0, eo, lo⟩, nmo, s0, nm, no⟩ := id W
      obtain ⟨d1, d2, g1, g2⟩ := inq.rows
      obtain ⟨qd, vd, pqd⟩ := pm.2 d q ed
      have M1' := M1
      obtain ⟨dm1, fm1, t1, l1, sa1, aa1, ea1, o1', xs1, as1, es1, p1⟩ := M1'
      refine ⟨_, rfl, wk, CW, dx, fs, _, rfl, hw, TW.cl, TW.n_one, wf.one, _, rfl, wk, CW, dx, fs, _, rfl, hw, TW.cl, TW.n_other, wf.other, _, rfl, wk, CW, dx, fs, _, rfl, hw, TW.cl, TW.n_met, wf.met, _, rfl, ma, _, _, _, rfl, rfl, SqL.of em, atI_nat vd, ?_⟩
      refine ⟨m1, m2, qd, o1, o2, rs1, rs2, b1, b2, q, d1, d2, rfl, M1.same s0, M2.same s0, pqd, g1, g2, fun u s1 s2 H3 s3 eu es1 es2 => ?_⟩
      refine ⟨u, _, rfl, .inl (.inl eu), rfl, _, _, rfl, _, _, rfl, rfl, ?_⟩
      rw [← showAt_of g1] at es1
      rw [← showAt_of g2] at es2
      refine ⟨Nat.zero_le _, fun la H4 n4 s4 e4 => ?_⟩
      refine ⟨fun m σ H' => ∃ (i : Nat) (wi : List Nat) (hs : List V) (ds : List (Str × Nat)) (v5 : Option V), m = i ∧ σ = [some (.ref wk), some (.int (i : Int)), some (.ref s1), some (.ref s2), some (.ref la), v5] ∧ (∀ b o, b ≠ la → H4 b = some o → H' b = some o) ∧ H' la = some (.lst hs) ∧ HPs H' hs ds ∧ acc[i]? = some wi ∧ i + ds.length ≤ d ∧ histP rs1 rs2 p0 v = histP rs1 rs2 p0 wi ++ ds.reverse, ⟨_, d, v, [], [], none, rfl, rfl, fun _ _ _ e => e, e4, HPs.nil _, ev, Nat.le_refl _, by simp⟩, ?_⟩
      rintro i σ H' ⟨_, wi, hs, ds, v5, rfl, rfl, sk, el, ph, ei, le, hq⟩
      have s04 : Same H H4 := s3.trans s4
      have nla : H la = none := none_of s3 n4
      have s0' : Same H H' := fun b o e => sk b o (ne_of_none e nla) (s04 b o e)
      have hw' := s0' _ _ hw
      have eo' := s0' _ _ eo
      have em' := s0' _ _ em
      have hi : i < acc.length := (List.getElem?_eq_some_iff.mp ei).1
      obtain ⟨oi, eoi⟩ : ∃ oi, org[i]? = some oi := ⟨_, List.getElem?_eq_getElem (by rw [OO.len]; exact hi)⟩
      obtain ⟨qo, vo, po⟩ := lo.2 i oi eoi
      refine ⟨_, rfl, wk, CW, dx, fs, _, rfl, hw', TW.cl, TW.n_origins, wf.origins, _, rfl, oa, _, _, _, rfl, rfl, SqL.of eo', atI_nat vo, _, _, _, _, rfl, rfl, .inl (.inl (s0' _ _ po)), at0', _, _, rfl, rfl, _, rfl, ?_⟩
      by_cases zi : i = 0
      · subst zi
        rw [OO.at0] at eoi
        cases eoi
        rw [OO.a0] at ei
        cases ei
        refine iteF ?_
        have hq : histP rs1 rs2 p0 v = ds.reverse := hq
        refine ⟨_, rfl, la, _, rfl, SqL.of el, fun r nr => ?_⟩
        have sr := sameNew nr (.lst hs.reverse)
        have er : upd H' r (.lst hs.reverse) r = some (.lst hs.reverse) := upd_same
        have pr := ph.rev.same sr
        have a1 := sk _ _ (ne_of_some2 e4 (s4 _ _ es1)) (s4 _ _ es1)
        have a2 := sk _ _ (ne_of_some2 e4 (s4 _ _ es2)) (s4 _ _ es2)
        have b1 := sr _ _ a1
        have b2 := sr _ _ a2
        have s0r := s0'.trans sr
        generalize upd H' r (.lst hs.reverse) = H5 at sr er pr b1 b2 s0r ⊢
        refine ⟨r, _, rfl, .inl er, fun x H6 s6 e6 => ⟨_, rfl, _, rfl, three_ok _ _ _, fun t H7 n7 s7 e7 => ?_⟩⟩
        have s57 := s6.trans s7
        rw [hq] at k
        exact k t H7 (s0r.trans s57) ⟨x, s1, s2, e7, ⟨_, s7 _ _ e6, pr.same s57⟩, s57 _ _ b1, s57 _ _ b2⟩
      · obtain ⟨j, kk, wj, rfl, lt, ej, ei2⟩ := OO.up i oi (by omega) eoi
        rw [ei2] at ei
        have ei := (Option.some.inj ei).symm
        subst ei
        rw [decide_eq_true (show (0 : Int) ≤ ((j : Int), (kk : Int)).1 from by show (0 : Int) ≤ (j : Int); omega)]
        refine iteT ?_
        obtain ⟨pj, epj⟩ : ∃ pj, met[j]? = some pj := ⟨_, List.getElem?_eq_getElem (by omega)⟩
        obtain ⟨pi, epi⟩ : ∃ pi, met[i]? = some pi := ⟨_, List.getElem?_eq_getElem (by omega)⟩
        have sc := runPr_inv ((RR j wj ej).trans epj) ((RR i _ ei2).trans epi)
        obtain ⟨c1, c2, x1, x2, h1, h2, h3, h4, _⟩ := sucP_of sc
        rw [histP_snoc ((RR j wj ej).trans epj)] at hq
        refine ⟨fun σ' H'' => ∃ (hs : List V) (v5 : Option V), σ' = [some (.ref wk), some (.int (j : Int)), some (.ref s1), some (.ref s2), some (.ref la), v5] ∧ (∀ b o, b ≠ la → H4 b = some o → H'' b = some o) ∧ H'' la = some (.lst hs) ∧ HPs H'' hs (ds ++ [(opAt rs1 pj.1, kk)]), fun σ' H'' ⟨hs, v5, z1, z2, z3, z4⟩ => ⟨j, lt, j, wj, hs, _, v5, rfl, z1, z2, z3, z4, ej, by rw [List.length_append]; show j + (ds.length + 1) ≤ d; omega, by rw [hq, List.reverse_append, List.append_assoc]; rfl⟩, ?_⟩
        refine ⟨_, rfl, wk, CW, dx, fs, _, rfl, hw', TW.cl, TW.n_origins, wf.origins, _, rfl, oa, _, _, _, rfl, rfl, SqL.of eo', atI_nat vo, ?_⟩
        refine ⟨qo, _, rfl, .inl (.inl (s0' _ _ po)), rfl, _, _, rfl, _, _, rfl, rfl, ?_⟩
        have s00 : Same H0 H' := s0.trans s0'
        obtain ⟨qj, vj, pqj⟩ := pm.2 j pj epj
        have pqj' := s0' _ _ pqj
        obtain ⟨x, hx1, hx2⟩ := p1.rows.2 _ _ h1
        obtain ⟨opx, nsx, ec1⟩ : ∃ op ns, c1 = .ask op ns := by
          cases c1 with
          | ask op ns => exact ⟨op, ns, rfl⟩
          | go n => simp [nextsD] at h3
          | fin u => simp [nextsD] at h3
        subst ec1
        obtain ⟨ra, rt, rfl, hr1, hr2⟩ := hx2
        have eop : opAt rs1 pj.1 = opx := by
          unfold opAt
          rw [h1]
        rw [eop]
        refine ⟨_, rfl, .inl ⟨rfl, _, SqL.of el⟩, ?_⟩
        refine ⟨_, rfl, wk, CW, dx, fs, _, rfl, hw', TW.cl, TW.n_one, wf.one, m1, CM, dm1, fm1, _, rfl, s00 _ _ p1.hm, TM.cl, TM.n_lines, p1.fs.lines, ?_⟩
        refine ⟨_, rfl, wk, CW, dx, fs, _, rfl, hw', TW.cl, TW.n_met, wf.met, _, rfl, ma, _, _, _, rfl, rfl, SqL.of em', atI_nat vj, _, _, _, _, rfl, rfl, .inl (.inl pqj'), at0', ?_⟩
        refine ⟨l1, _, _, _, rfl, rfl, SqL.of (s00 _ _ p1.hl), atI_nat hx1, _, _, _, _, rfl, rfl, .inl (.inl (s00 _ _ hr1)), at1', _, rfl, two_ok _ _, fun tt H6 n6 s6 e6 => ?_⟩
        have el6 := s6 _ _ el
        have nl6 := s6 _ _ el
        refine ⟨la, _, _, rfl, rfl, el6, by rw [ph.1, sizeLine_eq]; have := (List.getElem?_eq_some_iff.mp ed).1; omega, _, _, rfl, fun b o nb e => ?_, upd_same, ((ph.same s6).snoc (p := (opx, kk)) e6).other el6⟩
        rw [upd_ne nb]
        exact s6 _ _ (sk _ _ nb e)
theorem sc_joined : FnScope ["tables", "counts", "unlike", "table", "operation", "many"] ["tables"] (defScope s_joined) := ⟨rfl, rfl, rfl, by decide +kernel, rfl, by decide +kernel, by decide +kernel⟩
theorem ok_joined {f : Addr} {fd fd_in_order : FuncData} (F : Fun K "joined" "joined" s_joined f fd)
    (GIO : FnOk P w K mg base CX0 1 a_in_order fd_in_order ["table"] spOrder) (b_in_order : Binds K fd_in_order ["table"] []) (g_in_order : mg "in_order" = some (.ref a_in_order)) (k_in_order : PySem.W.keepIn K (.ref a_in_order) = true) : FnOk P w K mg base CX0 2 f fd ["tables"] spJoined := by
  refine F.ok sc_joined (fun vs H Q E h => ?_) (fun cdv A outer s H vs Q E hr h => ?_)
  · obtain ⟨a, ts, g, rfl, _⟩ := h
    rfl
  · obtain ⟨a, ts, g, rfl, ha, each, few, k⟩ := h
    refine ⟨_, (pss_cons (ps_set (i := 1) sc_joined.nd rfl (Or.inl rfl) pe_dnewK)
      (pss_cons (ps_set (i := 2) sc_joined.nd rfl (Or.inl rfl) (pe_lstG pa_nil))
      (pss_cons (ps_for PassesOwn.never rfl (pi_list (pv 0)) (pg_name (i := 3) sc_joined.nd rfl (Or.inl rfl))
        (pss_one (ps_lock (ps_for PassesOwn.never rfl (pi_items (pv 3)) (pg_tup rfl (pgs_cons (pg_name (i := 4) sc_joined.nd rfl (Or.inl rfl)) (pgs_cons (pg_name (i := 5) sc_joined.nd rfl (Or.inl rfl)) pgs_nil)))
          (pss_one (ps_if (pt_cmpR op_ne (pe_dsetd (pv 1) (pv 4) (pv 5) ⟨by rfl, by rfl, by rfl, by rfl⟩) (pv 5) (nomark _)) (pss_one ps_no) pss_nil))))))
      (pss_cons (ps_if (pt_truth (pv 2) (by intro _; rfl)) (pss_one ps_no) pss_nil)
      (pss_one (ps_ret (pe_call GIO (hr.mono (by decide)) (by rfl) g_in_order k_in_order b_in_order .nil pass0 (pa_cons (pv 1) pa_nil)))))))), ?_⟩
    refine fun ka nka => ?_
    have s1 := sameNew nka (.dK [])
    have ek1 : upd H ka (.dK []) ka = some (.dK (opsK [])) := upd_same
    generalize upd H ka (.dK []) = H1 at s1 ek1 ⊢
    refine ⟨Nat.zero_le _, fun ua H2 n2 s2 e2 => ?_⟩
    have nua : H ua = none := none_of s1 n2
    have neku : ka ≠ ua := fun z => by
      rw [← z, ek1] at n2
      cases n2
    have s12 : Same H H2 := s1.trans s2
    refine ⟨_, rfl, a, rfl, ⟨_, SqL.of (s12 _ _ ha)⟩, for_list (K := K) (a := a) (xs := ts.map fun t => V.ref t.1) (fun i σ H' => ∃ (acc : Ops) (v3 v4 v5 : Option V), σ = [some (.ref a), some (.ref ka), some (.ref ua), v3, v4, v5] ∧ Same H H' ∧ JoinI ka ua g (((ts.take i).map fun t => t.2.length).sum) acc H') ⟨[], _, _, _, rfl, s12, s2 _ _ ek1, e2, List.nodup_nil, (fun _ h => nomatch h), Nat.zero_le _⟩ (fun i σ H' _ z => by obtain ⟨_, _, _, _, _, z, _⟩ := z; exact SqL.of (z _ _ ha)) ?_ ?_⟩
    · rintro i x σ Hc hxi ⟨acc, v3, v4, v5, rfl, sc, J⟩
      have hi : i < ts.length := by
        have := (List.getElem?_eq_some_iff.mp hxi).1
        rw [List.length_map] at this
        exact this
      obtain ⟨t, et⟩ : ∃ t, ts[i]? = some t := ⟨_, List.getElem?_eq_getElem hi⟩
      rw [List.getElem?_map, et] at hxi
      have hx2 : V.ref t.1 = x := Option.some.inj hxi
      subst hx2
      obtain ⟨ht, gt⟩ := each t (List.mem_of_getElem? et)
      have ntk : ka ≠ t.1 := fun z => by
        rw [← z, nka] at ht
        cases ht
      have ntu : ua ≠ t.1 := fun z => by
        rw [← z, nua] at ht
        cases ht
      have lk : (opsK t.2).length = t.2.length := List.length_map ..
      have tot : (((ts.take (i + 1)).map fun t => t.2.length).sum) = (((ts.take i).map fun t => t.2.length).sum) + t.2.length := by
        rw [List.take_succ, et, List.map_append, List.sum_append]
        simp
      have le63 : (((ts.take (i + 1)).map fun t => t.2.length).sum) < 64 := by
        have h1 : (ts.map fun t => t.2.length).sum = (((ts.take (i + 1)).map fun t => t.2.length).sum) + (((ts.drop (i + 1)).map fun t => t.2.length).sum) := by
          rw [← List.sum_append, ← List.map_append, List.take_append_drop]
        omega
      refine ⟨t.1, _, sc _ _ ht, trivial, fun od => ⟨_, rfl, t.1, od, opsK t.2, rfl, upd_same, for_it walk_items (fun j σ Hx => ∃ (acc : Ops) (v4 v5 : Option V), σ = [some (.ref a), some (.ref ka), some (.ref ua), some (.ref t.1), v4, v5] ∧ Same (upd H t.1 (.frz od (.dK (opsK t.2)))) Hx ∧ JoinI ka ua g ((((ts.take i).map fun t => t.2.length).sum) + j) acc Hx) ⟨acc, _, _, rfl, fun b o e => ?_, ?_, ?_, J.nd, J.ok, J.few⟩ (fun j σ Hx _ z => by obtain ⟨_, _, _, _, z, _⟩ := z; exact z _ _ upd_same) ?_ ?_⟩⟩
      · by_cases z : b = t.1
        · subst z
          rw [upd_same] at e ⊢
          exact e
        · rw [upd_ne z] at e ⊢
          exact sc _ _ e
      · rw [upd_ne ntk]
        exact J.ek
      · rw [upd_ne ntu]
        exact J.eu
      · rintro j x σ Ha Hb hj ⟨acc, v4, v5, rfl, sa, J⟩ z2
        obtain ⟨T', x, y, rfl, nT, rfl, h1, h2⟩ := z2
        have hj2 : j < t.2.length := by rw [← lk]; exact hj
        obtain ⟨p, ep⟩ : ∃ p, t.2[j]? = some p := ⟨_, List.getElem?_eq_getElem hj2⟩
        have e1 : (opsK t.2)[j]? = some (Sum.inr p.1, V.int p.2) := by
          unfold opsK
          rw [List.getElem?_map, ep]
          rfl
        dsimp only at h1 h2
        rw [e1] at h1 h2
        have h1' : V.str p.1 = x := Option.some.inj h1
        have h2' : V.int p.2 = y := Option.some.inj h2
        subst h1' h2'
        have gp := gt p (List.mem_of_getElem? ep)
        have sT := sameNew nT (.tup [V.str p.1, V.int p.2])
        have eT : upd Ha T' (.tup [V.str p.1, V.int p.2]) T' = some (.tup [V.str p.1, V.int p.2]) := upd_same
        generalize upd Ha T' (.tup [V.str p.1, V.int p.2]) = Hb at sT eT ⊢
        have ekb := sT _ _ J.ek
        refine ⟨T', _, rfl, .inl (.inl eT), rfl, _, _, rfl, _, _, rfl, rfl, ?_⟩
        have lt : (opsK acc).length < sizeLine := by
          unfold opsK
          rw [List.length_map, sizeLine_eq]
          have := J.few
          omega
        refine ⟨_, rfl, ka, rfl, .inl ⟨_, .inl ekb⟩, _, rfl, _, rfl, opsK acc, .inr p.1, ekb, rfl, lt, fun v ev => ?_, fun en => ?_⟩
        · rw [val_ops] at ev
          cases el : opLook acc p.1 with
          | none => rw [el] at ev; cases ev
          | some m =>
            rw [el] at ev
            have ev2 : V.int m = v := Option.some.inj ev
            subst ev2
            have := J.ok _ (opLook_mem el)
            rw [gp] at this
            cases this
            refine ⟨_, rfl, rfl, _, rfl, ?_⟩
            rw [intEq]
            refine iteF ?_
            exact ⟨acc, _, _, rfl, fun b o e => sT _ _ (sa _ _ e), ekb, sT _ _ J.eu, J.nd, J.ok, by have := J.few; omega⟩
        · refine ⟨_, rfl, rfl, _, rfl, ?_⟩
          rw [intEq]
          refine iteF ?_
          have en2 := en
          rw [val_ops, Option.map_eq_none_iff] at en2
          rw [putK_new _ en]
          have ea : opsK acc ++ [(Sum.inr p.1, V.int p.2)] = opsK (acc ++ [p]) := by
            unfold opsK
            rw [List.map_append]
            rfl
          rw [ea]
          refine ⟨acc ++ [p], _, _, rfl, fun b o e => ?_, upd_same, ?_, ?_, fun q hq => (List.mem_append.mp hq).elim (J.ok q) fun z => by rw [List.mem_singleton.mp z]; exact gp, ?_⟩
          · by_cases z : b = ka
            · subst z
              rw [upd_ne ntk, nka] at e
              cases e
            · rw [upd_ne z]
              exact sT _ _ (sa _ _ e)
          · rw [upd_ne (Ne.symm neku)]
            exact sT _ _ J.eu
          · rw [List.map_append, List.nodup_append]
            refine ⟨J.nd, by simp, fun x hx y hy z => ?_⟩
            have hy2 : y = p.1 := List.mem_singleton.mp hy
            rw [z, hy2] at hx
            exact opLook_none en2 hx
          · rw [List.length_append]
            have := J.few
            show acc.length + 1 ≤ _
            omega
      · rintro σ Hx ⟨acc, v4, v5, rfl, sx, J⟩
        refine ⟨sx _ _ upd_same, acc, _, _, _, rfl, same_unlock ht sx, ?_, ?_, J.nd, J.ok, ?_⟩
        · rw [upd_ne ntk]
          exact J.ek
        · rw [upd_ne ntu]
          exact J.eu
        · have := J.few
          rw [lk] at this
          rw [tot]
          exact this
    · rintro σ Hc ⟨acc, v3, v4, v5, rfl, sc, J⟩
      refine ⟨_, rfl, false, .inl ⟨[], SqL.of J.eu, rfl⟩, ?_⟩
      refine iteF ?_
      have := J.few
      rw [List.length_map, List.take_length] at this
      exact ⟨_, rfl, ka, acc, rfl, .inl J.ek, J.nd, by omega, fun o' ord q H5 n5 s5 e5 => k q H5 (sc.trans s5)⟩
end
end Mine

set_option maxRecDepth 100000
set_option maxHeartbeats 4000000
namespace Mine
open PySem L2
/-- two bodies whose operations go together -/
structure TwoB (CB CM : Addr) (H : Hp) (bd1 bd2 : Addr) (o1 o2 : Ops) (rs1 rs2 : List RowD) (b1 b2 : Nat) : Prop where
  B1 : BodyAt CB CM H bd1 o1 rs1 b1
  B2 : BodyAt CB CM H bd2 o2 rs2 b2
  f1 : o1.length ≤ 8
  f2 : o2.length ≤ 8
  go : ∃ g : Str → Option Int, (∀ p ∈ o1, g p.1 = some p.2) ∧ ∀ p ∈ o2, g p.1 = some p.2
theorem TwoB.same {CB CM : Addr} {H H' : Hp} {bd1 bd2 : Addr} {o1 o2 : Ops} {rs1 rs2 : List RowD} {b1 b2 : Nat} (h : TwoB CB CM H bd1 bd2 o1 o2 rs1 rs2 b1 b2) (s : Same H H') : TwoB CB CM H' bd1 bd2 o1 o2 rs1 rs2 b1 b2 := ⟨h.B1.same s, h.B2.same s, h.f1, h.f2, h.go⟩
def spWalkOf (CB CM CW : Addr) : Sp := fun vs H Q _ => ∃ (bd1 bd2 : Addr) (o1 o2 : Ops) (rs1 rs2 : List RowD) (b1 b2 : Nat), vs = [.ref bd1, .ref bd2] ∧ TwoB CB CM H bd1 bd2 o1 o2 rs1 rs2 b1 b2 ∧
  ∀ (wk m1 m2 ma oa : Addr) (H' : Hp), MachV CM H m1 o1 rs1 b1 → MachV CM H m2 o2 rs2 b2 → WalkP CW H H' wk m1 m2 ma oa [(stp rs1 b1, stp rs2 b2)] [(-1, -1)] → Q (.ref wk) H'
/-- two tables that go together -/
structure TwoR (rs1 rs2 : List RowD) (b1 b2 : Nat) : Prop where
  fit1 : Fit rs1
  fit2 : Fit rs2
  big1 : rs1.length ≤ 1000
  big2 : rs2.length ≤ 1000
  tx1 : TxOk rs1
  tx2 : TxOk rs2
  few : ∀ d ∈ rs1, (nextsD d).length ≤ 1000
  even : Even rs1 rs2
  lt1 : b1 < rs1.length
  lt2 : b2 < rs2.length
theorem TwoR.beg {rs1 rs2 : List RowD} {b1 b2 : Nat} (h : TwoR rs1 rs2 b1 b2) : InP rs1 rs2 (stp rs1 b1, stp rs2 b2) := ⟨stp_lt h.fit1.go h.lt1, stp_lt h.fit2.go h.lt2⟩
abbrev startP (rs1 rs2 : List RowD) (b1 b2 : Nat) : Prw := (stp rs1 b1, stp rs2 b2)
/-- the least word that parts them, and where it leads -/
structure LeastP (rs1 rs2 : List RowD) (p0 : Prw) (v : List Nat) (q : Prw) : Prop where
  run : runPr rs1 rs2 p0 v = some q
  inq : InP rs1 rs2 q
  bad : badP rs1 rs2 q
  diff : DiffP rs1 rs2 p0 v
  least : ∀ u, DiffP rs1 rs2 p0 u → Wk.num BASE v ≤ Wk.num BASE u
def spPartedF (CB CM : Addr) : Sp := fun vs H Q _ => ∃ (bd1 bd2 : Addr) (o1 o2 : Ops) (rs1 rs2 : List RowD) (b1 b2 : Nat), vs = [.ref bd1, .ref bd2] ∧ TwoB CB CM H bd1 bd2 o1 o2 rs1 rs2 b1 b2 ∧ TwoR rs1 rs2 b1 b2 ∧
  (∀ H' : Hp, Same H H' → (∀ u, ¬ DiffP rs1 rs2 (startP rs1 rs2 b1 b2) u) → Q .non H') ∧
  (∀ (t : Addr) (v : List Nat) (q : Prw) (H' : Hp), Same H H' → LeastP rs1 rs2 (startP rs1 rs2 b1 b2) v q → ToldT H' t (histP rs1 rs2 (startP rs1 rs2 b1 b2) v) (showAt rs1 q.1) (showAt rs2 q.2) → Q (.ref t) H')
section
variable {P : Program} {w : World} {K : PySem.W.Frag} {mg : Str → Option Value} {base : Heap}
variable {fII fIW CB CM CW a_joined a_begin a_part a_walk a_told f_walk : Addr}
theorem sc_walk_of : FnScope ["one", "other"] ["one", "other"] (defScope s_walk_of) := ⟨rfl, rfl, rfl, by decide +kernel, rfl, by decide +kernel, by decide +kernel⟩
theorem ok_walk_of {f : Addr} {fd fd_joined fd_begin fd_walk : FuncData} (F : Fun K "walk_of" "walk_of" s_walk_of f fd) (TB : BodyC K CB) (TM : MachC K CM)
    (GJ : FnOk P w K mg base CX0 2 a_joined fd_joined ["tables"] spJoined) (b_joined : Binds K fd_joined ["tables"] []) (g_joined : mg "joined" = some (.ref a_joined)) (k_joined : PySem.W.keepIn K (.ref a_joined) = true)
    (GBe : FnOk P w K mg base CX0 1 a_begin fd_begin ["one", "other"] (spBegin CM)) (b_begin_of : Binds K fd_begin ["one", "other"] []) (g_begin_of : mg "begin_of" = some (.ref a_begin)) (k_begin_of : PySem.W.keepIn K (.ref a_begin) = true)
    (MW : Mk K CW f_walk) (GW : FnOk P w K mg base CX0 1 f_walk fd_walk ["self", "one", "other", "begin"] (spWInit CW)) (b_Walk : Binds K fd_walk ["self", "one", "other", "begin"] []) (g_Walk : mg "Walk" = some (.ref CW)) : FnOk P w K mg base CX0 3 f fd ["one", "other"] (spWalkOf CB CM CW) := by
  refine F.ok sc_walk_of (fun vs H Q E h => ?_) (fun cdv A outer s H vs Q E hr h => ?_)
  · obtain ⟨bd1, bd2, o1, o2, rs1, rs2, b1, b2, rfl, _⟩ := h
    rfl
  · obtain ⟨bd1, bd2, o1, o2, rs1, rs2, b1, b2, rfl, ⟨B1, B2, f1, f2, g, ga, gb⟩, k⟩ := h
    refine ⟨_, (pss_cons (ps_expr (pe_call GJ (hr.mono (by decide)) (by rfl) g_joined k_joined b_joined .nil pass0 (pa_cons (pe_lstG (pa_cons (pe_fld (pe_fld (pv 0) rfl) rfl) (pa_cons (pe_fld (pe_fld (pv 1) rfl) rfl) pa_nil))) pa_nil)))
      (pss_one (ps_ret (pe_make MW GW (hr.mono (by decide)) (by rfl) g_Walk b_Walk .nil pass0 (pa_cons (pe_fld (pv 0) rfl) (pa_cons (pe_fld (pv 1) rfl) (pa_cons (pe_call GBe (hr.mono (by decide)) (by rfl) g_begin_of k_begin_of b_begin_of .nil pass0 (pa_cons (pe_fld (pv 0) rfl) (pa_cons (pe_fld (pv 1) rfl) pa_nil))) pa_nil))))))), ?_⟩
    obtain ⟨m1, dx1, fb1, hb1, lb1, M1⟩ := B1.mach
    obtain ⟨m2, dx2, fb2, hb2, lb2, M2⟩ := B2.mach
    have M1' := M1
    have M2' := M2
    obtain ⟨dm1, fm1, t1, l1, sa1, aa1, ea1, o1', xs1, as1, es1, p1⟩ := M1'
    obtain ⟨dm2, fm2, t2, l2, sa2, aa2, ea2, o2', xs2, as2, es2, p2⟩ := M2'
    refine ⟨_, rfl, bd1, CB, dx1, fb1, _, rfl, hb1, TB.cl, TB.n_machine, lb1, m1, CM, dm1, fm1, _, rfl, p1.hm, TM.cl, TM.n_counts, p1.fs.counts, ?_⟩
    refine ⟨_, rfl, bd2, CB, dx2, fb2, _, rfl, hb2, TB.cl, TB.n_machine, lb2, m2, CM, dm2, fm2, _, rfl, p2.hm, TM.cl, TM.n_counts, p2.fs.counts, ?_⟩
    refine ⟨two_ok _ _, fun a H1 n1 s1 e1 => ?_⟩
    refine ⟨a, [(t1, o1'), (t2, o2')], g, rfl, e1, fun t ht => ?_, ?_, fun q H2 s2 => ?_⟩
    · rcases List.mem_cons.mp ht with z | z
      · subst z
        exact ⟨s1 _ _ p1.ht, fun p hp => ga p (p1.ord.1.mem_iff.mp hp)⟩
      · rw [List.mem_singleton.mp z]
        exact ⟨s1 _ _ p2.ht, fun p hp => gb p (p2.ord.1.mem_iff.mp hp)⟩
    · have h1 := p1.ord.1.length_eq
      have h2 := p2.ord.1.length_eq
      show o1'.length + (o2'.length + 0) < 64
      omega
    · have s02 : Same H H2 := s1.trans s2
      refine ⟨_, rfl, bd1, CB, dx1, fb1, _, rfl, s02 _ _ hb1, TB.cl, TB.n_machine, lb1, _, rfl, bd2, CB, dx2, fb2, _, rfl, s02 _ _ hb2, TB.cl, TB.n_machine, lb2, ?_⟩
      refine ⟨_, rfl, bd1, CB, dx1, fb1, _, rfl, s02 _ _ hb1, TB.cl, TB.n_machine, lb1, _, rfl, bd2, CB, dx2, fb2, _, rfl, s02 _ _ hb2, TB.cl, TB.n_machine, lb2, ?_⟩
      refine ⟨m1, m2, o1, o2, rs1, rs2, b1, b2, rfl, M1.same s02, M2.same s02, fun t H3 n3 s3 e3 => ?_⟩
      refine fun wk dx nwk ndx nex => ?_
      have sm : Same H3 (upd (upd H3 dx (.own wk)) wk (.ins CW dx [])) := same_updN (same_updN (Same.refl _) ndx) nwk
      have ew : upd (upd H3 dx (.own wk)) wk (.ins CW dx []) wk = some (.ins CW dx []) := upd_same
      generalize upd (upd H3 dx (.own wk)) wk (.ins CW dx []) = H4 at sm ew ⊢
      have e4 : PairT H4 t (stp rs1 b1, stp rs2 b2) := sm _ _ e3
      refine ⟨wk, m1, m2, t, dx, (stp rs1 b1, stp rs2 b2), rfl, ew, e4, fun fs ma oa tt H5 nma noa neo x5 e5 wf em eo eot => ⟨rfl, ?_⟩⟩
      have s04 : Same H H4 := s02.trans (s3.trans sm)
      have nwH : H wk = none := none_of (s02.trans s3) nwk
      have s05 : Same H H5 := fun b o e => x5 b o (fun z => by rw [z, nwH] at e; cases e) (s04 b o e)
      have ntw : t ≠ wk := fun z => by
        unfold PairT at e4
        rw [z, ew] at e4
        cases e4
      have e5t : PairT H5 t (stp rs1 b1, stp rs2 b2) := x5 _ _ ntw e4
      exact k wk m1 m2 ma oa H5 M1 M2 ⟨⟨dx, fs, e5, wf⟩, ⟨_, em, (Prs.nil H5).snoc e5t⟩, ⟨_, eo, (Orgs.nil H5).snoc eot⟩, neo, s05, none_of s04 nma, none_of s04 noa⟩
theorem sc_parted : FnScope ["one", "other", "walk"] ["one", "other"] (defScope s_parted) := ⟨rfl, rfl, rfl, by decide +kernel, rfl, by decide +kernel, by decide +kernel⟩
theorem ok_parted {f : Addr} {fd fd_walk fd_part fd_told : FuncData} (F : Fun K "parted" "parted" s_parted f fd)
    (GWo : FnOk P w K mg base CX0 3 a_walk fd_walk ["one", "other"] (spWalkOf CB CM CW)) (b_walk_of : Binds K fd_walk ["one", "other"] []) (g_walk_of : mg "walk_of" = some (.ref a_walk)) (k_walk_of : PySem.W.keepIn K (.ref a_walk) = true)
    (GP : FnOk P w K mg base CX0 3 a_part fd_part ["walk"] (spPartF CW CM)) (b_parting_place : Binds K fd_part ["walk"] []) (g_parting_place : mg "parting_place" = some (.ref a_part)) (k_parting_place : PySem.W.keepIn K (.ref a_part) = true)
    (GTo : FnOk P w K mg base CX0 3 a_told fd_told ["walk", "number"] (spToldF CW CM)) (b_told_of : Binds K fd_told ["walk", "number"] []) (g_told_of : mg "told_of" = some (.ref a_told)) (k_told_of : PySem.W.keepIn K (.ref a_told) = true) : FnOk P w K mg base CX0 4 f fd ["one", "other"] (spPartedF CB CM) := by
  refine F.ok sc_parted (fun vs H Q E h => ?_) (fun cdv A outer s H vs Q E hr h => ?_)
  · obtain ⟨bd1, bd2, o1, o2, rs1, rs2, b1, b2, rfl, _⟩ := h
    rfl
  · obtain ⟨bd1, bd2, o1, o2, rs1, rs2, b1, b2, rfl, two, al, kN, kS⟩ := h
    refine ⟨_, (pss_cons (ps_set (i := 2) sc_parted.nd rfl (Or.inl rfl) (pe_call GWo (hr.mono (by decide)) (by rfl) g_walk_of k_walk_of b_walk_of .nil pass0 (pa_cons (pv 0) (pa_cons (pv 1) pa_nil))))
      (pss_one (ps_ret (pe_call GTo (hr.mono (by decide)) (by rfl) g_told_of k_told_of b_told_of .nil pass0 (pa_cons (pv 2) (pa_cons (pe_call GP (hr.mono (by decide)) (by rfl) g_parting_place k_parting_place b_parting_place .nil pass0 (pa_cons (pv 2) pa_nil)) pa_nil)))))), ?_⟩
    refine ⟨_, rfl, _, rfl, bd1, bd2, o1, o2, rs1, rs2, b1, b2, rfl, two, fun wk m1 m2 ma oa H1 M1 M2 W => ?_⟩
    have l1 := al.big1
    have l2 := al.big2
    refine ⟨_, rfl, _, rfl, H, wk, m1, m2, ma, oa, o1, o2, rs1, rs2, b1, b2, _, rfl, W, M1, M2, al.fit1, al.fit2, by omega, by omega, al.tx1, al.tx2, al.few, al.even, al.beg, fun met org H2 W2 no => ?_, fun met org acc d q v H2 W2 few lam OO RR ed ev inq bad df ls => ?_⟩
    · exact .inl ⟨_, -1, rfl, by decide, kN H2 W2.same no⟩
    · exact .inr ⟨H, wk, m1, m2, ma, oa, o1, o2, rs1, rs2, b1, b2, _, met, org, acc, d, q, v, rfl, W2, M1, M2, few, lam, OO, RR, ed, ev, inq, fun t H3 s3 tt => kS t v q H3 (W2.same.trans s3) ⟨(RR d v ev).trans ed, inq, bad, df, ls⟩ tt⟩
end
end Mine

set_option maxRecDepth 100000
set_option maxHeartbeats 4000000
namespace Mine
open PySem L2
abbrev s_straying_place : Stmt := top 48
def addP (m : List Prw) (p : Prw) : List Prw := if p ∈ m then m else m ++ [p]
def growP (m ps : List Prw) : List Prw := ps.foldl addP m
/-- pairs that show the same, and lead to such pairs -/
def Bis (rs1 rs2 : List RowD) (R : Prw → Prop) : Prop := ∀ p, R p → ∃ d1 d2, rs1[p.1]? = some d1 ∧ rs2[p.2]? = some d2 ∧ showD d1 = showD d2 ∧ ∀ q ∈ behind rs1 rs2 d1 d2, R q
def stepP (rs1 rs2 : List RowD) (m : List Prw) (d : Nat) : List Prw := match m[d]? with
  | some p => growP m (behindAt rs1 rs2 p)
  | none => m
def pairAt (rs1 rs2 : List RowD) (p0 : Prw) : Nat → List Prw
  | 0 => [p0]
  | d + 1 => stepP rs1 rs2 (pairAt rs1 rs2 p0 d) d
/-- the pairs that are met, breadth first -/
def pairsOf (rs1 rs2 : List RowD) (p0 : Prw) : List Prw := pairAt rs1 rs2 p0 (rs1.length * rs2.length)
theorem growP_len : ∀ {ps m : List Prw}, m.length ≤ (growP m ps).length
  | [], _ => Nat.le_refl _
  | p :: ps, m => by
    refine Nat.le_trans ?_ (growP_len (ps := ps) (m := addP m p))
    unfold addP
    split
    · exact Nat.le_refl _
    · rw [List.length_append]
      exact Nat.le_add_right _ _
/-- no double, all related -/
def FewP (R : Prw → Prop) (m : List Prw) : Prop := m.Nodup ∧ ∀ x ∈ m, R x
theorem FewP.add {R : Prw → Prop} {m : List Prw} {p : Prw} (f : FewP R m) (h : R p) : FewP R (addP m p) := by
  unfold addP
  by_cases e : p ∈ m
  · rw [if_pos e]
    exact f
  · rw [if_neg e]
    refine ⟨?_, fun x hx => (List.mem_append.mp hx).elim (f.2 x) fun z => by rw [List.mem_singleton.mp z]; exact h⟩
    rw [List.nodup_append]
    exact ⟨f.1, by simp, fun x hx y hy z => by rw [List.mem_singleton.mp hy] at z; exact e (z ▸ hx)⟩
theorem FewP.grow {R : Prw → Prop} : ∀ {ps m : List Prw}, FewP R m → (∀ p ∈ ps, R p) → FewP R (growP m ps)
  | [], _, f, _ => f
  | p :: ps, m, f, h => FewP.grow (ps := ps) (m := addP m p) (f.add (h p List.mem_cons_self)) fun x hx => h x (List.mem_cons_of_mem _ hx)
theorem Bis.in_ {rs1 rs2 : List RowD} {R : Prw → Prop} (b : Bis rs1 rs2 R) {p : Prw} (h : R p) : p.1 < rs1.length ∧ p.2 < rs2.length ∧ ∀ q ∈ behindAt rs1 rs2 p, R q := by
  obtain ⟨d1, d2, e1, e2, _, nx⟩ := b p h
  refine ⟨(List.getElem?_eq_some_iff.mp e1).1, (List.getElem?_eq_some_iff.mp e2).1, fun q hq => ?_⟩
  unfold behindAt at hq
  rw [e1, e2] at hq
  exact nx q hq
theorem pairAt_few {rs1 rs2 : List RowD} {R : Prw → Prop} (b : Bis rs1 rs2 R) {p0 : Prw} (h : R p0) : ∀ d, FewP R (pairAt rs1 rs2 p0 d)
  | 0 => ⟨by show [p0].Nodup; simp, fun x hx => by rw [List.mem_singleton.mp hx]; exact h⟩
  | d + 1 => by
    have ih := pairAt_few b h d
    show FewP R (stepP rs1 rs2 (pairAt rs1 rs2 p0 d) d)
    unfold stepP
    split
    · rename_i p e
      exact ih.grow (b.in_ (ih.2 p (List.mem_of_getElem? e))).2.2
    · exact ih
theorem FewP.len {rs1 rs2 : List RowD} {R : Prw → Prop} (b : Bis rs1 rs2 R) {m : List Prw} (f : FewP R m) : m.length ≤ rs1.length * rs2.length := by
  have := Mach.pigeon (rs1.length * rs2.length) (m.map fun p => p.1 * rs2.length + p.2) (List.pairwise_map.mpr (List.Pairwise.imp_of_mem (fun {p q} hp hq ne z => ?_) f.1)) (fun x hx => ?_)
  · rw [List.length_map] at this
    exact this
  · obtain ⟨p1, p2, _⟩ := b.in_ (f.2 p hp)
    obtain ⟨q1, q2, _⟩ := b.in_ (f.2 q hq)
    have e1 : p.1 = q.1 := by
      have h1 : (p.1 * rs2.length + p.2) / rs2.length = p.1 := by
        rw [Nat.mul_comm, Nat.mul_add_div (by omega), Nat.div_eq_of_lt p2, Nat.add_zero]
      have h2 : (q.1 * rs2.length + q.2) / rs2.length = q.1 := by
        rw [Nat.mul_comm, Nat.mul_add_div (by omega), Nat.div_eq_of_lt q2, Nat.add_zero]
      rw [← h1, ← h2, z]
    rw [e1] at z
    exact ne (Prod.ext e1 (by omega))
  · obtain ⟨p, hp, rfl⟩ := List.mem_map.mp hx
    obtain ⟨p1, p2, _⟩ := b.in_ (f.2 p hp)
    have : (p.1 + 1) * rs2.length ≤ rs1.length * rs2.length := Nat.mul_le_mul_right _ p1
    rw [Nat.add_mul] at this
    omega
theorem pairAt_over {rs1 rs2 : List RowD} {p0 : Prw} {d : Nat} (h : (pairAt rs1 rs2 p0 d).length ≤ d) : ∀ k, pairAt rs1 rs2 p0 (d + k) = pairAt rs1 rs2 p0 d
  | 0 => rfl
  | k + 1 => by
    have ih := pairAt_over h k
    show stepP rs1 rs2 (pairAt rs1 rs2 p0 (d + k)) (d + k) = _
    rw [ih]
    unfold stepP
    rw [List.getElem?_eq_none (by omega)]
theorem pairAt_end {rs1 rs2 : List RowD} {p0 : Prw} {d : Nat} (hd : d ≤ rs1.length * rs2.length) (h : (pairAt rs1 rs2 p0 d).length ≤ d) : pairAt rs1 rs2 p0 d = pairsOf rs1 rs2 p0 := by
  have := pairAt_over h (rs1.length * rs2.length - d)
  rw [show d + (rs1.length * rs2.length - d) = rs1.length * rs2.length by omega] at this
  exact this.symm
theorem pairAt_step {rs1 rs2 : List RowD} {p0 p : Prw} {d : Nat} {d1 d2 : RowD} (h : (pairAt rs1 rs2 p0 d)[d]? = some p) (e1 : rs1[p.1]? = some d1) (e2 : rs2[p.2]? = some d2) : pairAt rs1 rs2 p0 (d + 1) = growP (pairAt rs1 rs2 p0 d) (behind rs1 rs2 d1 d2) := by
  show stepP rs1 rs2 (pairAt rs1 rs2 p0 d) d = _
  unfold stepP
  rw [h]
  show growP _ (behindAt rs1 rs2 p) = _
  unfold behindAt
  rw [e1, e2]
def keyP (p : Prw) : List Key := [.inl (p.1 : Int), .inl (p.2 : Int)]
theorem keyP_inj {p q : Prw} (h : keyP p = keyP q) : p = q := by
  unfold keyP at h
  injection h with h1 h2
  injection h2 with h2 _
  have h1 := Sum.inl.inj h1
  have h2 := Sum.inl.inj h2
  exact Prod.ext (by omega) (by omega)
def knT (m : List Prw) : List (List Key × V) := m.map fun p => (keyP p, V.bl true)
theorem val_knT (m : List Prw) (p : Prw) : (valV (knT m) (keyP p)).isSome = decide (p ∈ m) := by
  induction m with
  | nil => rfl
  | cons r m ih =>
    by_cases h : r = p
    · subst h
      unfold knT
      rw [List.map_cons, valV_pos rfl]
      simp
    · have h2 : ¬ keyP r = keyP p := fun z => h (keyP_inj z)
      unfold knT at ih ⊢
      rw [List.map_cons, valV_neg h2, ih]
      by_cases q : p ∈ m
      · rw [decide_eq_true q, decide_eq_true (List.mem_cons_of_mem _ q)]
      · rw [decide_eq_false q, decide_eq_false (fun z => (List.mem_cons.mp z).elim (fun y => h y.symm) q)]
theorem knT_put {m : List Prw} {p : Prw} (h : p ∉ m) : putK (knT m) (keyP p) (.bl true) = knT (addP m p) := by
  unfold addP
  rw [if_neg h, putK_new]
  · unfold knT
    rw [List.map_append]
    rfl
  · have := val_knT m p
    rw [decide_eq_false h] at this
    cases q : valV (knT m) (keyP p) with
    | none => rfl
    | some v =>
      rw [q] at this
      cases this
def spStray (CW CM : Addr) : Sp := fun vs H Q _ => ∃ (H0 : Hp) (wk m1 m2 ma oa : Addr) (o1 o2 : Ops) (rs1 rs2 : List RowD) (b1 b2 : Nat) (p0 : Prw) (R : Prw → Prop), vs = [.ref wk] ∧ WalkP CW H0 H wk m1 m2 ma oa [p0] [(-1, -1)] ∧ MachV CM H0 m1 o1 rs1 b1 ∧ MachV CM H0 m2 o2 rs2 b2 ∧
  Fit rs1 ∧ Fit rs2 ∧ rs1.length * rs2.length ≤ 1000000 ∧ TxOk rs1 ∧ TxOk rs2 ∧ (∀ d ∈ rs1, (nextsD d).length ≤ 1000) ∧ Bis rs1 rs2 R ∧ R p0 ∧ ∀ (org : List Org) (H' : Hp), WalkP CW H0 H' wk m1 m2 ma oa (pairsOf rs1 rs2 p0) org → Q (.int (-1)) H'
/-- ahead of a turn -/
structure StrayI (CW : Addr) (H0 : Hp) (wk m1 m2 ma oa ka : Addr) (met : List Prw) (org : List Org) (H : Hp) : Prop where
  w : WalkP CW H0 H wk m1 m2 ma oa met org
  lo : org.length = met.length
  ek : H ka = some (.dT (knT met))
  n0 : H0 ka = none
theorem StrayI.go {CW : Addr} {H0 H H' : Hp} {wk m1 m2 ma oa ka : Addr} {met : List Prw} {org : List Org} (h : StrayI CW H0 wk m1 m2 ma oa ka met org H) (s : Same H H') : StrayI CW H0 wk m1 m2 ma oa ka met org H' := ⟨h.w.go s, h.lo, s _ _ h.ek, h.n0⟩
/-- the dict is changed -/
theorem WalkP.kn {CW : Addr} {H0 H : Hp} {wk m1 m2 ma oa ka : Addr} {met : List Prw} {org : List Org} {kvs : List (List Key × V)} {o : HO} (h : WalkP CW H0 H wk m1 m2 ma oa met org) (ek : H ka = some (.dT kvs)) (n0 : H0 ka = none) : WalkP CW H0 (upd H ka o) wk m1 m2 ma oa met org := by
  obtain ⟨⟨dx, fs, h1, h2⟩, ⟨vs, h3, h4⟩, ⟨us, h5, h6⟩, h7, h8, h9, h10⟩ := h
  have up : ∀ {b : Addr} {u : HO}, H b = some u → (∀ kvs, u ≠ .dT kvs) → upd H ka o b = some u := fun {b u} e n => by
    rw [upd_ne (fun z => by rw [z, ek] at e; exact n _ (Option.some.inj e).symm)]
    exact e
  refine ⟨⟨dx, fs, up h1 (fun _ z => nomatch z), h2⟩, ⟨vs, up h3 (fun _ z => nomatch z), h4.1, fun k p e => ?_⟩, ⟨us, up h5 (fun _ z => nomatch z), h6.1, fun k p e => ?_⟩, h7, fun b u e => ?_, h9, h10⟩
  · obtain ⟨q, k1, k2⟩ := h4.2 k p e
    exact ⟨q, k1, up k2 (fun _ z => nomatch z)⟩
  · obtain ⟨q, k1, k2⟩ := h6.2 k p e
    exact ⟨q, k1, up k2 (fun _ z => nomatch z)⟩
  · rw [upd_ne (ne_of_none e n0)]
    exact h8 _ _ e
section
variable {P : Program} {w : World} {K : PySem.W.Frag} {mg : Str → Option Value} {base : Heap}
variable {fII fIW CW CM a_both a_behind f_take : Addr}
theorem sc_straying_place : FnScope ["walk", "known", "done", "first", "second", "behind", "answer", "pair"] ["walk"] (defScope s_straying_place) := ⟨rfl, rfl, rfl, by decide +kernel, rfl, by decide +kernel, by decide +kernel⟩
theorem ok_straying_place {f : Addr} {fd fd_both fd_behind fd_take : FuncData} (F : Fun K "straying_place" "straying_place" s_straying_place f fd) (T : TxtF K mg fII fIW) (TM : MachC K CM) (TW : WalkC K CW) (h_enum : mg "enumerate" = none)
    (GB : FnOk P w K mg base CX0 2 a_both fd_both ["one", "other", "pair"] (spBoth CM)) (b_both : Binds K fd_both ["one", "other", "pair"] []) (g_both : mg "both_shown" = some (.ref a_both)) (k_both : PySem.W.keepIn K (.ref a_both) = true)
    (GH : FnOk P w K mg base CX0 2 a_behind fd_behind ["one", "other", "pair"] (spBehind CM)) (b_behind : Binds K fd_behind ["one", "other", "pair"] []) (g_behind : mg "pairs_behind" = some (.ref a_behind)) (k_behind : PySem.W.keepIn K (.ref a_behind) = true)
    (GT : FnOk P w K mg base CX0 1 f_take fd_take ["self", "pair", "number", "answer"] (spTake CW)) (b_take : Binds K fd_take ["self", "pair", "number", "answer"] []) (m_take : Meth K CW "take" f_take) : FnOk P w K mg base CX0 3 f fd ["walk"] (spStray CW CM) := by
  refine F.ok sc_straying_place (fun vs H Q E h => ?_) (fun cdv A outer s H vs Q E hr h => ?_)
  · obtain ⟨H0, wk, m1, m2, ma, oa, o1, o2, rs1, rs2, b1, b2, p0, R, rfl, _⟩ := h
    rfl
  · obtain ⟨H0, wk, m1, m2, ma, oa, o1, o2, rs1, rs2, b1, b2, p0, R, rfl, W, M1, M2, fit1, fit2, big, tx1, tx2, few, bis, rp0, k⟩ := h
    refine ⟨_, (pss_cons (ps_set (i := 1) sc_straying_place.nd rfl (Or.inl rfl) (pe_disp1T (hu_of hr) (pe_ix ix_list (pe_fld (pv 0) rfl) pe_int (fun _ _ => rfl)) pe_bl))
      (pss_cons (ps_set (i := 2) sc_straying_place.nd rfl (Or.inl rfl) pe_int)
      (pss_cons (ps_while PassesOwn.never (pt_cmpR op_lt (pv 2) (pe_callB call_len_seq (by rfl) T.b_len PySem.boot_len (pa_cons (pe_fld (pv 0) rfl) pa_nil)) (nomark _)) (pss_cons (ps_asg (pe_call GB (hr.mono (by decide)) (by rfl) g_both k_both b_both .nil pass0 (pa_cons (pe_fld (pv 0) rfl) (pa_cons (pe_fld (pv 0) rfl) (pa_cons (pe_ix ix_list (pe_fld (pv 0) rfl) (pv 2) (fun _ _ => rfl)) pa_nil)))) (pg_tup rfl (pgs_cons (pg_name (i := 3) sc_straying_place.nd rfl (Or.inl rfl)) (pgs_cons (pg_name (i := 4) sc_straying_place.nd rfl (Or.inl rfl)) pgs_nil))))
      (pss_cons (ps_if (PW.pt (pw_and (pt_cmpR (op_neD hr.units) (pv 3) (pv 4) (nomark _)) (pw_and1 (pt_cmpR (op_neD hr.units) (pv 3) (pe_tupG (pa_cons pe_str pa_nil)) (nomark _))))) (pss_one (ps_ret (pv 2))) pss_nil)
      (pss_cons (ps_set (i := 5) sc_straying_place.nd rfl (Or.inl rfl) (pe_lstG pa_nil))
      (pss_cons (ps_if (pt_cmpR (op_eqD hr.units) (pv 3) (pv 4) (nomark _)) (pss_one (ps_set (i := 5) sc_straying_place.nd rfl (Or.inl rfl) (pe_call GH (hr.mono (by decide)) (by rfl) g_behind k_behind b_behind .nil pass0 (pa_cons (pe_fld (pv 0) rfl) (pa_cons (pe_fld (pv 0) rfl) (pa_cons (pe_ix ix_list (pe_fld (pv 0) rfl) (pv 2) (fun _ _ => rfl)) pa_nil)))))) pss_nil)
      (pss_cons (ps_for PassesOwn.never rfl (pi_enum (by rfl) h_enum (pa_cons (pv 5) pa_nil)) (pg_tup rfl (pgs_cons (pg_name (i := 6) sc_straying_place.nd rfl (Or.inl rfl)) (pgs_cons (pg_name (i := 7) sc_straying_place.nd rfl (Or.inl rfl)) pgs_nil))) (pss_one (ps_if (pt_cmp (pc_dnotin (hu_of hr) (pv 7) (pv 1)) rfl) (pss_cons (ps_asg pe_bl (pg_sub (pv 1) (pv 7) (set_dict (hu_of hr))))
      (pss_one (ps_expr (pe_meth (pv 0) TW.cl m_take GT (hr.mono (by decide)) b_take .nil pass0 (pa_cons (pv 7) (pa_cons (pv 2) (pa_cons (pv 6) pa_nil))))))) pss_nil)))
      (pss_one (ps_aug (i := 2) sc_straying_place.nd rfl (Or.inl rfl) pe_int ip_add))))))))
      (pss_one (ps_ret (pe_un un_neg pe_int)))))), ?_⟩
    obtain ⟨⟨dx, fs, hw, wf⟩, ⟨vs0, em, pm⟩, _⟩ := id W
    obtain ⟨q0, v0, pq0⟩ := pm.2 0 p0 rfl
    have a00 : atI vs0 0 = some (.ref q0) := atI_nat (j := 0) v0
    refine fun ka nka => ?_
    have sk := sameNew nka (.dT [])
    have Wk := W.go sk
    have ek : upd H ka (.dT []) ka = some (.dT []) := upd_same
    generalize upd H ka (.dT []) = H1 at sk Wk ek ⊢
    have n0 : H0 ka = none := none_of W.same nka
    refine ⟨_, rfl, wk, CW, dx, fs, _, rfl, sk _ _ hw, TW.cl, TW.n_met, wf.met, ma, _, _, _, rfl, rfl, SqL.of (sk _ _ em), a00, ek, q0, keyP p0, rfl, sk _ _ pq0, ?_⟩
    have I0 : StrayI CW H0 wk m1 m2 ma oa ka [p0] [(-1, -1)] (upd H1 ka (.dT [(keyP p0, .bl true)])) := ⟨Wk.kn ek n0, rfl, upd_same, n0⟩
    refine ⟨fun m σ H' => ∃ (d : Nat) (org : List Org) (v3 v4 v5 v6 v7 : Option V), m = rs1.length * rs2.length - d ∧ σ = [some (.ref wk), some (.ref ka), some (.int (d : Int)), v3, v4, v5, v6, v7] ∧ StrayI CW H0 wk m1 m2 ma oa ka (pairAt rs1 rs2 p0 d) org H' ∧ d ≤ (pairAt rs1 rs2 p0 d).length, ⟨_, 0, _, none, none, none, none, none, rfl, rfl, I0, Nat.zero_le _⟩, ?_⟩
    rintro m σ H' ⟨d, org, v3, v4, v5, v6, v7, rfl, rfl, I, hd⟩
    have few0 := pairAt_few bis rp0 d
    have len0 := few0.len bis
    obtain ⟨⟨dx', fs', hw', wf'⟩, ⟨vs', em', pm'⟩, _⟩ := id I.w
    refine ⟨_, rfl, _, rfl, wk, CW, dx', fs', _, rfl, hw', TW.cl, TW.n_met, wf'.met, ma, _, rfl, .inl (SqL.of em'), _, _, rfl, rfl, _, rfl, ?_⟩
    rw [pm'.1]
    refine ite2 (fun h1 => ?_) (fun h1 => ?_)
    · have hlt : d < (pairAt rs1 rs2 p0 d).length := by
        have := of_decide_eq_true h1
        omega
      obtain ⟨p, ep⟩ : ∃ p, (pairAt rs1 rs2 p0 d)[d]? = some p := ⟨_, List.getElem?_eq_getElem hlt⟩
      have rp := few0.2 p (List.mem_of_getElem? ep)
      obtain ⟨d1, d2, g1, g2, same, next⟩ := bis p rp
      have st := pairAt_step ep g1 g2
      obtain ⟨qd, vd, pqd⟩ := pm'.2 d p ep
      have s0 := I.w.same
      refine ⟨fun σ' H'' => ∃ (org : List Org) (v3 v4 v5 v6 v7 : Option V), σ' = [some (.ref wk), some (.ref ka), some (.int ((d + 1 : Nat) : Int)), v3, v4, v5, v6, v7] ∧ StrayI CW H0 wk m1 m2 ma oa ka (pairAt rs1 rs2 p0 (d + 1)) org H'', fun σ' H'' ⟨org, v3, v4, v5, v6, v7, z1, z2⟩ => ⟨rs1.length * rs2.length - (d + 1), by omega, d + 1, org, v3, v4, v5, v6, v7, rfl, z1, z2, by rw [st]; exact Nat.le_trans hlt growP_len⟩, ?_⟩
      refine ⟨_, rfl, wk, CW, dx', fs', _, rfl, hw', TW.cl, TW.n_one, wf'.one, _, rfl, wk, CW, dx', fs', _, rfl, hw', TW.cl, TW.n_other, wf'.other, _, rfl, wk, CW, dx', fs', _, rfl, hw', TW.cl, TW.n_met, wf'.met, _, rfl, ma, _, _, _, rfl, rfl, SqL.of em', atI_nat vd, ?_⟩
      refine ⟨m1, m2, qd, o1, o2, rs1, rs2, b1, b2, p, d1, d2, rfl, M1.same s0, M2.same s0, pqd, g1, g2, fun u s1 s2 H3 s3 eu es1 es2 => ?_⟩
      refine ⟨u, _, rfl, .inl (.inl eu), rfl, _, _, rfl, _, _, rfl, rfl, ?_⟩
      have ok1 := tx1 _ (List.mem_of_getElem? g1)
      have ok2 := tx2 _ (List.mem_of_getElem? g2)
      refine ⟨_, rfl, _, rfl, showP d1, showP d2, show_dp es1, show_dp es2, show_shaped ok1, show_shaped ok2, _, rfl, ?_⟩
      rw [(show_eqv d1 d2).mpr same]
      refine iteF ?_
      refine iteF ?_
      refine ⟨Nat.zero_le _, fun E0 H4 n4 s4 e4 => ?_⟩
      refine ⟨_, rfl, _, rfl, showP d1, showP d2, show_dp (s4 _ _ es1), show_dp (s4 _ _ es2), show_shaped ok1, show_shaped ok2, _, rfl, ?_⟩
      rw [(show_eqv d1 d2).mpr same]
      refine iteT ?_
      have s34 : Same H' H4 := s3.trans s4
      have I3 := I.go s34
      refine ⟨_, rfl, wk, CW, dx', fs', _, rfl, s34 _ _ hw', TW.cl, TW.n_one, wf'.one, _, rfl, wk, CW, dx', fs', _, rfl, s34 _ _ hw', TW.cl, TW.n_other, wf'.other, _, rfl, wk, CW, dx', fs', _, rfl, s34 _ _ hw', TW.cl, TW.n_met, wf'.met, _, rfl, ma, _, _, _, rfl, rfl, SqL.of (s34 _ _ em'), atI_nat vd, ?_⟩
      refine ⟨m1, m2, qd, o1, o2, rs1, rs2, b1, b2, p, d1, d2, rfl, M1.same (s0.trans s34), M2.same (s0.trans s34), s34 _ _ pqd, g1, g2, fit1, fit2, few _ (List.mem_of_getElem? g1), fun D us H5 nD s5 eD pD => ?_⟩
      have I4 := I3.go s5
      have nDk : D ≠ ka := fun z => by
        rw [z, I3.ek] at nD
        cases nD
      have nDm : D ≠ ma := fun z => by
        rw [z, s34 _ _ em'] at nD
        cases nD
      have nDo : D ≠ oa := fun z => by
        obtain ⟨_, eo, _⟩ := I3.w.eo
        rw [z, eo] at nD
        cases nD
      refine ⟨_, rfl, D, us, rfl, SqL.of eD, for_enumL (K := K) (a := D) (xs := us) (fun j σ H5 => ∃ (og : List Org) (v6 v7 : Option V), σ = [some (.ref wk), some (.ref ka), some (.int (d : Int)), some (.ref s1), some (.ref s2), some (.ref D), v6, v7] ∧ StrayI CW H0 wk m1 m2 ma oa ka (growP (pairAt rs1 rs2 p0 d) ((behind rs1 rs2 d1 d2).take j)) og H5 ∧ H5 D = some (.lst us) ∧ Prs H5 us (behind rs1 rs2 d1 d2)) ⟨_, _, _, rfl, I4, eD, pD⟩ (fun j σ H5 _ z => by obtain ⟨_, _, _, _, _, z, _⟩ := z; exact SqL.of z) ?_ ?_⟩
      · rintro j x σ Ha T' Hb hxj ⟨og, w6, w7, rfl, Ia, eDa, pDa⟩ nT sT eT
        have hj : j < (behind rs1 rs2 d1 d2).length := by
          have := (List.getElem?_eq_some_iff.mp hxj).1
          rw [← pD.1]
          exact this
        obtain ⟨pj, epj⟩ : ∃ pj, (behind rs1 rs2 d1 d2)[j]? = some pj := ⟨_, List.getElem?_eq_getElem hj⟩
        obtain ⟨qj, vj, pqj⟩ := pDa.2 j pj epj
        rw [hxj] at vj
        cases vj
        have rpj := next pj (List.mem_of_getElem? epj)
        have fewj : FewP R (growP (pairAt rs1 rs2 p0 d) ((behind rs1 rs2 d1 d2).take j)) := few0.grow fun x hx => next x (List.mem_of_mem_take hx)
        have lenj := fewj.len bis
        have tk : growP (pairAt rs1 rs2 p0 d) ((behind rs1 rs2 d1 d2).take (j + 1)) = addP (growP (pairAt rs1 rs2 p0 d) ((behind rs1 rs2 d1 d2).take j)) pj := by
          unfold growP
          rw [List.take_succ, epj, List.foldl_append]
          rfl
        rw [tk]
        generalize growP (pairAt rs1 rs2 p0 d) ((behind rs1 rs2 d1 d2).take j) = met' at Ia fewj lenj
        have Ib := Ia.go sT
        refine ⟨T', _, rfl, .inl (.inl eT), rfl, _, _, rfl, _, _, rfl, rfl, ?_⟩
        refine ⟨_, rfl, _, rfl, ka, _, rfl, DGet.t (k := keyP pj) Ib.ek (sT _ _ pqj), _, rfl, ?_⟩
        rw [val_knT]
        by_cases hin : pj ∈ met'
        · rw [decide_eq_true hin]
          refine iteF ?_
          have ad : addP met' pj = met' := if_pos hin
          rw [ad]
          exact ⟨_, _, _, rfl, Ib, sT _ _ eDa, pDa.same sT⟩
        · rw [decide_eq_false hin]
          refine iteT ?_
          have kl : (knT met').length < sizeLine := by
            unfold knT
            rw [List.length_map, sizeLine_eq]
            omega
          refine ⟨_, rfl, _, rfl, ka, _, rfl, DPut.t (k := keyP pj) Ib.ek (sT _ _ pqj) kl, ?_⟩
          rw [knT_put hin]
          have W6 := Ib.w.kn (o := .dT (knT (addP met' pj))) Ib.ek Ib.n0
          have e6 : upd Hb ka (.dT (knT (addP met' pj))) ka = some (.dT (knT (addP met' pj))) := upd_same
          have eD6 : upd Hb ka (.dT (knT (addP met' pj))) D = some (.lst us) := by
            rw [upd_ne nDk]
            exact sT _ _ eDa
          have pD6 : Prs (upd Hb ka (.dT (knT (addP met' pj)))) us (behind rs1 rs2 d1 d2) := ⟨pDa.1, fun kk pp ee => by
            obtain ⟨qq, k1, k2⟩ := pDa.2 kk pp ee
            have k3 := sT _ _ k2
            exact ⟨qq, k1, by unfold PairT; rw [upd_ne (fun z => by rw [z, Ib.ek] at k3; cases k3)]; exact k3⟩⟩
          generalize upd Hb ka (.dT (knT (addP met' pj))) = H6 at W6 e6 eD6 pD6 ⊢
          have pq6 := (pD6.2 j pj epj)
          rw [hxj] at pq6
          obtain ⟨_, c6, pq6⟩ := pq6
          cases c6
          obtain ⟨dx6, fs6, hw6, wf6⟩ := W6.hw
          have ad : addP met' pj = met' ++ [pj] := if_neg hin
          refine ⟨_, rfl, wk, dx6, fs6, rfl, hw6, wf6.take, _, rfl, _, rfl, _, rfl, H0, wk, m1, m2, ma, oa, qj, (d : Int), ((j : Nat) : Int), pj, met', og, rfl, W6, pq6, by omega, by have := Ib.lo; omega, fun H7 W7 off => ?_⟩
          have nkm : ka ≠ ma := fun z => by
            obtain ⟨_, em6, _⟩ := W6.em
            rw [z, em6] at e6
            cases e6
          have nko : ka ≠ oa := fun z => by
            obtain ⟨_, eo6, _⟩ := W6.eo
            rw [z, eo6] at e6
            cases e6
          have ek7 := off ka _ nkm nko e6
          have eD7 := off D _ nDm nDo eD6
          refine ⟨_, _, _, rfl, ⟨by rw [ad]; exact W7, by rw [ad, List.length_append, List.length_append, Ib.lo]; rfl, ek7, Ib.n0⟩, eD7, ⟨pD6.1, fun kk pp ee => ?_⟩⟩
          obtain ⟨qq, k1, k2⟩ := pD6.2 kk pp ee
          refine ⟨qq, k1, off _ _ (fun z => ?_) (fun z => ?_) k2⟩
          · obtain ⟨_, em6, _⟩ := W6.em
            unfold PairT at k2
            rw [z, em6] at k2
            cases k2
          · obtain ⟨_, eo6, _⟩ := W6.eo
            unfold PairT at k2
            rw [z, eo6] at k2
            cases k2
      · rintro σ H5 ⟨og, w6, w7, rfl, I5, _, pD5⟩
        refine ⟨_, rfl, _, _, rfl, rfl, og, _, _, _, _, _, rfl, ?_⟩
        rw [pD5.1, List.take_length, ← st] at I5
        exact I5
    · have hge : (pairAt rs1 rs2 p0 d).length ≤ d := by
        by_cases z : (pairAt rs1 rs2 p0 d).length ≤ d
        · exact z
        · exact absurd (decide_eq_true (by omega)) h1
      have Iw := I.w
      rw [pairAt_end (by omega) hge] at Iw
      exact ⟨_, rfl, k _ H' Iw⟩
end
end Mine

set_option maxRecDepth 100000
set_option maxHeartbeats 4000000
namespace Mine
open PySem L2
/-- here the one shows something else, and does not hang -/
def strayP (rs1 rs2 : List RowD) (p : Prw) : Prop := showAt rs1 p.1 ≠ showAt rs2 p.2 ∧ showAt rs1 p.1 ≠ [("hang" : Str)]
abbrev DiffS (rs1 rs2 : List RowD) : Prw → List Nat → Prop := Wk.Diff (sucP rs1 rs2) (strayP rs1 rs2)
theorem stray_row {rs1 rs2 : List RowD} {p : Prw} {d1 d2 : RowD} (e1 : rs1[p.1]? = some d1) (e2 : rs2[p.2]? = some d2) : strayP rs1 rs2 p ↔ showD d1 ≠ showD d2 ∧ showD d1 ≠ showD (.go 0) := by
  unfold strayP
  rw [showAt_of e1, showAt_of e2]
  exact Iff.rfl
theorem hang_nexts {d : RowD} (h : showD d = showD (.go 0)) : nextsD d = [] := by
  cases d with
  | ask op ns =>
    have h2 : ([("ask" : Str), op] : List Str) = [("hang" : Str)] := h
    exact absurd (congrArg List.length h2) (by simp)
  | go n => rfl
  | fin w =>
    have h2 : ([("end" : Str), w] : List Str) = [("hang" : Str)] := h
    exact absurd (congrArg List.length h2) (by simp)
theorem in_few {rs1 rs2 : List RowD} {m : List Prw} (nd : m.Nodup) (all : ∀ p ∈ m, InP rs1 rs2 p) : m.length ≤ rs1.length * rs2.length := by
  have := Mach.pigeon (rs1.length * rs2.length) (m.map fun p => p.1 * rs2.length + p.2) (List.pairwise_map.mpr (List.Pairwise.imp_of_mem (fun {p q} hp hq ne z => ?_) nd)) (fun x hx => ?_)
  · rw [List.length_map] at this
    exact this
  · obtain ⟨p1, p2⟩ := all p hp
    obtain ⟨q1, q2⟩ := all q hq
    have e1 : p.1 = q.1 := by
      have h1 : (p.1 * rs2.length + p.2) / rs2.length = p.1 := by
        rw [Nat.mul_comm, Nat.mul_add_div (by omega), Nat.div_eq_of_lt p2, Nat.add_zero]
      have h2 : (q.1 * rs2.length + q.2) / rs2.length = q.1 := by
        rw [Nat.mul_comm, Nat.mul_add_div (by omega), Nat.div_eq_of_lt q2, Nat.add_zero]
      rw [← h1, ← h2, z]
    rw [e1] at z
    exact ne (Prod.ext e1 (by omega))
  · obtain ⟨p, hp, rfl⟩ := List.mem_map.mp hx
    obtain ⟨p1, p2⟩ := all p hp
    have : (p.1 + 1) * rs2.length ≤ rs1.length * rs2.length := Nat.mul_le_mul_right _ p1
    rw [Nat.add_mul] at this
    omega
def spStrayF (CW CM : Addr) : Sp := fun vs H Q _ => ∃ (H0 : Hp) (wk m1 m2 ma oa : Addr) (o1 o2 : Ops) (rs1 rs2 : List RowD) (b1 b2 : Nat) (p0 : Prw), vs = [.ref wk] ∧ WalkP CW H0 H wk m1 m2 ma oa [p0] [(-1, -1)] ∧ MachV CM H0 m1 o1 rs1 b1 ∧ MachV CM H0 m2 o2 rs2 b2 ∧
  Fit rs1 ∧ Fit rs2 ∧ rs1.length * rs2.length ≤ 100000 ∧ TxOk rs1 ∧ TxOk rs2 ∧ (∀ d ∈ rs1, (nextsD d).length ≤ 1000) ∧ InP rs1 rs2 p0 ∧
  (∀ (met : List Prw) (org : List Org) (H' : Hp), WalkP CW H0 H' wk m1 m2 ma oa met org → (∀ u, ¬ DiffS rs1 rs2 p0 u) → Q (.int (-1)) H') ∧
  (∀ (met : List Prw) (org : List Org) (acc : List (List Nat)) (d : Nat) (q : Prw) (v : List Nat) (H' : Hp), WalkP CW H0 H' wk m1 m2 ma oa met org → met.length ≤ 200001 → acc.length = met.length → OrgOk org acc → Runs rs1 rs2 p0 met acc → met[d]? = some q → acc[d]? = some v → InP rs1 rs2 q → strayP rs1 rs2 q →
    DiffS rs1 rs2 p0 v → (∀ u, DiffS rs1 rs2 p0 u → Wk.num BASE v ≤ Wk.num BASE u) → Q (.int (d : Int)) H')
/-- ahead of a turn -/
structure StrayJ (CW : Addr) (H0 : Hp) (wk m1 m2 ma oa ka : Addr) (rs1 rs2 : List RowD) (p0 : Prw) (met : List Prw) (org : List Org) (acc : List (List Nat)) (d m : Nat) (H : Hp) : Prop where
  w : WalkP CW H0 H wk m1 m2 ma oa met org
  ek : H ka = some (.dT (knT met))
  n0 : H0 ka = none
  all : ∀ p ∈ met, InP rs1 rs2 p
  nd : met.Nodup
  bfs : ∀ cap, Wk.Bfs BASE (sucP rs1 rs2) (strayP rs1 rs2) p0 cap met acc d m
  org : OrgOk org acc
  runs : Runs rs1 rs2 p0 met acc
theorem StrayJ.go {CW : Addr} {H0 H H' : Hp} {wk m1 m2 ma oa ka : Addr} {rs1 rs2 : List RowD} {p0 : Prw} {met : List Prw} {org : List Org} {acc : List (List Nat)} {d m : Nat} (h : StrayJ CW H0 wk m1 m2 ma oa ka rs1 rs2 p0 met org acc d m H) (s : Same H H') : StrayJ CW H0 wk m1 m2 ma oa ka rs1 rs2 p0 met org acc d m H' :=
  ⟨h.w.go s, s _ _ h.ek, h.n0, h.all, h.nd, h.bfs, h.org, h.runs⟩
section
variable {P : Program} {w : World} {K : PySem.W.Frag} {mg : Str → Option Value} {base : Heap}
variable {fII fIW CW CM a_both a_behind f_take : Addr}
theorem ok_stray {f : Addr} {fd fd_both fd_behind fd_take : FuncData} (F : Fun K "straying_place" "straying_place" s_straying_place f fd) (T : TxtF K mg fII fIW) (TM : MachC K CM) (TW : WalkC K CW) (h_enum : mg "enumerate" = none)
    (GB : FnOk P w K mg base CX0 2 a_both fd_both ["one", "other", "pair"] (spBoth CM)) (b_both : Binds K fd_both ["one", "other", "pair"] []) (g_both : mg "both_shown" = some (.ref a_both)) (k_both : PySem.W.keepIn K (.ref a_both) = true)
    (GH : FnOk P w K mg base CX0 2 a_behind fd_behind ["one", "other", "pair"] (spBehind CM)) (b_behind : Binds K fd_behind ["one", "other", "pair"] []) (g_behind : mg "pairs_behind" = some (.ref a_behind)) (k_behind : PySem.W.keepIn K (.ref a_behind) = true)
    (GT : FnOk P w K mg base CX0 1 f_take fd_take ["self", "pair", "number", "answer"] (spTake CW)) (b_take : Binds K fd_take ["self", "pair", "number", "answer"] []) (m_take : Meth K CW "take" f_take) : FnOk P w K mg base CX0 3 f fd ["walk"] (spStrayF CW CM) := by
  refine F.ok sc_straying_place (fun vs H Q E h => ?_) (fun cdv A outer s H vs Q E hr h => ?_)
  · obtain ⟨H0, wk, m1, m2, ma, oa, o1, o2, rs1, rs2, b1, b2, p0, rfl, _⟩ := h
    rfl
  · obtain ⟨H0, wk, m1, m2, ma, oa, o1, o2, rs1, rs2, b1, b2, p0, rfl, W, M1, M2, fit1, fit2, big, tx1, tx2, few, in0, kN, kS⟩ := h
    refine ⟨_, (pss_cons (ps_set (i := 1) sc_straying_place.nd rfl (Or.inl rfl) (pe_disp1T (hu_of hr) (pe_ix ix_list (pe_fld (pv 0) rfl) pe_int (fun _ _ => rfl)) pe_bl))
      (pss_cons (ps_set (i := 2) sc_straying_place.nd rfl (Or.inl rfl) pe_int)
      (pss_cons (ps_while PassesOwn.never (pt_cmpR op_lt (pv 2) (pe_callB call_len_seq (by rfl) T.b_len PySem.boot_len (pa_cons (pe_fld (pv 0) rfl) pa_nil)) (nomark _)) (pss_cons (ps_asg (pe_call GB (hr.mono (by decide)) (by rfl) g_both k_both b_both .nil pass0 (pa_cons (pe_fld (pv 0) rfl) (pa_cons (pe_fld (pv 0) rfl) (pa_cons (pe_ix ix_list (pe_fld (pv 0) rfl) (pv 2) (fun _ _ => rfl)) pa_nil)))) (pg_tup rfl (pgs_cons (pg_name (i := 3) sc_straying_place.nd rfl (Or.inl rfl)) (pgs_cons (pg_name (i := 4) sc_straying_place.nd rfl (Or.inl rfl)) pgs_nil))))
      (pss_cons (ps_if (PW.pt (pw_and (pt_cmpR (op_neD hr.units) (pv 3) (pv 4) (nomark _)) (pw_and1 (pt_cmpR (op_neD hr.units) (pv 3) (pe_tupG (pa_cons pe_str pa_nil)) (nomark _))))) (pss_one (ps_ret (pv 2))) pss_nil)
      (pss_cons (ps_set (i := 5) sc_straying_place.nd rfl (Or.inl rfl) (pe_lstG pa_nil))
      (pss_cons (ps_if (pt_cmpR (op_eqD hr.units) (pv 3) (pv 4) (nomark _)) (pss_one (ps_set (i := 5) sc_straying_place.nd rfl (Or.inl rfl) (pe_call GH (hr.mono (by decide)) (by rfl) g_behind k_behind b_behind .nil pass0 (pa_cons (pe_fld (pv 0) rfl) (pa_cons (pe_fld (pv 0) rfl) (pa_cons (pe_ix ix_list (pe_fld (pv 0) rfl) (pv 2) (fun _ _ => rfl)) pa_nil)))))) pss_nil)
      (pss_cons (ps_for PassesOwn.never rfl (pi_enum (by rfl) h_enum (pa_cons (pv 5) pa_nil)) (pg_tup rfl (pgs_cons (pg_name (i := 6) sc_straying_place.nd rfl (Or.inl rfl)) (pgs_cons (pg_name (i := 7) sc_straying_place.nd rfl (Or.inl rfl)) pgs_nil))) (pss_one (ps_if (pt_cmp (pc_dnotin (hu_of hr) (pv 7) (pv 1)) rfl) (pss_cons (ps_asg pe_bl (pg_sub (pv 1) (pv 7) (set_dict (hu_of hr))))
      (pss_one (ps_expr (pe_meth (pv 0) TW.cl m_take GT (hr.mono (by decide)) b_take .nil pass0 (pa_cons (pv 7) (pa_cons (pv 2) (pa_cons (pv 6) pa_nil))))))) pss_nil)))
      (pss_one (ps_aug (i := 2) sc_straying_place.nd rfl (Or.inl rfl) pe_int ip_add))))))))
      (pss_one (ps_ret (pe_un un_neg pe_int)))))), ?_⟩
    obtain ⟨⟨dx, fs, hw, wf⟩, ⟨vs0, em, pm⟩, _⟩ := id W
    obtain ⟨q0, v0, pq0⟩ := pm.2 0 p0 rfl
    have a00 : atI vs0 0 = some (.ref q0) := atI_nat (j := 0) v0
    refine fun ka nka => ?_
    have sk := sameNew nka (.dT [])
    have Wk1 := W.go sk
    have ek : upd H ka (.dT []) ka = some (.dT []) := upd_same
    generalize upd H ka (.dT []) = H1 at sk Wk1 ek ⊢
    have n0 : H0 ka = none := none_of W.same nka
    refine ⟨_, rfl, wk, CW, dx, fs, _, rfl, sk _ _ hw, TW.cl, TW.n_met, wf.met, ma, _, _, _, rfl, rfl, SqL.of (sk _ _ em), a00, ek, q0, keyP p0, rfl, sk _ _ pq0, ?_⟩
    have runs2 : Runs rs1 rs2 p0 [p0] [[]] := fun i w e => by
      match i with
      | 0 =>
        have := Option.some.inj e
        subst this
        rfl
      | i + 1 => simp at e
    have org2 : OrgOk [(-1, -1)] [[]] := ⟨rfl, rfl, rfl, fun i o hi e => by
      match i with
      | 0 => omega
      | i + 1 => simp at e⟩
    have I0 : StrayJ CW H0 wk m1 m2 ma oa ka rs1 rs2 p0 [p0] [(-1, -1)] [[]] 0 0 (upd H1 ka (.dT [(keyP p0, .bl true)])) := ⟨Wk1.kn ek n0, upd_same, n0, fun p hp => by rw [List.mem_singleton.mp hp]; exact in0, by simp, fun cap => Wk.Bfs.start base2, org2, runs2⟩
    refine ⟨fun m σ H' => ∃ (d : Nat) (met : List Prw) (org : List Org) (acc : List (List Nat)) (v3 v4 v5 v6 v7 : Option V), m = rs1.length * rs2.length - d ∧ σ = [some (.ref wk), some (.ref ka), some (.int (d : Int)), v3, v4, v5, v6, v7] ∧ StrayJ CW H0 wk m1 m2 ma oa ka rs1 rs2 p0 met org acc d 0 H' ∧ d ≤ met.length, ⟨_, 0, _, _, _, none, none, none, none, none, rfl, rfl, I0, Nat.zero_le _⟩, ?_⟩
    rintro m σ H' ⟨d, met, org, acc, v3, v4, v5, v6, v7, rfl, rfl, I, hd⟩
    have len0 := in_few I.nd I.all
    have lacc : acc.length = met.length := (I.bfs 0).len
    obtain ⟨⟨dx', fs', hw', wf'⟩, ⟨vs', em', pm'⟩, _⟩ := id I.w
    refine ⟨_, rfl, _, rfl, wk, CW, dx', fs', _, rfl, hw', TW.cl, TW.n_met, wf'.met, ma, _, rfl, .inl (SqL.of em'), _, _, rfl, rfl, _, rfl, ?_⟩
    rw [pm'.1]
    refine ite2 (fun h1 => ?_) (fun h1 => ?_)
    · have hlt : d < met.length := by
        have := of_decide_eq_true h1
        omega
      obtain ⟨p, ep⟩ : ∃ p, met[d]? = some p := ⟨_, List.getElem?_eq_getElem hlt⟩
      obtain ⟨wd, ewd⟩ : ∃ wd, acc[d]? = some wd := ⟨_, List.getElem?_eq_getElem (by omega)⟩
      have inp := I.all p (List.mem_of_getElem? ep)
      obtain ⟨d1, d2, g1, g2⟩ := inp.rows
      obtain ⟨qd, vd, pqd⟩ := pm'.2 d p ep
      have s0 := I.w.same
      refine ⟨fun σ' H'' => ∃ (met' : List Prw) (org' : List Org) (acc' : List (List Nat)) (v3 v4 v5 v6 v7 : Option V), σ' = [some (.ref wk), some (.ref ka), some (.int ((d + 1 : Nat) : Int)), v3, v4, v5, v6, v7] ∧ StrayJ CW H0 wk m1 m2 ma oa ka rs1 rs2 p0 met' org' acc' (d + 1) 0 H'' ∧ met.length ≤ met'.length, fun σ' H'' ⟨met', org', acc', v3, v4, v5, v6, v7, z1, z2, z3⟩ => ⟨rs1.length * rs2.length - (d + 1), by omega, d + 1, met', org', acc', v3, v4, v5, v6, v7, rfl, z1, z2, by omega⟩, ?_⟩
      refine ⟨_, rfl, wk, CW, dx', fs', _, rfl, hw', TW.cl, TW.n_one, wf'.one, _, rfl, wk, CW, dx', fs', _, rfl, hw', TW.cl, TW.n_other, wf'.other, _, rfl, wk, CW, dx', fs', _, rfl, hw', TW.cl, TW.n_met, wf'.met, _, rfl, ma, _, _, _, rfl, rfl, SqL.of em', atI_nat vd, ?_⟩
      refine ⟨m1, m2, qd, o1, o2, rs1, rs2, b1, b2, p, d1, d2, rfl, M1.same s0, M2.same s0, pqd, g1, g2, fun u s1 s2 H3 s3 eu es1 es2 => ?_⟩
      refine ⟨u, _, rfl, .inl (.inl eu), rfl, _, _, rfl, _, _, rfl, rfl, ?_⟩
      have ok1 := tx1 _ (List.mem_of_getElem? g1)
      have ok2 := tx2 _ (List.mem_of_getElem? g2)
      refine ⟨_, rfl, _, rfl, showP d1, showP d2, show_dp es1, show_dp es2, show_shaped ok1, show_shaped ok2, _, rfl, ?_⟩
      by_cases same : showD d1 = showD d2
      · rw [(show_eqv d1 d2).mpr same]
        have nbad : ¬ strayP rs1 rs2 p := fun z => ((stray_row g1 g2).mp z).1 same
        refine iteF ?_
        refine iteF ?_
        refine ⟨Nat.zero_le _, fun E0 H4 n4 s4 e4 => ?_⟩
        refine ⟨_, rfl, _, rfl, showP d1, showP d2, show_dp (s4 _ _ es1), show_dp (s4 _ _ es2), show_shaped ok1, show_shaped ok2, _, rfl, ?_⟩
        rw [(show_eqv d1 d2).mpr same]
        refine iteT ?_
        have s34 : Same H' H4 := s3.trans s4
        have I3 := I.go s34
        refine ⟨_, rfl, wk, CW, dx', fs', _, rfl, s34 _ _ hw', TW.cl, TW.n_one, wf'.one, _, rfl, wk, CW, dx', fs', _, rfl, s34 _ _ hw', TW.cl, TW.n_other, wf'.other, _, rfl, wk, CW, dx', fs', _, rfl, s34 _ _ hw', TW.cl, TW.n_met, wf'.met, _, rfl, ma, _, _, _, rfl, rfl, SqL.of (s34 _ _ em'), atI_nat vd, ?_⟩
        refine ⟨m1, m2, qd, o1, o2, rs1, rs2, b1, b2, p, d1, d2, rfl, M1.same (s0.trans s34), M2.same (s0.trans s34), s34 _ _ pqd, g1, g2, fit1, fit2, few _ (List.mem_of_getElem? g1), fun D us H5 nD s5 eD pD => ?_⟩
        have I4 := I3.go s5
        have nDk : D ≠ ka := fun z => by
          rw [z, I3.ek] at nD
          cases nD
        have nDm : D ≠ ma := fun z => by
          rw [z, s34 _ _ em'] at nD
          cases nD
        have nDo : D ≠ oa := fun z => by
          obtain ⟨_, eo, _⟩ := I3.w.eo
          rw [z, eo] at nD
          cases nD
        refine ⟨_, rfl, D, us, rfl, SqL.of eD, for_enumL (K := K) (a := D) (xs := us) (fun j σ H5 => ∃ (met' : List Prw) (org' : List Org) (acc' : List (List Nat)) (v6 v7 : Option V), σ = [some (.ref wk), some (.ref ka), some (.int (d : Int)), some (.ref s1), some (.ref s2), some (.ref D), v6, v7] ∧ StrayJ CW H0 wk m1 m2 ma oa ka rs1 rs2 p0 met' org' acc' d j H5 ∧ H5 D = some (.lst us) ∧ Prs H5 us (behind rs1 rs2 d1 d2) ∧ met.length ≤ met'.length ∧ met'[d]? = some p ∧ acc'[d]? = some wd) ⟨met, org, acc, _, _, rfl, I4, eD, pD, Nat.le_refl _, ep, ewd⟩ (fun j σ H5 _ z => by obtain ⟨_, _, _, _, _, _, _, z, _⟩ := z; exact SqL.of z) ?_ ?_⟩
        · rintro j x σ Ha T' Hb hxj ⟨met', org', acc', w6, w7, rfl, Ia, eDa, pDa, ge, epd, ewd'⟩ nT sT eT
          have hj : j < (behind rs1 rs2 d1 d2).length := by
            have := (List.getElem?_eq_some_iff.mp hxj).1
            rw [← pD.1]
            exact this
          obtain ⟨pj, epj⟩ : ∃ pj, (behind rs1 rs2 d1 d2)[j]? = some pj := ⟨_, List.getElem?_eq_getElem hj⟩
          obtain ⟨qj, vj, pqj⟩ := pDa.2 j pj epj
          rw [hxj] at vj
          cases vj
          have sc : sucP rs1 rs2 p j = some pj := by
            unfold sucP
            rw [behindAt_of g1 g2]
            exact epj
          have inj := sucP_in fit1 fit2 sc
          have jB : j < BASE := sucP_lt few p j pj sc
          have lenj := in_few Ia.nd Ia.all
          have len' : acc'.length = met'.length := (Ia.bfs 0).len
          have Ib := Ia.go sT
          refine ⟨T', _, rfl, .inl (.inl eT), rfl, _, _, rfl, _, _, rfl, rfl, ?_⟩
          refine ⟨_, rfl, _, rfl, ka, _, rfl, DGet.t (k := keyP pj) Ib.ek (sT _ _ pqj), _, rfl, ?_⟩
          rw [val_knT]
          by_cases hin : pj ∈ met'
          · rw [decide_eq_true hin]
            refine iteF ?_
            refine ⟨met', org', acc', _, _, rfl, ⟨Ib.w, Ib.ek, Ib.n0, Ib.all, Ib.nd, fun cap => (Ib.bfs cap).skip epd ewd' fun c ec _ s ds => ?_, Ib.org, Ib.runs⟩, sT _ _ eDa, pDa.same sT, ge, epd, ewd'⟩
            rw [sc] at ec
            have ec := Option.some.inj ec
            subst ec
            obtain ⟨j0, hj0, ej0⟩ := List.mem_iff_getElem.mp hin
            exact ⟨j0, pj, s, by rw [List.getElem?_eq_getElem hj0, ej0], ds, List.prefix_refl s⟩
          · rw [decide_eq_false hin]
            refine iteT ?_
            have kl : (knT met').length < sizeLine := by
              unfold knT
              rw [List.length_map, sizeLine_eq]
              omega
            refine ⟨_, rfl, _, rfl, ka, _, rfl, DPut.t (k := keyP pj) Ib.ek (sT _ _ pqj) kl, ?_⟩
            rw [knT_put hin]
            have W6 := Ib.w.kn (o := .dT (knT (addP met' pj))) Ib.ek Ib.n0
            have e6 : upd Hb ka (.dT (knT (addP met' pj))) ka = some (.dT (knT (addP met' pj))) := upd_same
            have eD6 : upd Hb ka (.dT (knT (addP met' pj))) D = some (.lst us) := by
              rw [upd_ne nDk]
              exact sT _ _ eDa
            have pD6 : Prs (upd Hb ka (.dT (knT (addP met' pj)))) us (behind rs1 rs2 d1 d2) := ⟨pDa.1, fun kk pp ee => by
              obtain ⟨qq, k1, k2⟩ := pDa.2 kk pp ee
              have k3 := sT _ _ k2
              exact ⟨qq, k1, by unfold PairT; rw [upd_ne (fun z => by rw [z, Ib.ek] at k3; cases k3)]; exact k3⟩⟩
            generalize upd Hb ka (.dT (knT (addP met' pj))) = H6 at W6 e6 eD6 pD6 ⊢
            have pq6 := (pD6.2 j pj epj)
            rw [hxj] at pq6
            obtain ⟨_, c6, pq6⟩ := pq6
            cases c6
            obtain ⟨dx6, fs6, hw6, wf6⟩ := W6.hw
            have ad : addP met' pj = met' ++ [pj] := if_neg hin
            have lorg : org'.length = met'.length := by rw [Ib.org.len, len']
            refine ⟨_, rfl, wk, dx6, fs6, rfl, hw6, wf6.take, _, rfl, _, rfl, _, rfl, H0, wk, m1, m2, ma, oa, qj, (d : Int), ((j : Nat) : Int), pj, met', org', rfl, W6, pq6, by omega, by omega, fun H7 W7 off => ?_⟩
            have nkm : ka ≠ ma := fun z => by
              obtain ⟨_, em6, _⟩ := W6.em
              rw [z, em6] at e6
              cases e6
            have nko : ka ≠ oa := fun z => by
              obtain ⟨_, eo6, _⟩ := W6.eo
              rw [z, eo6] at e6
              cases e6
            have ek7 := off ka _ nkm nko e6
            have eD7 := off D _ nDm nDo eD6
            have hd' : d < met'.length := (List.getElem?_eq_some_iff.mp epd).1
            refine ⟨met' ++ [pj], org' ++ [((d : Int), (j : Int))], acc' ++ [wd ++ [j]], _, _, rfl, ⟨W7, by rw [← ad]; exact ek7, Ib.n0, fun y hy => (List.mem_append.mp hy).elim (Ib.all y) fun z => by rw [List.mem_singleton.mp z]; exact inj, List.nodup_append.mpr ⟨Ib.nd, by simp, fun x hx y hy z => by rw [List.mem_singleton.mp hy] at z; exact hin (z ▸ hx)⟩, fun cap => (Ib.bfs cap).push epd ewd' nbad sc jB, Ib.org.push (by omega) ewd', Ib.runs.push len' epd ewd' sc⟩, eD7, ⟨pD6.1, fun kk pp ee => ?_⟩, by rw [List.length_append]; omega, by rw [List.getElem?_append_left hd']; exact epd, by rw [List.getElem?_append_left (by omega)]; exact ewd'⟩
            obtain ⟨qq, k1, k2⟩ := pD6.2 kk pp ee
            refine ⟨qq, k1, off _ _ (fun z => ?_) (fun z => ?_) k2⟩
            · obtain ⟨_, em6, _⟩ := W6.em
              unfold PairT at k2
              rw [z, em6] at k2
              cases k2
            · obtain ⟨_, eo6, _⟩ := W6.eo
              unfold PairT at k2
              rw [z, eo6] at k2
              cases k2
        · rintro σ H5 ⟨met', org', acc', w6, w7, rfl, I5, _, pD5, ge, epd, ewd'⟩
          have le : us.length ≤ BASE := by
            rw [pD5.1]
            unfold behind
            rw [List.length_zipWith]
            have := few _ (List.mem_of_getElem? g1)
            show _ ≤ 1001
            omega
          refine ⟨_, rfl, _, _, rfl, rfl, met', org', acc', _, _, _, _, _, rfl, ⟨I5.w, I5.ek, I5.n0, I5.all, I5.nd, fun cap => (I5.bfs cap).next base2 epd ewd' nbad le fun k c hk ec => ?_, I5.org, I5.runs⟩, ge⟩
          unfold sucP at ec
          rw [behindAt_of g1 g2] at ec
          have := (List.getElem?_eq_some_iff.mp ec).1
          rw [← pD5.1] at this
          omega
      · have ne : PyData.eqv (showP d1) (showP d2) = false := Bool.eq_false_iff.mpr fun z => same ((show_eqv d1 d2).mp z)
        rw [ne]
        refine iteT ?_
        refine ⟨_, rfl, (by show 1 ≤ sizeLine; rw [sizeLine_eq]; decide), fun t4 H4 n4 s4 e4 => ?_⟩
        refine ⟨showP d1, showP (.go 0), show_dp (s4 _ _ es1), show_dp e4, show_shaped ok1, show_shaped (by decide +kernel), _, rfl, ?_⟩
        by_cases hg : showD d1 = showD (.go 0)
        · rw [(show_eqv d1 (.go 0)).mpr hg]
          refine iteF ?_
          have nbad : ¬ strayP rs1 rs2 p := fun z => ((stray_row g1 g2).mp z).2 hg
          refine ⟨Nat.zero_le _, fun E0 H5 n5 s5 e5 => ?_⟩
          refine ⟨_, rfl, _, rfl, showP d1, showP d2, show_dp (s5 _ _ (s4 _ _ es1)), show_dp (s5 _ _ (s4 _ _ es2)), show_shaped ok1, show_shaped ok2, _, rfl, ?_⟩
          rw [ne]
          refine iteF ?_
          have I5 := I.go ((s3.trans s4).trans s5)
          refine ⟨_, rfl, E0, [], rfl, SqL.of e5, for_enumL (K := K) (a := E0) (xs := []) (fun j σ H6 => ∃ (v6 v7 : Option V), σ = [some (.ref wk), some (.ref ka), some (.int (d : Int)), some (.ref s1), some (.ref s2), some (.ref E0), v6, v7] ∧ StrayJ CW H0 wk m1 m2 ma oa ka rs1 rs2 p0 met org acc d 0 H6 ∧ H6 E0 = some (.lst [])) ⟨_, _, rfl, I5, e5⟩ (fun j σ H6 _ z => by obtain ⟨_, _, _, _, z⟩ := z; exact SqL.of z) ?_ ?_⟩
          · rintro j x σ Ha T' Hb hxj
            simp at hxj
          · rintro σ H6 ⟨w6, w7, rfl, I6, _⟩
            refine ⟨_, rfl, _, _, rfl, rfl, met, org, acc, _, _, _, _, _, rfl, ⟨I6.w, I6.ek, I6.n0, I6.all, I6.nd, fun cap => (I6.bfs cap).next base2 ep ewd nbad (Nat.zero_le _) fun k c hk ec => ?_, I6.org, I6.runs⟩, Nat.le_refl _⟩
            unfold sucP at ec
            rw [behindAt_of g1 g2] at ec
            have := (List.getElem?_eq_some_iff.mp ec).1
            unfold behind at this
            rw [List.length_zipWith, hang_nexts hg] at this
            simp at this
        · have ne4 : PyData.eqv (showP d1) (showP (.go 0)) = false := Bool.eq_false_iff.mpr fun z => hg ((show_eqv d1 (.go 0)).mp z)
          rw [ne4]
          refine iteT ?_
          have hb : strayP rs1 rs2 p := (stray_row g1 g2).mpr ⟨same, hg⟩
          obtain ⟨dv, lv⟩ := (I.bfs wd.length).least base2 (sucP_lt few) ep ewd hb (Nat.le_refl _)
          exact ⟨_, rfl, kS met org acc d p wd H4 (I.w.go (s3.trans s4)) (by omega) lacc I.org I.runs ep ewd inp hb dv lv⟩
    · have hge : d = met.length := by
        by_cases z : d < met.length
        · exact absurd (decide_eq_true (by omega)) h1
        · omega
      subst hge
      refine ⟨_, rfl, kN met org H' I.w fun u du => ?_⟩
      have := (I.bfs u.length).none base2 (sucP_lt few) u du
      omega
end
end Mine

set_option maxRecDepth 100000
set_option maxHeartbeats 4000000
/-! list(zip(a, b)) of two lists: a new list of new pairs -/
namespace L2
open PySem PySem.Spec PyProof.Rows
section
variable {X : Cx} {pins : List (Addr × Obj)} {σ : St} {z TI TO i1 i2 l1 l2 S : Addr} {xs ys : List V}
/-- the zip stands at turn i -/
structure ZSt (h : Heap) (H : Hp) (z TI TO i1 i2 l1 l2 : Addr) (i : Nat) : Prop where
  zz : IsZip h z TI TO .none ∨ ∃ T f us, IsZipHeld h z TI TO T f ∧ H T = some (.tup us)
  to : ∃ a b, IsPair h TO a b
  ti : IsPair h TI (.ref i1) (.ref i2)
  a : h.IsListIter i1 l1 i
  b : h.IsListIter i2 l2 i
theorem ZSt.keep {h h' : Heap} {H H' : Hp} {i : Nat} (Z : ZSt h H z TI TO i1 i2 l1 l2 i) (k : ∀ c, c ∈ [z, TI, TO, i1, i2] → ∀ o, h.get? c = some o → h'.get? c = some o) (kH : ∀ c us, H c = some (.tup us) → H' c = some (.tup us)) : ZSt h' H' z TI TO i1 i2 l1 l2 i := by
  obtain ⟨zz, ⟨u, v, to⟩, ti, a, b⟩ := Z
  refine ⟨?_, ⟨u, v, k TO (by simp) _ to⟩, k TI (by simp) _ ti, a.at fun o e => k i1 (by simp) o e, b.at fun o e => k i2 (by simp) o e⟩
  rcases zz with h1 | ⟨T, f, us, h1, h2⟩
  · exact .inl (k z (by simp) _ h1)
  · exact .inr ⟨T, f, us, k z (by simp) _ h1, kH T us h2⟩
/-- the pairs so far -/
def ZPairs (H : Hp) (vs xs ys : List V) (i : Nat) : Prop := vs.length = i ∧ ∀ j, j < i → ∃ T x y, vs[j]? = some (.ref T) ∧ xs[j]? = some x ∧ ys[j]? = some y ∧ H T = some (.tup [x, y])
theorem ZPairs.snoc {H : Hp} {vs : List V} {i : Nat} {T : Addr} {x y : V} (h : ZPairs H vs xs ys i) (hx : xs[i]? = some x) (hy : ys[i]? = some y) (e : H T = some (.tup [x, y])) : ZPairs H (vs ++ [.ref T]) xs ys (i + 1) := by
  refine ⟨by rw [List.length_append, h.1]; rfl, fun j hj => ?_⟩
  by_cases q : j < i
  · obtain ⟨T', x', y', h1, h2⟩ := h.2 j q
    exact ⟨T', x', y', by rw [List.getElem?_append_left (by rw [h.1]; exact q)]; exact h1, h2⟩
  · have e2 : j = i := by omega
    subst e2
    exact ⟨T, x, y, by rw [List.getElem?_append_right (by rw [h.1]; exact Nat.le_refl _), h.1, Nat.sub_self]; rfl, hx, hy, e⟩
theorem ZPairs.keep {H H' : Hp} {vs : List V} {i : Nat} (h : ZPairs H vs xs ys i) (k : ∀ c us, H c = some (.tup us) → H' c = some (.tup us)) : ZPairs H' vs xs ys i := ⟨h.1, fun j hj => by
  obtain ⟨T, x, y, h1, h2, h3, h4⟩ := h.2 j hj
  exact ⟨T, x, y, h1, h2, h3, k _ _ h4⟩⟩
theorem zip_item_any {A : Around} {E : Value → Shared → Prop} {s : Shared} {H : Hp} {i : Nat} {x y : V} {Q : Option Value → Shared → Prop} (D : ZipApart z TI TO i1 i2 l1 l2) (I : Inv X pins σ H s) (Z : ZSt s.heap H z TI TO i1 i2 l1 l2 i)
    (h1 : H l1 = some (.lst xs)) (h2 : H l2 = some (.lst ys)) (hx : xs[i]? = some x) (hy : ys[i]? = some y) (hf : ∀ c ∈ [z, TI, TO, i1, i2], FpOk X pins H c)
    (hQ : ∀ (s' : Shared) (T : Addr), H T = none → Inv X pins σ (upd H T (.tup [x, y])) s' → ZSt s'.heap (upd H T (.tup [x, y])) z TI TO i1 i2 l1 l2 (i + 1) → (∀ c ∈ [z, TI, TO, i1, i2], FpOk X pins (upd H T (.tup [x, y])) c) → Q (some (.ref T)) s') :
    wpAny (model X.prog X.w) A (pyNext (.ref z)) Q E s := by
  obtain ⟨its, rv, p1, _⟩ := I.list (SqL.of h1)
  obtain ⟨its2, rv2, p2, _⟩ := I.list (SqL.of h2)
  obtain ⟨u, hu, ru⟩ := rv.get hx
  obtain ⟨u2, hu2, ru2⟩ := rv2.get hy
  obtain ⟨zz, ⟨ta, tb, to⟩, ti, ia, ib⟩ := Z
  have hnT : H s.heap.objs.size = none := I.hok.fresh (Nat.le_refl _)
  have fin : ∀ (h' : Heap) (f : Bool) (T' : Addr) (us : List V), IsZipHeld h' z TI TO T' f → upd H s.heap.objs.size (.tup [x, y]) T' = some (.tup us) → (∃ a b, IsPair h' TO a b) → h'.IsListIter i1 l1 (i + 1) → h'.IsListIter i2 l2 (i + 1) → IsPair h' s.heap.objs.size u u2 → (∀ c o, c ≠ z → c ≠ TO → c ≠ i1 → c ≠ i2 → s.heap.get? c = some o → h'.get? c = some o) → Q (some (.ref s.heap.objs.size)) { s with heap := h' } := by
    intro h' f T' us hz hT' hto ha hb hp hk
    have new : ObjOk X.prog X.w (upd H s.heap.objs.size (.tup [x, y])) h' s.heap.objs.size (.tup [x, y]) :=
      ⟨by show 2 ≤ sizeLine; decide, [u, u2], .cons ru (.cons ru2 .nil), ⟨_, hp, rfl, _, rfl⟩⟩
    have I1 : Inv X pins σ (upd H s.heap.objs.size (.tup [x, y])) { s with heap := h' } :=
      I.turnedNew (t' := s.toks) (ch := [z, TI, TO, i1, i2]) (fun c o hb q => hk c o (fun q' => hb (by simp [q'])) (fun q' => hb (by simp [q'])) (fun q' => hb (by simp [q'])) (fun q' => hb (by simp [q'])) q) hf (Nat.le_refl _) new
    refine hQ _ _ hnT I1 ⟨.inr ⟨_, f, _, hz, hT'⟩, hto, hk _ _ D.TIz D.TITO D.TIi1 D.TIi2 ti, ha, hb⟩ fun c hc => ?_
    obtain ⟨q1, q2⟩ := hf c hc
    refine ⟨?_, q2⟩
    have lt : c < s.heap.objs.size := by
      have e' : c = z ∨ c = TI ∨ c = TO ∨ c = i1 ∨ c = i2 := by simpa using hc
      rcases e' with q | q | q | q | q
      · rw [q]
        rcases zz with w1 | ⟨_, _, _, w1, _⟩ <;> exact Heap.lt_size w1
      · rw [q]; exact Heap.lt_size ti
      · rw [q]; exact Heap.lt_size to
      · rw [q]; obtain ⟨_, e1, _⟩ := ia; exact Heap.lt_size e1
      · rw [q]; obtain ⟨_, e1, _⟩ := ib; exact Heap.lt_size e1
    rw [upd_ne (Nat.ne_of_lt lt)]
    exact q1
  rcases zz with w1 | ⟨T, f, us, w1, w2⟩
  · exact wpAny_pyNext_zip_item D w1 ti to ia ib p1.isList p2.isList (by simpa using hu) (by simpa using hu2) fun h' a1 a2 a3 a4 a5 a6 hk => fin h' false _ _ a1 upd_same ⟨_, _, a2⟩ a3 a4 a5 hk
  · obtain ⟨_, _, ⟨o, ho, _⟩, _⟩ := I.tuple (SqT.of w2)
    refine wpAny_pyNext_zip_item_held D w1 ho ti ia ib p1.isList p2.isList (by simpa using hu) (by simpa using hu2) fun h' a1 a3 a4 a5 a6 hk => fin h' true T us a1 ?_ ⟨_, _, hk _ _ D.TOz D.TOi1 D.TOi2 to⟩ a3 a4 a5 fun c o c1 _ c3 c4 e => hk c o c1 c3 c4 e
    rw [upd_ne (fun q => by rw [q, hnT] at w2; cases w2)]
    exact w2
theorem zip_end_any {A : Around} {E : Value → Shared → Prop} {s : Shared} {H : Hp} {i : Nat} {Q : Option Value → Shared → Prop} (hh : A.handled = none) (D : ZipApart z TI TO i1 i2 l1 l2) (I : Inv X pins σ H s) (Z : ZSt s.heap H z TI TO i1 i2 l1 l2 i)
    (h1 : H l1 = some (.lst xs)) (h2 : H l2 = some (.lst ys)) (hi : min xs.length ys.length ≤ i) (hf : ∀ c ∈ [z, TI, TO, i1, i2], FpOk X pins H c)
    (hQ : ∀ s' : Shared, Inv X pins σ H s' → Q none s') : wpAny (model X.prog X.w) A (pyNext (.ref z)) Q E s := by
  obtain ⟨its, rv, p1, _⟩ := I.list (SqL.of h1)
  obtain ⟨its2, rv2, p2, _⟩ := I.list (SqL.of h2)
  have q1 := rv.length
  have q2 := rv2.length
  obtain ⟨zz, ⟨ta, tb, to⟩, ti, ia, ib⟩ := Z
  have he : its.toArray[i]? = none ∨ its2.toArray[i]? = none := by
    rcases Nat.le_total xs.length ys.length with q | q
    · exact .inl (by simp; omega)
    · exact .inr (by simp; omega)
  have fin : ∀ h' : Heap, (∀ c o, c ≠ z → c ≠ TO → c ≠ i1 → c ≠ i2 → s.heap.get? c = some o → h'.get? c = some o) → Q none { s with heap := h' } := fun h' hk =>
    hQ _ (I.turnedL (t' := s.toks) (ch := [z, TI, TO, i1, i2]) (fun c o hb q => hk c o (fun q' => hb (by simp [q'])) (fun q' => hb (by simp [q'])) (fun q' => hb (by simp [q'])) (fun q' => hb (by simp [q'])) q) hf)
  rcases zz with w1 | ⟨T, f, us, w1, w2⟩
  · exact wpAny_pyNext_zip_end hh D w1 ti to ia ib p1.isList p2.isList he fun h' hk => fin h' hk
  · obtain ⟨_, _, ⟨o, ho, _⟩, _⟩ := I.tuple (SqT.of w2)
    exact wpAny_pyNext_zip_end_held hh D w1 ho ti ia ib p1.isList p2.isList he fun h' hk => fin h' fun c o c1 _ c3 c4 e => hk c o c1 c3 c4 e
theorem extend_zip {A : Around} {R : Result → Shared → Prop} (hh : A.handled = none) (D : ZipApart z TI TO i1 i2 l1 l2) (res : Value) :
    ∀ (k i : Nat) (s : Shared) (H : Hp) (vs : List V), min xs.length ys.length - i = k → i ≤ min xs.length ys.length → Inv X pins σ H s → ZSt s.heap H z TI TO i1 i2 l1 l2 i → H l1 = some (.lst xs) → H l2 = some (.lst ys) → (∀ c ∈ [z, TI, TO, i1, i2], FpOk X pins H c) →
      l1 ≠ S → l2 ≠ S → H S = some (.lst vs) → ZPairs H vs xs ys i →
      (∀ (s' : Shared) (H' : Hp) (vs' : List V), Inv X pins σ H' s' → (∀ b o, b ≠ S → H b = some o → H' b = some o) → H' S = some (.lst vs') → ZPairs H' vs' xs ys (min xs.length ys.length) → R (.ok (.ret res)) s') →
      codeAny (model X.prog X.w) A (.builtin "list.extend.loop" ⟨[.ref S, .ref z, res], []⟩) R s := by
  intro k
  induction k with
  | zero =>
    intro i s H vs hk hi I Z h1 h2 hf n1 n2 hS ph hR
    have hin : i = min xs.length ys.length := by omega
    refine codeAny_builtin F.entry_extend_loop ?_
    rw [Around.under_plainId F.plain_extend_loop _]
    show wpAny _ A.in1 (pyNext (.ref z) >>= _) _ _ s
    refine wpAny_bind (zip_end_any (A := A.in1) hh D I Z h1 h2 (by omega) hf fun s' I' => ?_)
    exact wpAny_pure (hR s' H vs I' (fun _ _ _ e => e) hS (by rw [← hin]; exact ph))
  | succ k ih =>
    intro i s H vs hk hi I Z h1 h2 hf n1 n2 hS ph hR
    have hlt1 : i < xs.length := by omega
    have hlt2 : i < ys.length := by omega
    have hx : xs[i]? = some xs[i] := List.getElem?_eq_getElem hlt1
    have hy : ys[i]? = some ys[i] := List.getElem?_eq_getElem hlt2
    refine codeAny_builtin F.entry_extend_loop ?_
    rw [Around.under_plainId F.plain_extend_loop _]
    show wpAny _ A.in1 (pyNext (.ref z) >>= _) _ _ s
    refine wpAny_bind (zip_item_any (A := A.in1) D I Z h1 h2 hx hy hf fun s1 T nT I1 Z1 hf1 => ?_)
    have old : ∀ {b : Addr} {o : HO}, H b = some o → upd H T (.tup [xs[i], ys[i]]) b = some o := fun {b o} e => by
      rw [upd_ne (fun q => by rw [q, nT] at e; cases e)]
      exact e
    have hS1 := old hS
    have hT1 : upd H T (.tup [xs[i], ys[i]]) T = some (.tup [xs[i], ys[i]]) := upd_same
    have g1 := old h1
    have g2 := old h2
    have ph1 : ZPairs (upd H T (.tup [xs[i], ys[i]])) vs xs ys i := ph.keep fun c us e => old e
    have k1 : ∀ b o, H b = some o → upd H T (.tup [xs[i], ys[i]]) b = some o := fun b o e => old e
    generalize upd H T (.tup [xs[i], ys[i]]) = H1 at I1 Z1 hf1 hS1 hT1 g1 g2 ph1 k1
    obtain ⟨z9, its, n9, r9, hl9, e9⟩ := I1.lstM hS1
    obtain ⟨_, _, _, zx⟩ := I1.list (SqL.of g1)
    have szi : its.length = i := by rw [← hl9, ph.1]
    have szn : i < sizeLine := by omega
    show wpAny _ A.in1 (updateSeq S (·.push (.ref T)) >>= _) _ _ _
    refine wpAny_bind ?_
    refine wpAny_updateSeq e9 rfl (wpAny_pure ⟨plainId_quiet F.plain_extend_loop _, ?_⟩) (by rw [List.size_toArray]; omega) (by show (its.toArray.push (.ref T)).size ≤ sizeLine + 1; rw [Array.size_push, List.size_toArray]; omega)
    have I2 : Inv X pins σ (upd H1 S (.lst (vs ++ [.ref T]))) { s1 with heap := s1.heap.update S (Obj.mapSeq (·.push (.ref T))) } :=
      I1.lset (its' := its ++ [.ref T]) (t' := s1.toks) hS1 e9 (by simp) (r9.append (.cons (show RelV (.ref T) (.ref T) from rfl) .nil)) (by rw [List.length_append, ph.1]; show i + 1 ≤ sizeLine; omega)
    have offS : ∀ {b : Addr} {o : HO}, b ≠ S → H1 b = some o → upd H1 S (.lst (vs ++ [.ref T])) b = some o := fun {b o} n e => by rw [upd_ne n]; exact e
    have tupS : ∀ (c : Addr) (us : List V), H1 c = some (.tup us) → upd H1 S (.lst (vs ++ [.ref T])) c = some (.tup us) := fun c us e => offS (fun q => by rw [q, hS1] at e; cases e) e
    have nS : ∀ c ∈ [z, TI, TO, i1, i2], c ≠ S := fun c hc q => by
      have := (hf1 c hc).1
      rw [q, hS1] at this
      cases this
    refine ih (i + 1) _ _ (vs ++ [.ref T]) (by omega) (by omega) I2 (Z1.keep (fun c hc o e => (Heap.get?_update_other _ _ (Ne.symm (nS c hc))).trans e) tupS) (offS n1 g1) (offS n2 g2) (fun c hc => ?_) n1 n2 upd_same ((ph1.snoc hx hy hT1).keep tupS) fun s' H' vs' I' kk hS' ph' => hR s' H' vs' I' (fun b o nb e => kk b o nb (offS nb (k1 b o e))) hS' ph'
    obtain ⟨q1, q2⟩ := hf1 c hc
    exact ⟨by rw [upd_ne (nS c hc)]; exact q1, q2⟩
theorem zip_no_len : typeLookup (.type "zip") "__len__" = pure none := am_miss_of_fast (by decide +kernel)
theorem zip_no_hint : typeLookup (.type "zip") "__length_hint__" = pure none := am_miss_of_fast (by decide +kernel)
theorem extendWith_zip {A : Around} {R : Result → Shared → Prop} (hh : A.handled = none) (D : ZipApart z TI TO i1 i2 l1 l2) (res : Value) {s : Shared} {H : Hp} (I : Inv X pins σ H s) (hz : IsZip s.heap z TI TO .none) (Z : ZSt s.heap H z TI TO i1 i2 l1 l2 0)
    (h1 : H l1 = some (.lst xs)) (h2 : H l2 = some (.lst ys)) (hf : ∀ c ∈ [z, TI, TO, i1, i2], FpOk X pins H c) (n1 : l1 ≠ S) (n2 : l2 ≠ S) (hS : H S = some (.lst []))
    (hR : ∀ (s' : Shared) (H' : Hp) (vs' : List V), Inv X pins σ H' s' → (∀ b o, b ≠ S → H b = some o → H' b = some o) → H' S = some (.lst vs') → ZPairs H' vs' xs ys (min xs.length ys.length) → R (.ok (.ret res)) s') :
    wpAny (model X.prog X.w) A.in1 (Builtin.List.listExtendWith (.ref S) (.ref z) res)
      (fun fin s' => match fin with | .done f => R (.ok f) s' | .again c' => c'.quiet = true ∧ codeAny (model X.prog X.w) A c' R s') (fun e s' => R (.error e) s') s := by
  have nS : ∀ c ∈ [z, TI, TO, i1, i2], c ≠ S := fun c hc q => by
    have := (hf c hc).1
    rw [q, hS] at this
    cases this
  have hSI : S ≠ z := Ne.symm (nS z (by simp))
  have hT : s.TypeIs (.ref z) "zip" := ⟨_, hz, rfl⟩
  unfold Builtin.List.listExtendWith
  refine wpAny_bind (wpAny_typeOf hT ?_)
  have e1 : Builtin.List.listSameRef (.ref S) (.ref z) = false := by simp [Builtin.List.listSameRef, hSI]
  have e2 : (Value.type "zip" == Value.type "list") = false := by decide
  have e3 : (Value.type "zip" == Value.type "tuple") = false := by decide
  simp only [e1, e2, e3, Bool.or_false, Bool.false_eq_true, if_false]
  refine wpAny_bind (wpAny_pyIter_zip hz ?_)
  refine wpAny_bind (wpAny_holding ?_)
  unfold Builtin.List.listLengthHint
  refine wpAny_bind (wpAny_specialOf hT zip_no_len ?_)
  show wpAny _ A.in1 (specialOf (Value.ref z) (Str.ofString "__length_hint__") >>= _) _ _ _
  refine wpAny_bind (wpAny_specialOf hT zip_no_hint ?_)
  refine wpAny_pure ?_
  show wpAny _ A.in1 (rule "list.extend.makes-room" >>= fun _ => Builtin.List.listTouch (.ref S) >>= fun _ =>
    again (.builtin "list.extend.loop" ⟨[.ref S, .ref z, res], []⟩)) _ _ _
  refine wpAny_bind (wpAny_rule ?_)
  refine wpAny_bind ?_
  show wpAny _ A.in1 (updateSeq S (·.push .none) >>= fun _ => updateSeq S (·.pop)) _ _ _
  obtain ⟨z9, its, n9, r9, hl9, e9⟩ := I.lstM hS
  have z0 : its = [] := List.eq_nil_of_length_eq_zero hl9.symm
  subst z0
  refine wpAny_bind (wpAny_updateSeq e9 rfl ?_)
  have I2 := I.lset (its' := [.none]) (ys := [.non]) (f := (·.push .none)) (t' := s.toks) hS e9 rfl (.cons (show RelV .non .none from rfl) .nil) (by show 1 ≤ sizeLine; decide)
  have hS2 : upd H S (.lst [.non]) S = some (.lst [.non]) := upd_same
  obtain ⟨z8, its8, n8, r8, hl8, e8⟩ := I2.lstM hS2
  have w1 : its8.toArray.size ≤ sizeLine := by
    rw [List.size_toArray, ← hl8]
    show 1 ≤ sizeLine
    decide
  have w2 : (its8.toArray.pop).size ≤ sizeLine + 1 := by
    rw [Array.size_pop]
    omega
  refine wpAny_updateSeq (hz := w1) (_hz' := w2) e8 rfl ?_
  have e80 : its8.toArray.pop = ([] : List Value).toArray := by
    match its8, hl8 with
    | [u], _ => rfl
  have I3 := I2.lset (its' := []) (ys := []) (f := (·.pop)) (t' := s.toks) hS2 e8 e80 .nil (Nat.zero_le _)
  rw [upd_upd] at I3
  have same3 : upd H S (.lst []) = H := by
    funext b
    by_cases q : b = S
    · rw [q, upd_same, hS]
    · rw [upd_ne q]
  rw [same3] at I3
  refine wpAny_pure ⟨plainId_quiet F.plain_extend_loop _, extend_zip (S := S) hh D res _ 0 _ H [] rfl (Nat.zero_le _) I3 (Z.keep (fun c hc o e => ?_) fun _ _ e => e) h1 h2 hf n1 n2 hS ⟨rfl, fun j hj => absurd hj (Nat.not_lt_zero j)⟩ hR⟩
  exact (Heap.get?_update_other _ _ (Ne.symm (nS c hc))).trans ((Heap.get?_update_other _ _ (Ne.symm (nS c hc))).trans e)
theorem list_init_zip {A : Around} {R : Result → Shared → Prop} (hh : A.handled = none) (D : ZipApart z TI TO i1 i2 l1 l2) {s : Shared} {H : Hp} (I : Inv X pins σ H s) (hz : IsZip s.heap z TI TO .none) (Z : ZSt s.heap H z TI TO i1 i2 l1 l2 0)
    (h1 : H l1 = some (.lst xs)) (h2 : H l2 = some (.lst ys)) (hf : ∀ c ∈ [z, TI, TO, i1, i2], FpOk X pins H c) (n1 : l1 ≠ S) (n2 : l2 ≠ S) (hS : H S = some (.lst []))
    (hR : ∀ (s' : Shared) (H' : Hp) (vs' : List V), Inv X pins σ H' s' → (∀ b o, b ≠ S → H b = some o → H' b = some o) → H' S = some (.lst vs') → ZPairs H' vs' xs ys (min xs.length ys.length) → R (.ok (.ret .none)) s') :
    wpAny (model X.prog X.w) A.in1 (Builtin.«list.__init__» ⟨[.ref S, .ref z], []⟩)
      (fun fin s' => match fin with | .done f => R (.ok f) s' | .again c' => c'.quiet = true ∧ codeAny (model X.prog X.w) A c' R s') (fun e s' => R (.error e) s') s := by
  have nS : ∀ c ∈ [z, TI, TO, i1, i2], c ≠ S := fun c hc q => by
    have := (hf c hc).1
    rw [q, hS] at this
    cases this
  obtain ⟨z9, its, n9, r9, hl9, e9⟩ := I.lstM hS
  have z0 : its = [] := List.eq_nil_of_length_eq_zero hl9.symm
  subst z0
  show wpAny _ A.in1 (do let old ← Builtin.List.listItems (.ref S); Builtin.List.listUpdate (.ref S) (fun _ => #[]); letGo old.toList.reverse; Builtin.List.listExtendWith (.ref S) (.ref z) .none) _ _ s
  refine wpAny_bind ?_
  unfold Builtin.List.listItems
  refine wpAny_bind (wpAny_seqItems e9 rfl (wpAny_pure ?_))
  show wpAny _ A.in1 (updateSeq S (fun _ => #[]) >>= fun _ => letGo (#[] : Array Value).toList.reverse >>= fun _ => Builtin.List.listExtendWith (.ref S) (.ref z) .none) _ _ s
  refine wpAny_bind (wpAny_updateSeq e9 rfl ?_)
  have I2 := I.lset (its' := []) (ys := []) (f := fun _ => #[]) (t' := s.toks) hS e9 rfl .nil (Nat.zero_le _)
  have same3 : upd H S (.lst []) = H := by
    funext b
    by_cases q : b = S
    · rw [q, upd_same, hS]
    · rw [upd_ne q]
  rw [same3] at I2
  have oth : ∀ c ∈ [z, TI, TO, i1, i2], ∀ o, s.heap.get? c = some o → (s.heap.update S (Obj.mapSeq (fun _ => (#[] : Array Value)))).get? c = some o :=
    fun c hc o e => (Heap.get?_update_other _ _ (Ne.symm (nS c hc))).trans e
  refine wpAny_bind (wpAny_letGo ?_)
  exact extendWith_zip (S := S) hh D .none I2 (oth z (by simp) _ hz) (Z.keep (fun c hc o e => oth c hc o e) fun _ _ e => e) h1 h2 hf n1 n2 hS hR
theorem call_list_zip {A : Around} {E : Value → Shared → Prop} {Q : Value → Shared → Prop} (hh : A.handled = none) (D : ZipApart z TI TO i1 i2 l1 l2) {s : Shared} {H : Hp} (I : Inv X pins σ H s) (hz : IsZip s.heap z TI TO .none) (Z : ZSt s.heap H z TI TO i1 i2 l1 l2 0)
    (h1 : H l1 = some (.lst xs)) (h2 : H l2 = some (.lst ys)) (hf : ∀ c ∈ [z, TI, TO, i1, i2], FpOk X pins H c) (hlt : ∀ c ∈ [z, TI, TO, i1, i2], c < s.heap.objs.size)
    (hQ : ∀ (s' : Shared) (H' : Hp) (S : Addr) (vs' : List V), H S = none → Inv X pins σ H' s' → (∀ b o, H b = some o → H' b = some o) → H' S = some (.lst vs') → ZPairs H' vs' xs ys (min xs.length ys.length) → Q (.ref S) s') :
    wpAny (model X.prog X.w) A (call (.type "list") [.ref z]) Q E s := by
  refine callType_codes (Q₁ := fun obj s₁ => obj = .ref s.heap.objs.size ∧ s₁ = { s with heap := s.heap.push { cls := .type "list", data := .seq #[] } }) F.called_list (F.typeCall_list_1 _) F.entry_list_init
    (code_list_new _ ⟨rfl, rfl⟩) fun obj s₁ hs₁ => ?_
  obtain ⟨rfl, rfl⟩ := hs₁
  have nS := I.fresh
  have I1 := I.lnew (its := []) (ys := []) (t' := s.toks) .nil (Nat.zero_le _)
  have hS : upd H s.heap.objs.size (.lst []) s.heap.objs.size = some (.lst []) := upd_same
  have old : ∀ b o, H b = some o → upd H s.heap.objs.size (.lst []) b = some o := fun b o e => by
    rw [upd_ne (fun q => by rw [q, nS] at e; cases e)]
    exact e
  have hSr : (s.heap.push { cls := .type "list", data := .seq #[] }).get? s.heap.objs.size = some { cls := .type "list", data := .seq #[] } := Heap.get?_push_size _ rfl
  refine ⟨⟨_, hSr, rfl⟩, F.args_list_init_2 _ _, list_init_zip (A := A.in1) (S := s.heap.objs.size) hh D I1 (Heap.get?_push_of_some _ hz) (Z.keep (fun c _ o e => Heap.get?_push_of_some _ e) fun c us e => old _ _ e) (old _ _ h1) (old _ _ h2) (fun c hc => ?_) (fun q => by rw [q, nS] at h1; cases h1) (fun q => by rw [q, nS] at h2; cases h2) hS fun s' H' vs' I' kk hS' ph => ?_⟩
  · obtain ⟨q1, q2⟩ := hf c hc
    exact ⟨by rw [upd_ne (Nat.ne_of_lt (hlt c hc))]; exact q1, q2⟩
  · exact ⟨rfl, hQ s' H' _ vs' nS I' (fun b o e => kk b o (fun q => by rw [q, nS] at e; cases e) (old _ _ e)) hS' ph⟩
/-- list(zip(a, b)) of two lists -/
def tZipL (ta : TA) : TE := fun σ H Q => ta σ H fun vs H1 => ∃ a b xs ys, vs = [.ref a, .ref b] ∧ H1 a = some (.lst xs) ∧ H1 b = some (.lst ys) ∧ ∀ (p : Addr) (us : List V) (H' : Hp), H1 p = none → (∀ b o, H1 b = some o → H' b = some o) → H' p = some (.lst us) → ZPairs H' us xs ys (min xs.length ys.length) → Q (.ref p) H'
theorem pe_listZip {e e2 : Expr} {ta : TA} {p p2 pos pos2 : Pos} (hc : X.calm = true) (hgl : Gl X "list") (hml : X.mg "list" = none) (hg : Gl X "zip") (hm : X.mg "zip" = none) (ha : PA X [e, e2] ta)
    (hs : starEach [e, e2] X.env = (false, eval e X.env) :: starEach [e2] X.env := by rfl) (hpl : (backTo pos (starEach [e2] X.env)).any (·.1) = false := by rfl)
    (na : starEach [Expr.Call (.Name "zip" p) [e, e2] [] pos] X.env = (false, eval (Expr.Call (.Name "zip" p) [e, e2] [] pos) X.env) :: starEach [] X.env := by rfl) :
    PE X (.Call (.Name "list" p2) [.Call (.Name "zip" p) [e, e2] [] pos] [] pos2) (tZipL ta) := by
  refine ⟨fun pins s σ H Q I h => ?_⟩
  refine Call_ (ld_blt I hgl hml boot_list (PyProof.Rows.callWith_type1 (args_cons (Call_ (ld_blt I hg hm PyProof.Rows.boot_zip (PyProof.Rows.callWith_type1 (thn (ha.run pos pins s σ H _ I h) fun us s1 ⟨vs, H1, I1, r1, q1⟩ => ?_) hs hpl))) na) na))
  obtain ⟨a, b, xs, ys, ex, g1, g2, q1⟩ := q1
  subst ex
  cases r1 with
  | cons r rr =>
    cases rr with
    | cons r' rr =>
      cases rr
      cases r
      cases r'
      obtain ⟨its, rv, p1, _⟩ := I1.list (SqL.of g1)
      obtain ⟨its2, rv2, p2, _⟩ := I1.list (SqL.of g2)
      refine call_zip_2 p1.isList p2.isList fun h' hz hTI hTO h1 h2 hsz hk => ?_
      have le : ∀ c, c ∈ [s1.heap.objs.size + 4, s1.heap.objs.size + 2, s1.heap.objs.size + 3, s1.heap.objs.size, s1.heap.objs.size + 1] → s1.heap.objs.size ≤ c ∧ c < s1.heap.objs.size + 5 := fun c hcm => by
        have e' : c = s1.heap.objs.size + 4 ∨ c = s1.heap.objs.size + 2 ∨ c = s1.heap.objs.size + 3 ∨ c = s1.heap.objs.size ∨ c = s1.heap.objs.size + 1 := by simpa using hcm
        rcases e' with z | z | z | z | z
        · rw [z]; exact ⟨Nat.le_add_right _ _, Nat.lt_succ_self _⟩
        · rw [z]; exact ⟨Nat.le_add_right _ _, Nat.add_lt_add_left (show 2 < 5 by decide) _⟩
        · rw [z]; exact ⟨Nat.le_add_right _ _, Nat.add_lt_add_left (show 3 < 5 by decide) _⟩
        · rw [z]; exact ⟨Nat.le_refl _, Nat.lt_add_of_pos_right (show 0 < 5 by decide)⟩
        · rw [z]; exact ⟨Nat.le_add_right _ _, Nat.add_lt_add_left (show 1 < 5 by decide) _⟩
      have I2 : Inv X pins σ H1 { s1 with heap := h' } := I1.kept (t' := s1.toks) hk
      refine args_nil ?_
      exact call_list_zip (I2.ok.hd hc) (PySem.W.ktu_apart s1.heap.objs.size a b p1.lt p2.lt) I2 hz ⟨.inl hz, ⟨_, _, hTO⟩, hTI, h1, h2⟩ g1 g2 (fun c hcm => I1.fpOk (le c hcm).1 (I1.hok.fresh (le c hcm).1)) (fun c hcm => by rw [hsz]; exact (le c hcm).2) fun s' H' S vs' nS I' kk hS' ph => ⟨.ref S, H', I', rfl, q1 S vs' H' nS kk hS' ph⟩
end
end L2

set_option maxRecDepth 100000
set_option maxHeartbeats 4000000
namespace Mine
open PySem L2
abbrev s_landed : Stmt := top 61
abbrev s_stepsL : Stmt := top 63
/-! where a walk lands that goes on at most so often -/
def spLanded : Sp := fun vs H Q _ => ∃ (r : Addr) (xs : List V) (rs : List RowD) (i : Nat), vs = [.ref r, .int (i : Int)] ∧ H r = some (.lst xs) ∧ Rows H xs rs ∧ GoOk rs ∧ i < rs.length ∧ rs.length ≤ 100000 ∧ Q (landV rs i) H
def spStepsL : Sp := fun vs H Q _ => ∃ (r : Addr) (xs : List V) (rs : List RowD) (i : Nat), vs = [.ref r, .int (i : Int)] ∧ H r = some (.lst xs) ∧ Rows H xs rs ∧ GoOk rs ∧ i < rs.length ∧ rs.length ≤ 100000 ∧
  ∀ (t : Addr) (H' : Hp), H t = none → Same H H' → H' t = some (.lst ((stepsAt rs (stp rs i)).map V.int)) → Q (.ref t) H'
section
variable {P : Program} {w : World} {K : PySem.W.Frag} {mg : Str → Option Value} {base : Heap}
variable {fII fIW a_landed : Addr}
theorem sc__law_landed : FnScope ["_law_rows_here", "_law_at", "_law_turn"] ["_law_rows_here", "_law_at"] (defScope s_landed) := ⟨rfl, rfl, rfl, by decide +kernel, rfl, by decide +kernel, by decide +kernel⟩
theorem ok_landed {f : Addr} {fd : FuncData} (F : Fun K "_law_landed" "_law_landed" s_landed f fd) (T : TxtF K mg fII fIW) (h_range : mg "range" = none) : FnOk P w K mg base CX0 1 f fd ["_law_rows_here", "_law_at"] spLanded := by
  refine F.ok sc__law_landed (fun vs H Q E h => ?_) (fun cdv A outer s H vs Q E hr h => ?_)
  · obtain ⟨r, xs, rs, i, rfl, _⟩ := h
    rfl
  · obtain ⟨r, xs, rs, i, rfl, hr0, rows, ok, hi, big, k⟩ := h
    refine ⟨_, (pss_cons (ps_for PassesOwn.never rfl (pi_range1 (by rfl) h_range (pa_cons (pe_op op_add (pe_callB call_len_seq (by rfl) T.b_len PySem.boot_len (pa_cons (pv 0) pa_nil)) pe_int) pa_nil)) (pg_name (i := 2) sc__law_landed.nd rfl (Or.inl rfl)) (pss_cons (ps_if (pt_cmpR op_ne (pe_ix ix_tup (pe_ix ix_list (pv 0) (pv 1) (fun _ _ => rfl)) pe_int (fun _ _ => rfl)) pe_str (nomark _)) (pss_one (ps_ret (pv 1))) pss_nil)
      (pss_one (ps_set (i := 1) sc__law_landed.nd rfl (Or.inl rfl) (pe_ix ix_tup (pe_ix ix_list (pv 0) (pv 1) (fun _ _ => rfl)) pe_int (fun _ _ => rfl))))))
      (pss_one (ps_ret pe_non))), ?_⟩
    refine ⟨_, rfl, r, xs, rfl, .inl (SqL.of hr0), _, _, rfl, rfl, ?_⟩
    rw [rows.1]
    have lt : ∀ t, way rs t i < rs.length := fun t => Mach.itr_lt (nxt_lt ok) t i hi
    refine ⟨((rs.length + 1 : Nat) : Int), by simp, by omega, by omega, for_range (n := rs.length + 1) (fun t σ H' => ∃ v2 : Option V, σ = [some (.ref r), some (.int (way rs t i : Int)), v2] ∧ H' = H ∧ ∀ u, u < t → isGo rs (way rs u i) = true) ⟨_, rfl, rfl, fun u hu => absurd hu (Nat.not_lt_zero u)⟩ ?_ ?_⟩
    · rintro t σ H' ht ⟨v2, rfl, rfl, go⟩
      obtain ⟨q, zs, d, ed, hx, row, hq⟩ := rows.at (lt t)
      refine ⟨_, rfl, _, rfl, r, xs, _, _, rfl, rfl, SqL.of hr0, atI_nat hx, _, _, _, _, rfl, rfl, .inl (.inl hq), at0', rfl, _, rfl, ?_⟩
      rw [go_dec ed]
      by_cases g : isGo rs (way rs t i) = true
      · rw [g]
        refine iteF ?_
        obtain ⟨n, en⟩ := isGo_row g
        obtain ⟨x, hx1, hx2⟩ := rows.2 _ _ en
        obtain ⟨q', rfl, hq'⟩ := hx2
        have e1 : n = (way rs (t + 1) i : Int) := by
          have : way rs (t + 1) i = nxt rs (way rs t i) := Mach.itr_succ _ _ _
          rw [this]
          unfold nxt
          rw [en]
          have := ok _ _ en
          show n = (n.toNat : Int)
          omega
        refine ⟨_, rfl, _, rfl, r, xs, _, _, rfl, rfl, SqL.of hr0, atI_nat hx1, _, _, _, _, rfl, rfl, .inl (.inl hq'), at1', some (V.int (0 + (t : Int))), ?_, rfl, fun u hu => ?_⟩
        · rw [e1]
          rfl
        · by_cases z : u = t
          · rw [z]
            exact g
          · exact go u (by omega)
      · have g := Bool.eq_false_iff.mpr g
        rw [g]
        refine iteT ?_
        refine ⟨_, rfl, ?_⟩
        have es := stp_at ok hi t g
        have : landV rs i = .int (way rs t i : Int) := by
          unfold landV
          rw [es, g]
          rfl
        rw [← this]
        exact k
    · rintro σ H' ⟨v2, rfl, rfl, go⟩
      have : landV rs i = .non := by
        unfold landV
        rw [stp_go ok hi fun t ht => go t (by omega)]
        rfl
      rw [this] at k
      exact k
theorem sc__law_steps : FnScope ["_law_rows_here", "_law_at", "_law_place"] ["_law_rows_here", "_law_at"] (defScope s_stepsL) := ⟨rfl, rfl, rfl, by decide +kernel, rfl, by decide +kernel, by decide +kernel⟩
theorem ok_stepsL {f : Addr} {fd fd_landed : FuncData} (F : Fun K "_law_steps" "_law_steps" s_stepsL f fd) (T : TxtF K mg fII fIW)
    (GLa : FnOk P w K mg base CX0 1 a_landed fd_landed ["_law_rows_here", "_law_at"] spLanded) (b_landed : Binds K fd_landed ["_law_rows_here", "_law_at"] []) (g_landed : mg "_law_landed" = some (.ref a_landed)) (k_landed : PySem.W.keepIn K (.ref a_landed) = true) : FnOk P w K mg base CX0 2 f fd ["_law_rows_here", "_law_at"] spStepsL := by
  refine F.ok sc__law_steps (fun vs H Q E h => ?_) (fun cdv A outer s H vs Q E hr h => ?_)
  · obtain ⟨r, xs, rs, i, rfl, _⟩ := h
    rfl
  · obtain ⟨r, xs, rs, i, rfl, hr0, rows, ok, hi, big, k⟩ := h
    refine ⟨_, (pss_cons (ps_set (i := 2) sc__law_steps.nd rfl (Or.inl rfl) (pe_call GLa (hr.mono (by decide)) (by rfl) g_landed k_landed b_landed .nil pass0 (pa_cons (pv 0) (pa_cons (pv 1) pa_nil))))
      (pss_one (ps_ret (pe_ifExp (PW.pt (pw_and (pt_cmpR op_notN (pv 2) pe_non (nomark _)) (pw_and1 (pt_cmpR op_eq (pe_ix ix_tup (pe_ix ix_list (pv 0) (pv 2) (fun _ _ => rfl)) pe_int (fun _ _ => rfl)) pe_str (nomark _))))) (pe_callTy call_listG (by rfl) T.b_list (by decide +kernel) (pa_cons (pe_ix ix_tup (pe_ix ix_list (pv 0) (pv 2) (fun _ _ => rfl)) pe_int (fun _ _ => rfl)) pa_nil)) (pe_lstG pa_nil))))), ?_⟩
    have lt := stp_lt ok hi
    obtain ⟨q, zs, d, ed, hx, row, hq⟩ := rows.at lt
    refine ⟨_, rfl, _, rfl, r, xs, rs, i, rfl, hr0, rows, ok, hi, big, ?_⟩
    rw [stepsAt_of ed] at k
    rw [landV_of ed]
    refine ⟨_, rfl, rfl, _, rfl, ?_⟩
    cases d with
    | ask op ns =>
      refine iteT ?_
      obtain ⟨a, t, e, h1, h2⟩ := row
      cases e
      refine ⟨_, rfl, _, rfl, r, xs, _, _, rfl, rfl, SqL.of hr0, atI_nat hx, _, _, _, _, rfl, rfl, .inl (.inl h1), at0', rfl, _, rfl, ?_⟩
      rw [strEq]
      refine iteT ?_
      refine ⟨_, rfl, _, rfl, r, xs, _, _, rfl, rfl, SqL.of hr0, atI_nat hx, _, _, _, _, rfl, rfl, .inl (.inl h1), at2', t, _, rfl, .inr h2, ?_⟩
      exact fun p H' n s e => k p H' n s e
    | go n =>
      refine iteF ?_
      refine iteF ?_
      exact ⟨Nat.zero_le _, fun t H' n s e => k t H' n s e⟩
    | fin x =>
      refine iteT ?_
      obtain ⟨a, e, h1⟩ := row
      cases e
      refine ⟨_, rfl, _, rfl, r, xs, _, _, rfl, rfl, SqL.of hr0, atI_nat hx, _, _, _, _, rfl, rfl, .inl (.inl h1), at0', rfl, _, rfl, ?_⟩
      rw [strNe end_ask]
      refine iteF ?_
      exact ⟨Nat.zero_le _, fun t H' n s e => k t H' n s e⟩
end
end Mine

set_option maxRecDepth 100000
set_option maxHeartbeats 4000000
namespace Mine
open PySem L2
abbrev s_due : Stmt := top 65
abbrev s_hung : Stmt := top 64
theorem Rows.set {H : Hp} {xs : List V} {rs : List RowD} {i : Nat} {v : V} {d : RowD} (h : Rows H xs rs) (row : TRow H v d) : Rows H (xs.set i v) (rs.set i d) := by
  refine ⟨by rw [List.length_set, List.length_set]; exact h.1, fun j r e => ?_⟩
  by_cases z : i = j
  · subst z
    have hj : i < rs.length := by
      have := (List.getElem?_eq_some_iff.mp e).1
      rw [List.length_set] at this
      exact this
    rw [List.getElem?_set_self hj] at e
    have e := Option.some.inj e
    subst e
    exact ⟨v, List.getElem?_set_self (by rw [h.1]; exact hj), row⟩
  · rw [List.getElem?_set_ne z] at e ⊢
    exact h.2 j r e
theorem OkRows.set {o : Ops} {rs : List RowD} {i : Nat} {d : RowD} (h : OkRows o rs) (ok : OkRow o rs.length d) : OkRows o (rs.set i d) := by
  intro j r e
  rw [List.length_set]
  by_cases z : i = j
  · subst z
    have hj : i < rs.length := by
      have := (List.getElem?_eq_some_iff.mp e).1
      rw [List.length_set] at this
      exact this
    rw [List.getElem?_set_self hj] at e
    have e := Option.some.inj e
    subst e
    exact ok
  · rw [List.getElem?_set_ne z] at e
    exact h j r e
theorem mem_set_or {α : Type} {rs : List α} {i : Nat} {d x : α} (h : x ∈ rs.set i d) : x ∈ rs ∨ x = d := by
  rcases List.mem_or_eq_of_mem_set h with z | z
  · exact .inl z
  · exact .inr z
theorem intNe {a b : Int} (h : a ≠ b) : decide (V.int a = V.int b) = false := decide_eq_false fun z => h (V.int.inj z)
theorem TRow.offL {H H' : Hp} {a : Addr} {ls : List V} {v : V} {d : RowD} (s : But H H' a) (e : H a = some (.lst ls)) (h : TRow H v d) : TRow H' v d := by
  have up : ∀ {q : Addr} {us : List V}, H q = some (.tup us) → H' q = some (.tup us) := fun {q us} eq => s _ _ (fun z => by rw [z, e] at eq; cases eq) eq
  cases d with
  | ask op ns =>
    obtain ⟨q, t, e1, k1, k2⟩ := h
    exact ⟨q, t, e1, up k1, up k2⟩
  | go n =>
    obtain ⟨q, e1, k1⟩ := h
    exact ⟨q, e1, up k1⟩
  | fin u =>
    obtain ⟨q, e1, k1⟩ := h
    exact ⟨q, e1, up k1⟩
/-- what stays beside a changed list: tuples -/
theorem Rows.offL {H H' : Hp} {a : Addr} {ls xs : List V} {rs : List RowD} (s : But H H' a) (e : H a = some (.lst ls)) (h : Rows H xs rs) : Rows H' xs rs := by
  have up : ∀ {q : Addr} {us : List V}, H q = some (.tup us) → H' q = some (.tup us) := fun {q us} eq => s _ _ (fun z => by rw [z, e] at eq; cases eq) eq
  refine ⟨h.1, fun i d ed => ?_⟩
  obtain ⟨v, h1, h2⟩ := h.2 i d ed
  refine ⟨v, h1, ?_⟩
  cases d with
  | ask op ns =>
    obtain ⟨q, t, e1, k1, k2⟩ := h2
    exact ⟨q, t, e1, up k1, up k2⟩
  | go n =>
    obtain ⟨q, e1, k1⟩ := h2
    exact ⟨q, e1, up k1⟩
  | fin u =>
    obtain ⟨q, e1, k1⟩ := h2
    exact ⟨q, e1, up k1⟩
theorem histP_len {rs1 rs2 : List RowD} : ∀ {w : List Nat} {p q : Prw}, runPr rs1 rs2 p w = some q → (histP rs1 rs2 p w).length = w.length
  | [], _, _, _ => rfl
  | k :: w, p, q, h => by
    have h : (match sucP rs1 rs2 p k with | some c => runPr rs1 rs2 c w | none => none) = some q := h
    show ((opAt rs1 p.1, k) :: (match sucP rs1 rs2 p k with | some c => histP rs1 rs2 c w | none => [])).length = w.length + 1
    cases z : sucP rs1 rs2 p k with
    | none => rw [z] at h; cases h
    | some y =>
      rw [z] at h
      show (histP rs1 rs2 y w).length + 1 = w.length + 1
      rw [histP_len h]
/-- what waits: a history's word, where both stand -/
structure EntD where
  w : List Nat
  l : Nat
  r : Nat
def EntT (rs1 rs2 : List RowD) (p0 : Prw) (H : Hp) (q : Addr) (e : EntD) : Prop := ∃ h, H q = some (.tup [.ref h, .int (e.l : Int), .int (e.r : Int)]) ∧ HistT H h (histP rs1 rs2 p0 e.w)
def Ents (rs1 rs2 : List RowD) (p0 : Prw) (H : Hp) (vs : List V) (es : List EntD) : Prop := vs.length = es.length ∧ ∀ (k : Nat) (e : EntD), es[k]? = some e → ∃ q, vs[k]? = some (.ref q) ∧ EntT rs1 rs2 p0 H q e
variable {rs1 rs2 : List RowD} {p0 : Prw}
theorem EntT.same {H H' : Hp} {q : Addr} {e : EntD} (s : Same H H') (h : EntT rs1 rs2 p0 H q e) : EntT rs1 rs2 p0 H' q e := by
  obtain ⟨a, h1, h2⟩ := h
  exact ⟨a, s _ _ h1, h2.same s⟩
theorem Ents.same {H H' : Hp} {vs : List V} {es : List EntD} (s : Same H H') (h : Ents rs1 rs2 p0 H vs es) : Ents rs1 rs2 p0 H' vs es := ⟨h.1, fun k e ek => by
  obtain ⟨q, h1, h2⟩ := h.2 k e ek
  exact ⟨q, h1, h2.same s⟩⟩
theorem HistT.other {H : Hp} {D h : Addr} {ys : List V} {ws : List (Str × Nat)} {o : HO} (e : H D = some (.lst ys)) (t : HistT H h ws) : HistT (upd H D o) h ws := by
  obtain ⟨vs, h1, h2⟩ := t
  exact ⟨vs, by rw [upd_ne (fun z => by rw [z, e] at h1; cases h1)]; exact h1, h2.other e⟩
theorem EntT.other {H : Hp} {D q : Addr} {ys : List V} {e : EntD} {o : HO} (eD : H D = some (.lst ys)) (h : EntT rs1 rs2 p0 H q e) : EntT rs1 rs2 p0 (upd H D o) q e := by
  obtain ⟨a, h1, h2⟩ := h
  exact ⟨a, by rw [upd_ne (fun z => by rw [z, eD] at h1; cases h1)]; exact h1, h2.other eD⟩
theorem Ents.other {H : Hp} {D : Addr} {vs ys : List V} {es : List EntD} {o : HO} (eD : H D = some (.lst ys)) (h : Ents rs1 rs2 p0 H vs es) : Ents rs1 rs2 p0 (upd H D o) vs es := ⟨h.1, fun k e ek => by
  obtain ⟨q, h1, h2⟩ := h.2 k e ek
  exact ⟨q, h1, h2.other eD⟩⟩
theorem Ents.snoc {H : Hp} {vs : List V} {es : List EntD} {q : Addr} {e : EntD} (h : Ents rs1 rs2 p0 H vs es) (t : EntT rs1 rs2 p0 H q e) : Ents rs1 rs2 p0 H (vs ++ [.ref q]) (es ++ [e]) := by
  refine ⟨by rw [List.length_append, List.length_append, h.1]; rfl, fun k r er => ?_⟩
  by_cases z : k < es.length
  · rw [List.getElem?_append_left z] at er
    obtain ⟨q', h1, h2⟩ := h.2 k r er
    exact ⟨q', by rw [List.getElem?_append_left (by rw [h.1]; exact z)]; exact h1, h2⟩
  · have hk : k = es.length := by
      have := (List.getElem?_eq_some_iff.mp er).1
      rw [List.length_append] at this
      simp at this
      omega
    subst hk
    rw [List.getElem?_append_right (Nat.le_refl _), Nat.sub_self] at er
    have er2 : e = r := Option.some.inj er
    subst er2
    exact ⟨q, by rw [List.getElem?_append_right (by rw [h.1]; exact Nat.le_refl _), h.1, Nat.sub_self]; rfl, t⟩
end Mine

set_option maxRecDepth 100000
set_option maxHeartbeats 4000000
namespace Mine
open PySem L2
variable {rs1 rs2 : List RowD}
theorem swap_suc {p c : Prw} {k : Nat} (h : sucP rs1 rs2 p k = some c) : sucP rs2 rs1 (p.2, p.1) k = some (c.2, c.1) := by
  obtain ⟨d1, d2, a, b, e1, e2, g1, g2, rfl⟩ := sucP_of h
  exact sucP_mk (p := (p.2, p.1)) e2 e1 g2 g1
theorem swap_bad {p : Prw} : badP rs2 rs1 (p.2, p.1) ↔ badP rs1 rs2 p := ⟨fun h e => h e.symm, fun h e => h e.symm⟩
theorem swap_diff : ∀ {s : List Nat} {p : Prw}, DiffP rs1 rs2 p s → DiffP rs2 rs1 (p.2, p.1) s
  | [], _, h => swap_bad.mpr h
  | _ :: _, _, ⟨nb, _, ec, dc⟩ => ⟨fun z => nb (swap_bad.mp z), _, swap_suc ec, swap_diff dc⟩
theorem swap_run : ∀ {s : List Nat} {p q : Prw}, runPr rs1 rs2 p s = some q → runPr rs2 rs1 (p.2, p.1) s = some (q.2, q.1)
  | [], p, q, h => by
    have : p = q := Option.some.inj h
    subst this
    rfl
  | k :: s, p, q, h => by
    have h : (match sucP rs1 rs2 p k with | some c => runPr rs1 rs2 c s | none => none) = some q := h
    show (match sucP rs2 rs1 (p.2, p.1) k with | some c => runPr rs2 rs1 c s | none => none) = some (q.2, q.1)
    cases z : sucP rs1 rs2 p k with
    | none => rw [z] at h; cases h
    | some c =>
      rw [z] at h
      rw [swap_suc z]
      exact swap_run h
theorem op_same {p c : Prw} {k : Nat} (nb : ¬ badP rs1 rs2 p) (ec : sucP rs1 rs2 p k = some c) : opAt rs1 p.1 = opAt rs2 p.2 := by
  obtain ⟨d1, d2, a, b, e1, e2, g1, g2, rfl⟩ := sucP_of ec
  have same : showD d1 = showD d2 := Classical.byContradiction fun z => nb ((bad_row e1 e2).mpr z)
  unfold opAt
  rw [e1, e2]
  cases d1 with
  | go n => simp [nextsD] at g1
  | fin u => simp [nextsD] at g1
  | ask op ns =>
    cases d2 with
    | go n => simp [nextsD] at g2
    | fin u => simp [nextsD] at g2
    | ask op2 ns2 =>
      have h1 : ([("ask" : Str), op] : List Str) = [("ask" : Str), op2] := same
      have h2 := (List.cons.inj h1).2
      exact (List.cons.inj h2).1
theorem swap_hist : ∀ {s : List Nat} {p : Prw}, DiffP rs1 rs2 p s → histP rs2 rs1 (p.2, p.1) s = histP rs1 rs2 p s
  | [], _, _ => rfl
  | k :: s, p, ⟨nb, c, ec, dc⟩ => by
    show (opAt rs2 p.2, k) :: (match sucP rs2 rs1 (p.2, p.1) k with | some c => histP rs2 rs1 c s | none => []) = (opAt rs1 p.1, k) :: (match sucP rs1 rs2 p k with | some c => histP rs1 rs2 c s | none => [])
    rw [swap_suc ec, ec, op_same nb ec]
    show _ :: histP rs2 rs1 (c.2, c.1) s = _ :: histP rs1 rs2 c s
    rw [swap_hist dc]
theorem self_diff {rs : List RowD} : ∀ {s : List Nat} {i : Nat}, ¬ DiffP rs rs (i, i) s
  | [], _ => fun h => h rfl
  | k :: s, i => fun ⟨_, c, ec, dc⟩ => by
    obtain ⟨d1, d2, a, b, e1, e2, g1, g2, rfl⟩ := sucP_of ec
    have e : d1 = d2 := Option.some.inj (e1.symm.trans e2)
    subst e
    have e : a = b := Option.some.inj (g1.symm.trans g2)
    subst e
    exact self_diff dc
theorem LeastP.one (few : ∀ d ∈ rs1, (nextsD d).length ≤ 1000) {p0 q q' : Prw} {v v' : List Nat} (h : LeastP rs1 rs2 p0 v q) (h' : LeastP rs1 rs2 p0 v' q') : v = v' ∧ q = q' := by
  have e : v = v' := Wk.num_inj base2 _ v v' rfl (h.diff.digits (sucP_lt few)) (h'.diff.digits (sucP_lt few)) (Nat.le_antisymm (h.least _ h'.diff) (h'.least _ h.diff))
  subst e
  exact ⟨rfl, Option.some.inj (h.run.symm.trans h'.run)⟩
theorem LeastP.swap {p0 q : Prw} {v : List Nat} (h : LeastP rs1 rs2 p0 v q) : LeastP rs2 rs1 (p0.2, p0.1) v (q.2, q.1) :=
  ⟨swap_run h.run, ⟨h.inq.2, h.inq.1⟩, swap_bad.mpr h.bad, swap_diff h.diff, fun u hu => h.least u (swap_diff hu)⟩
/-! what was told, as data -/
def pairD (p : Str × Nat) : PyData := .tuple [.str p.1, .int (p.2 : Int)]
def twoD (u v : List Str) : PyData := .tuple [.tuple (u.map PyData.str), .tuple (v.map PyData.str)]
def toldD (ws : List (Str × Nat)) (u v : List Str) : PyData := .tuple [.tuple (ws.map pairD), .tuple (u.map PyData.str), .tuple (v.map PyData.str)]
theorem hist_all {K : PySem.W.Frag} {H : Hp} : ∀ {vs : List V} {ws : List (Str × Nat)}, HPs H vs ws → DpAll K H vs (ws.map pairD)
  | [], [], _ => .nil
  | [], _ :: _, h => by have := h.1; simp at this
  | _ :: _, [], h => by have := h.1; simp at this
  | v :: vs, p :: ws, h => by
    obtain ⟨q, h1, h2⟩ := h.2 0 p rfl
    have e : v = .ref q := Option.some.inj h1
    subst e
    exact .cons (.tup (.inl (.inl h2)) (.cons (.str _) (.cons (.int _) .nil))) (hist_all ⟨by simpa using h.1, fun k r er => by simpa using h.2 (k + 1) r (by simpa using er)⟩)
theorem told_dp {K : PySem.W.Frag} {H : Hp} {t : Addr} {ws : List (Str × Nat)} {u v : List Str} (h : ToldT H t ws u v) : Dp K H (.ref t) (toldD ws u v) := by
  obtain ⟨x, a, b, h1, ⟨vs, h2, h3⟩, h4, h5⟩ := h
  exact .tup (.inl (.inl h1)) (.cons (.tup (.inl (.inl h2)) (hist_all h3)) (.cons (.tup (.inl (.inl h4)) (strs_all _)) (.cons (.tup (.inl (.inl h5)) (strs_all _)) .nil)))
theorem two_dp {K : PySem.W.Frag} {H : Hp} {t a b : Addr} {u v : List Str} (h : H t = some (.tup [.ref a, .ref b])) (h1 : H a = some (.tup (u.map V.str))) (h2 : H b = some (.tup (v.map V.str))) : Dp K H (.ref t) (twoD u v) :=
  .tup (.inl (.inl h)) (.cons (.tup (.inl (.inl h1)) (strs_all _)) (.cons (.tup (.inl (.inl h2)) (strs_all _)) .nil))
theorem hist_lay : ∀ {ws : List (Str × Nat)}, (∀ p ∈ ws, PyData.strOk p.1 = true) → PyData.canLayAll0 (ws.map pairD) = true
  | [], _ => by simp [PyData.canLayAll0]
  | p :: ws, h => by
    show (PyData.canLay0 (pairD p) && PyData.canLayAll0 (ws.map pairD)) = true
    rw [hist_lay fun q hq => h q (List.mem_cons_of_mem _ hq)]
    have h1 := h p List.mem_cons_self
    simp [pairD, PyData.canLay0, PyData.canLayAll0, h1]
theorem hist_dep : ∀ ws : List (Str × Nat), PyData.depthAll (ws.map pairD) ≤ 1
  | [] => by simp [PyData.depthAll]
  | p :: ws => by
    have := hist_dep ws
    simp [pairD, PyData.depth, PyData.depthAll, this]
theorem told_lay {ws : List (Str × Nat)} {u v : List Str} (hw : ∀ p ∈ ws, PyData.strOk p.1 = true) (hu : ∀ t ∈ u, PyData.strOk t = true) (hv : ∀ t ∈ v, PyData.strOk t = true) : (toldD ws u v).canLay0 = true := by
  have a := hist_lay hw
  have b := strs_lay _ hu
  have c := strs_lay _ hv
  simp [toldD, PyData.canLay0, PyData.canLayAll0, a, b, c]
theorem told_shaped {ws : List (Str × Nat)} {u v : List Str} (hw : ∀ p ∈ ws, PyData.strOk p.1 = true) (hu : ∀ t ∈ u, PyData.strOk t = true) (hv : ∀ t ∈ v, PyData.strOk t = true) : SeqAt.shaped (toldD ws u v) = true := by
  show (PyData.canLay0 _ && decide (PyData.depth _ ≤ 64)) = true
  rw [Bool.and_eq_true]
  refine ⟨told_lay hw hu hv, decide_eq_true ?_⟩
  have a := hist_dep ws
  have b := strs_dep u
  have c := strs_dep v
  simp only [toldD, PyData.depth, PyData.depthAll]
  rw [b, c]
  omega
theorem two_lay {u v : List Str} (hu : ∀ t ∈ u, PyData.strOk t = true) (hv : ∀ t ∈ v, PyData.strOk t = true) : (twoD u v).canLay0 = true := by
  have b := strs_lay _ hu
  have c := strs_lay _ hv
  simp [twoD, PyData.canLay0, PyData.canLayAll0, b, c]
theorem two_shaped {u v : List Str} (hu : ∀ t ∈ u, PyData.strOk t = true) (hv : ∀ t ∈ v, PyData.strOk t = true) : SeqAt.shaped (twoD u v) = true := by
  show (PyData.canLay0 _ && decide (PyData.depth _ ≤ 64)) = true
  rw [Bool.and_eq_true]
  refine ⟨two_lay hu hv, decide_eq_true ?_⟩
  have b := strs_dep u
  have c := strs_dep v
  simp only [twoD, PyData.depth, PyData.depthAll]
  rw [b, c]
  decide
theorem op_ok {rs : List RowD} (tx : TxOk rs) (i : Nat) : PyData.strOk (opAt rs i) = true := by
  unfold opAt
  cases e : rs[i]? with
  | none => exact strOk_of ""
  | some d =>
    cases d with
    | ask op ns => exact tx _ (List.mem_of_getElem? e)
    | go n => exact strOk_of ""
    | fin u => exact strOk_of ""
theorem hist_ok (tx : TxOk rs1) : ∀ {s : List Nat} {p : Prw}, ∀ x ∈ histP rs1 rs2 p s, PyData.strOk x.1 = true
  | [], _, x, h => nomatch h
  | k :: s, p, x, h => by
    have h : x ∈ (opAt rs1 p.1, k) :: (match sucP rs1 rs2 p k with | some c => histP rs1 rs2 c s | none => []) := h
    rcases List.mem_cons.mp h with z | z
    · rw [z]
      exact op_ok tx _
    · cases e : sucP rs1 rs2 p k with
      | none => rw [e] at z; exact nomatch z
      | some c =>
        rw [e] at z
        exact hist_ok tx x z
theorem show_ok {rs : List RowD} (tx : TxOk rs) (i : Nat) : ∀ t ∈ showAt rs i, PyData.strOk t = true := by
  unfold showAt
  cases e : rs[i]? with
  | none => exact fun t h => nomatch h
  | some d => exact showS_ok (tx _ (List.mem_of_getElem? e))
end Mine

set_option maxRecDepth 100000
set_option maxHeartbeats 4000000
namespace Mine
open PySem L2
abbrev s_within : Stmt := top 53
/-- the least word behind which the one strays, and where it leads -/
structure LeastS (rs1 rs2 : List RowD) (p0 : Prw) (v : List Nat) (q : Prw) : Prop where
  run : runPr rs1 rs2 p0 v = some q
  inq : InP rs1 rs2 q
  bad : strayP rs1 rs2 q
  diff : DiffS rs1 rs2 p0 v
  least : ∀ u, DiffS rs1 rs2 p0 u → Wk.num BASE v ≤ Wk.num BASE u
theorem LeastS.one {rs1 rs2 : List RowD} (few : ∀ d ∈ rs1, (nextsD d).length ≤ 1000) {p0 q q' : Prw} {v v' : List Nat} (h : LeastS rs1 rs2 p0 v q) (h' : LeastS rs1 rs2 p0 v' q') : v = v' ∧ q = q' := by
  have e : v = v' := Wk.num_inj base2 _ v v' rfl (h.diff.digits (sucP_lt few)) (h'.diff.digits (sucP_lt few)) (Nat.le_antisymm (h.least _ h'.diff) (h'.least _ h.diff))
  subst e
  exact ⟨rfl, Option.some.inj (h.run.symm.trans h'.run)⟩
def spWithinF (CB CM : Addr) : Sp := fun vs H Q _ => ∃ (bd1 bd2 : Addr) (o1 o2 : Ops) (rs1 rs2 : List RowD) (b1 b2 : Nat), vs = [.ref bd1, .ref bd2] ∧ TwoB CB CM H bd1 bd2 o1 o2 rs1 rs2 b1 b2 ∧ TwoR rs1 rs2 b1 b2 ∧ rs1.length * rs2.length ≤ 100000 ∧
  (∀ H' : Hp, Same H H' → (∀ u, ¬ DiffS rs1 rs2 (startP rs1 rs2 b1 b2) u) → Q .non H') ∧
  (∀ (t : Addr) (v : List Nat) (q : Prw) (H' : Hp), Same H H' → LeastS rs1 rs2 (startP rs1 rs2 b1 b2) v q → ToldT H' t (histP rs1 rs2 (startP rs1 rs2 b1 b2) v) (showAt rs1 q.1) (showAt rs2 q.2) → Q (.ref t) H')
/-- no answer ahead of one that hangs -/
theorem hang_suc {rs1 rs2 : List RowD} {p c : Prw} {k : Nat} (h : sucP rs1 rs2 p k = some c) : showAt rs1 p.1 ≠ [("hang" : Str)] ∧ showAt rs2 p.2 ≠ [("hang" : Str)] := by
  obtain ⟨d1, d2, a, b, e1, e2, g1, g2, _⟩ := sucP_of h
  rw [showAt_of e1, showAt_of e2]
  refine ⟨fun z => ?_, fun z => ?_⟩
  · rw [hang_nexts (show showD d1 = showD (.go 0) from z)] at g1
    simp at g1
  · rw [hang_nexts (show showD d2 = showD (.go 0) from z)] at g2
    simp at g2
theorem stray_diff {rs1 rs2 : List RowD} : ∀ {s : List Nat} {p : Prw}, DiffS rs1 rs2 p s → DiffP rs1 rs2 p s
  | [], _, h => h.1
  | k :: s, p, ⟨n, c, e, d⟩ => ⟨fun z => n ⟨z, (hang_suc e).1⟩, c, e, stray_diff d⟩
theorem diff_stray {rs1 rs2 : List RowD} : ∀ {s : List Nat} {p : Prw}, DiffP rs1 rs2 p s → DiffS rs1 rs2 p s ∨ DiffS rs2 rs1 (p.2, p.1) s
  | [], p, h => by
    by_cases z : showAt rs1 p.1 = [("hang" : Str)]
    · exact .inr ⟨fun y => h y.symm, fun y => h (z.trans y.symm)⟩
    · exact .inl ⟨h, z⟩
  | k :: s, p, ⟨n, c, e, d⟩ => by
    rcases diff_stray d with z | z
    · exact .inl ⟨fun y => n y.1, c, e, z⟩
    · exact .inr ⟨fun y => n fun q => y.1 q.symm, _, swap_suc e, z⟩
theorem stray_through {rs1 rs2 rs3 : List RowD} (ev : Even rs1 rs2) (f1 : Fit rs1) (f2 : Fit rs2) (f3 : Fit rs3) : ∀ {s : List Nat} {i j k : Nat}, i < rs1.length → j < rs2.length → k < rs3.length → (∀ u, ¬ DiffS rs1 rs2 (i, j) u) → (∀ u, ¬ DiffS rs2 rs3 (j, k) u) → ¬ DiffS rs1 rs3 (i, k) s := by
  have eq2 : ∀ {i j k : Nat}, (∀ u, ¬ DiffS rs1 rs2 (i, j) u) → (∀ u, ¬ DiffS rs2 rs3 (j, k) u) → showAt rs1 i ≠ [("hang" : Str)] → showAt rs1 i = showAt rs2 j ∧ showAt rs2 j = showAt rs3 k := by
    intro i j k h1 h2 nh
    have a : showAt rs1 i = showAt rs2 j := Classical.byContradiction fun z => h1 [] ⟨z, nh⟩
    refine ⟨a, Classical.byContradiction fun z => h2 [] ⟨z, fun y => nh (a.trans y)⟩⟩
  intro s
  induction s with
  | nil =>
    intro i j k _ _ _ h1 h2 h
    obtain ⟨a, b⟩ := eq2 h1 h2 h.2
    exact h.1 (a.trans b)
  | cons x s ih =>
    intro i j k li lj lk h1 h2 h
    obtain ⟨n, c, e, d⟩ := h
    obtain ⟨a, b⟩ := eq2 h1 h2 (hang_suc e).1
    obtain ⟨d1, d3, y1, y3, g1, g3, q1, q3, rfl⟩ := sucP_of e
    obtain ⟨d2, g2⟩ : ∃ d2, rs2[j]? = some d2 := ⟨_, List.getElem?_eq_getElem lj⟩
    have g1 : rs1[i]? = some d1 := g1
    have g3 : rs3[k]? = some d3 := g3
    rw [showAt_of g1, showAt_of g2] at a
    have len := ev i j d1 d2 g1 g2 a
    have lx := (List.getElem?_eq_some_iff.mp q1).1
    obtain ⟨y2, q2⟩ : ∃ y2, (nextsD d2)[x]? = some y2 := ⟨_, List.getElem?_eq_getElem (by omega)⟩
    have s12 : sucP rs1 rs2 (i, j) x = some (stp rs1 y1.toNat, stp rs2 y2.toNat) := sucP_mk g1 g2 q1 q2
    have s23 : sucP rs2 rs3 (j, k) x = some (stp rs2 y2.toNat, stp rs3 y3.toNat) := sucP_mk g2 g3 q2 q3
    have i12 := sucP_in f1 f2 s12
    have i23 := sucP_in f2 f3 s23
    exact ih i12.1 i12.2 i23.2 (fun u z => h1 (x :: u) ⟨h1 [], _, s12, z⟩) (fun u z => h2 (x :: u) ⟨h2 [], _, s23, z⟩) d
/-- rows of which some hang in their place -/
structure Hung (rs rs' : List RowD) : Prop where
  len : rs'.length = rs.length
  row : ∀ i : Nat, rs'[i]? = rs[i]? ∨ rs'[i]? = some (RowD.go (i : Int))
theorem Hung.nx {rs rs' : List RowD} (h : Hung rs rs') (i : Nat) (e : rs'[i]? = rs[i]?) : nxt rs' i = nxt rs i := by
  unfold nxt
  rw [e]
theorem itr_same {f g : Nat → Nat} {i : Nat} : ∀ k, (∀ m, m < k → g (Mach.itr f m i) = f (Mach.itr f m i)) → Mach.itr g k i = Mach.itr f k i
  | 0, _ => rfl
  | k + 1, h => by
    rw [Mach.itr_succ, Mach.itr_succ, itr_same k fun m hm => h m (by omega)]
    exact h k (by omega)
theorem stop_same {f g : Nat → Nat} {n i : Nat} (h : ∀ k, Mach.itr g k i = Mach.itr f k i) : Mach.stopAt g n i = Mach.stopAt f n i := by
  unfold Mach.stopAt
  have e : ((List.range n).map fun k => Mach.itr g k (Mach.itr g n i)) = (List.range n).map fun k => Mach.itr f k (Mach.itr f n i) := List.map_congr_left fun k _ => by
    rw [← Mach.itr_add, ← Mach.itr_add, h]
  rw [e, h]
theorem nxt_go {rs : List RowD} {i : Nat} (h : rs[i]? = some (RowD.go (i : Int))) : nxt rs i = i := by
  unfold nxt
  rw [h]
  simp
theorem Hung.rest {rs rs' : List RowD} (h : Hung rs rs') (ok : GoOk rs) (ok' : GoOk rs') {l : Nat} (hl : l < rs.length) : (stp rs' l = stp rs l ∧ rs'[stp rs l]? = rs[stp rs l]?) ∨ showAt rs' (stp rs' l) = [("hang" : Str)] := by
  by_cases z : ∃ k, rs'[Mach.itr (nxt rs) k l]? ≠ rs[Mach.itr (nxt rs) k l]?
  · right
    obtain ⟨k, hk, low⟩ : ∃ k, rs'[Mach.itr (nxt rs) k l]? ≠ rs[Mach.itr (nxt rs) k l]? ∧ ∀ m, m < k → rs'[Mach.itr (nxt rs) m l]? = rs[Mach.itr (nxt rs) m l]? := by
      obtain ⟨k, hk⟩ := z
      induction k using Nat.strongRecOn with
      | ind k ih =>
        by_cases y : ∃ m, m < k ∧ rs'[Mach.itr (nxt rs) m l]? ≠ rs[Mach.itr (nxt rs) m l]?
        · obtain ⟨m, hm, e⟩ := y
          exact ih m hm e
        · exact ⟨k, hk, fun m hm => Classical.byContradiction fun q => y ⟨m, hm, q⟩⟩
    have e1 : Mach.itr (nxt rs') k l = Mach.itr (nxt rs) k l := itr_same k fun m hm => h.nx _ (low m hm)
    have e2 := (h.row (Mach.itr (nxt rs) k l)).resolve_left hk
    have lt : ∀ k, Mach.itr (nxt rs') k l < rs'.length := fun k => Mach.itr_lt (nxt_lt ok') k l (by rw [h.len]; exact hl)
    have step : ∀ k, Mach.stopAt (nxt rs') rs'.length (Mach.itr (nxt rs') k l) = Mach.stopAt (nxt rs') rs'.length l := by
      intro k
      induction k with
      | zero => rfl
      | succ k ih =>
        rw [Mach.itr_succ, Mach.stop_step (nxt_lt ok') (lt k), ih]
    have e3 : stp rs' l = Mach.itr (nxt rs) k l := by
      show Mach.stopAt (nxt rs') rs'.length l = _
      rw [← step k, e1]
      refine Mach.stop_fix (nxt_lt ok') ?_ (nxt_go e2)
      rw [← e1]
      exact lt k
    rw [e3, showAt_of e2]
    rfl
  · left
    have all : ∀ k, rs'[Mach.itr (nxt rs) k l]? = rs[Mach.itr (nxt rs) k l]? := fun k => Classical.byContradiction fun y => z ⟨k, y⟩
    have e : stp rs' l = stp rs l := by
      show Mach.stopAt (nxt rs') rs'.length l = Mach.stopAt (nxt rs) rs.length l
      rw [h.len]
      exact stop_same fun k => itr_same k fun m _ => h.nx _ (all m)
    refine ⟨e, ?_⟩
    obtain ⟨k, hk⟩ := Mach.stop_mem (nxt rs) rs.length l
    have : stp rs l = Mach.itr (nxt rs) (rs.length + k) l := by
      show Mach.stopAt (nxt rs) rs.length l = _
      rw [hk, Mach.itr_add]
    rw [this]
    exact all _
theorem Hung.none {rs rs' : List RowD} (h : Hung rs rs') (f : Fit rs) (f' : Fit rs') : ∀ {s : List Nat} {l : Nat}, l < rs.length → ¬ DiffS rs' rs (stp rs' l, stp rs l) s := by
  have eq : ∀ {l : Nat}, l < rs.length → showAt rs' (stp rs' l) ≠ [("hang" : Str)] → stp rs' l = stp rs l ∧ rs'[stp rs l]? = rs[stp rs l]? := fun hl nh => (h.rest f.go f'.go hl).resolve_right nh
  intro s
  induction s with
  | nil =>
    intro l hl hd
    obtain ⟨a, b⟩ := eq hl hd.2
    refine hd.1 ?_
    show showAt rs' (stp rs' l) = showAt rs (stp rs l)
    rw [a]
    unfold showAt
    rw [b]
  | cons x s ih =>
    intro l hl hd
    obtain ⟨n, c, e, d⟩ := hd
    obtain ⟨a, b⟩ := eq hl (hang_suc e).1
    obtain ⟨d1, d2, y1, y2, g1, g2, q1, q2, rfl⟩ := sucP_of e
    have g1 : rs'[stp rs' l]? = some d1 := g1
    have g2 : rs[stp rs l]? = some d2 := g2
    rw [a, b, g2] at g1
    have g1 := Option.some.inj g1
    subst g1
    rw [q1] at q2
    have q2 := Option.some.inj q2
    subst q2
    obtain ⟨m0, m1⟩ := f.nexts g2 (List.mem_of_getElem? q1)
    exact ih (by omega) d
section
variable {P : Program} {w : World} {K : PySem.W.Frag} {mg : Str → Option Value} {base : Heap}
variable {fII fIW CB CM CW a_stray a_walk a_told f_walk : Addr}
theorem sc_within : FnScope ["one", "other", "walk"] ["one", "other"] (defScope s_within) := ⟨rfl, rfl, rfl, by decide +kernel, rfl, by decide +kernel, by decide +kernel⟩
theorem ok_within {f : Addr} {fd fd_walk fd_stray fd_told : FuncData} (F : Fun K "within" "within" s_within f fd)
    (GWo : FnOk P w K mg base CX0 3 a_walk fd_walk ["one", "other"] (spWalkOf CB CM CW)) (b_walk_of : Binds K fd_walk ["one", "other"] []) (g_walk_of : mg "walk_of" = some (.ref a_walk)) (k_walk_of : PySem.W.keepIn K (.ref a_walk) = true)
    (GSt : FnOk P w K mg base CX0 3 a_stray fd_stray ["walk"] (spStrayF CW CM)) (b_straying_place : Binds K fd_stray ["walk"] []) (g_straying_place : mg "straying_place" = some (.ref a_stray)) (k_straying_place : PySem.W.keepIn K (.ref a_stray) = true)
    (GTo : FnOk P w K mg base CX0 3 a_told fd_told ["walk", "number"] (spToldF CW CM)) (b_told_of : Binds K fd_told ["walk", "number"] []) (g_told_of : mg "told_of" = some (.ref a_told)) (k_told_of : PySem.W.keepIn K (.ref a_told) = true) : FnOk P w K mg base CX0 4 f fd ["one", "other"] (spWithinF CB CM) := by
  refine F.ok sc_within (fun vs H Q E h => ?_) (fun cdv A outer s H vs Q E hr h => ?_)
  · obtain ⟨bd1, bd2, o1, o2, rs1, rs2, b1, b2, rfl, _⟩ := h
    rfl
  · obtain ⟨bd1, bd2, o1, o2, rs1, rs2, b1, b2, rfl, two, al, big, kN, kS⟩ := h
    refine ⟨_, (pss_cons (ps_set (i := 2) sc_within.nd rfl (Or.inl rfl) (pe_call GWo (hr.mono (by decide)) (by rfl) g_walk_of k_walk_of b_walk_of .nil pass0 (pa_cons (pv 0) (pa_cons (pv 1) pa_nil))))
      (pss_one (ps_ret (pe_call GTo (hr.mono (by decide)) (by rfl) g_told_of k_told_of b_told_of .nil pass0 (pa_cons (pv 2) (pa_cons (pe_call GSt (hr.mono (by decide)) (by rfl) g_straying_place k_straying_place b_straying_place .nil pass0 (pa_cons (pv 2) pa_nil)) pa_nil)))))), ?_⟩
    refine ⟨_, rfl, _, rfl, bd1, bd2, o1, o2, rs1, rs2, b1, b2, rfl, two, fun wk m1 m2 ma oa H1 M1 M2 W => ?_⟩
    refine ⟨_, rfl, _, rfl, H, wk, m1, m2, ma, oa, o1, o2, rs1, rs2, b1, b2, _, rfl, W, M1, M2, al.fit1, al.fit2, big, al.tx1, al.tx2, al.few, al.beg, fun met org H2 W2 no => ?_, fun met org acc d q v H2 W2 few lam OO RR ed ev inq bad df ls => ?_⟩
    · exact .inl ⟨_, -1, rfl, by decide, kN H2 W2.same no⟩
    · exact .inr ⟨H, wk, m1, m2, ma, oa, o1, o2, rs1, rs2, b1, b2, _, met, org, acc, d, q, v, rfl, W2, M1, M2, few, lam, OO, RR, ed, ev, inq, fun t H3 s3 tt => kS t v q H3 (W2.same.trans s3) ⟨(RR d v ev).trans ed, inq, bad, df, ls⟩ tt⟩
end
end Mine

set_option maxRecDepth 100000
set_option maxHeartbeats 4000000
namespace Mine
open PySem L2
abbrev s_showsL : Stmt := top 62
def spShowsL : Sp := fun vs H Q _ => ∃ (r : Addr) (xs : List V) (rs : List RowD) (i : Nat), vs = [.ref r, .int (i : Int)] ∧ H r = some (.lst xs) ∧ Rows H xs rs ∧ GoOk rs ∧ i < rs.length ∧ rs.length ≤ 100000 ∧
  ∀ (t : Addr) (H' : Hp), Same H H' → H' t = some (.tup ((showAt rs (stp rs i)).map V.str)) → Q (.ref t) H'
section
variable {P : Program} {w : World} {K : PySem.W.Frag} {mg : Str → Option Value} {base : Heap}
variable {fII fIW a_landed : Addr}
theorem sc__law_shows : FnScope ["_law_rows_here", "_law_at", "_law_place"] ["_law_rows_here", "_law_at"] (defScope s_showsL) := ⟨rfl, rfl, rfl, by decide +kernel, rfl, by decide +kernel, by decide +kernel⟩
theorem ok_showsL {f : Addr} {fd fd_landed : FuncData} (F : Fun K "_law_shows" "_law_shows" s_showsL f fd) (T : TxtF K mg fII fIW)
    (GLa : FnOk P w K mg base CX0 1 a_landed fd_landed ["_law_rows_here", "_law_at"] spLanded) (b_landed : Binds K fd_landed ["_law_rows_here", "_law_at"] []) (g_landed : mg "_law_landed" = some (.ref a_landed)) (k_landed : PySem.W.keepIn K (.ref a_landed) = true) : FnOk P w K mg base CX0 2 f fd ["_law_rows_here", "_law_at"] spShowsL := by
  refine F.ok sc__law_shows (fun vs H Q E h => ?_) (fun cdv A outer s H vs Q E hr h => ?_)
  · obtain ⟨r, xs, rs, i, rfl, _⟩ := h
    rfl
  · obtain ⟨r, xs, rs, i, rfl, hr0, rows, ok, hi, big, k⟩ := h
    refine ⟨_, (pss_cons (ps_set (i := 2) sc__law_shows.nd rfl (Or.inl rfl) (pe_call GLa (hr.mono (by decide)) (by rfl) g_landed k_landed b_landed .nil pass0 (pa_cons (pv 0) (pa_cons (pv 1) pa_nil))))
      (pss_one (ps_ret (pe_ifExp (pt_cmpR op_isN (pv 2) pe_non (nomark _)) (pe_tupG (pa_cons pe_str pa_nil)) (pe_slice sl_tupA (pe_ix ix_list (pv 0) (pv 2) (fun _ _ => rfl)) po_none (po_some pe_int)))))), ?_⟩
    have lt := stp_lt ok hi
    obtain ⟨q, zs, d, ed, hx, row, hq⟩ := rows.at lt
    refine ⟨_, rfl, _, rfl, r, xs, rs, i, rfl, hr0, rows, ok, hi, big, ?_⟩
    refine ⟨_, rfl, rfl, _, rfl, ?_⟩
    rw [showAt_of ed] at k
    rw [landV_of ed]
    cases d with
    | ask op ns =>
      refine iteF ?_
      obtain ⟨a, t, e, h1, h2⟩ := row
      cases e
      refine ⟨_, rfl, _, rfl, r, xs, _, _, rfl, rfl, SqL.of hr0, atI_nat hx, 2, rfl, q, _, rfl, .inl (.inl h1), fun z => absurd z.2 (show ¬ HT.sIx 3 3 (some 2) = 3 by decide), fun _ p np => ?_⟩
      exact k p _ (sameNew np _) upd_same
    | go n =>
      refine iteT ?_
      exact ⟨one_ok _, fun t H' n s e => k t H' s e⟩
    | fin x =>
      refine iteF ?_
      obtain ⟨a, e, h1⟩ := row
      cases e
      refine ⟨_, rfl, _, rfl, r, xs, _, _, rfl, rfl, SqL.of hr0, atI_nat hx, 2, rfl, q, _, rfl, .inl (.inl h1), fun _ => k q H (Same.refl _) h1, fun z => absurd ⟨rfl, rfl⟩ z⟩
end
end Mine

set_option maxRecDepth 100000
set_option maxHeartbeats 4000000
set_option pp.maxSteps 1500
namespace Mine
open PySem L2
variable {rs1 rs2 : List RowD} {p0 : Prw}
def metE (rs1 rs2 : List RowD) (es : List EntD) : List Prw := es.map fun e => (stp rs1 e.l, stp rs2 e.r)
def accE (es : List EntD) : List (List Nat) := es.map (·.w)
theorem metE_at {es : List EntD} {k : Nat} {e : EntD} (h : es[k]? = some e) : (metE rs1 rs2 es)[k]? = some (stp rs1 e.l, stp rs2 e.r) := by
  unfold metE
  rw [List.getElem?_map, h]
  rfl
theorem accE_at {es : List EntD} {k : Nat} {e : EntD} (h : es[k]? = some e) : (accE es)[k]? = some e.w := by
  unfold accE
  rw [List.getElem?_map, h]
  rfl
/-- ahead of a turn -/
structure DueI (rs1 rs2 : List RowD) (p0 : Prw) (H0 : Hp) (wa : Addr) (es : List EntD) (d m : Nat) (H : Hp) : Prop where
  same : Same H0 H
  n0 : H0 wa = none
  el : ∃ vs, H wa = some (.lst vs) ∧ Ents rs1 rs2 p0 H vs es
  bfs : Wk.Bfs BASE (sucP rs1 rs2) (strayP rs1 rs2) p0 6 (metE rs1 rs2 es) (accE es) d m
  run : ∀ e ∈ es, runPr rs1 rs2 p0 e.w = some (stp rs1 e.l, stp rs2 e.r)
  lt : ∀ e ∈ es, e.l < rs1.length ∧ e.r < rs2.length ∧ e.w.length ≤ 6
theorem DueI.go {H0 H H' : Hp} {wa : Addr} {es : List EntD} {d m : Nat} (h : DueI rs1 rs2 p0 H0 wa es d m H) (s : Same H H') : DueI rs1 rs2 p0 H0 wa es d m H' := by
  obtain ⟨a, b, ⟨vs, c1, c2⟩, c, d, e⟩ := h
  exact ⟨a.trans s, b, ⟨vs, s _ _ c1, c2.same s⟩, c, d, e⟩
def spDue : Sp := fun vs H Q _ => ∃ (r1 r2 : Addr) (xs1 xs2 : List V) (rs1 rs2 : List RowD) (b1 : Nat), vs = [.ref r1, .ref r2, .int (b1 : Int), .int 6] ∧ H r1 = some (.lst xs1) ∧ H r2 = some (.lst xs2) ∧ Rows H xs1 rs1 ∧ Rows H xs2 rs2 ∧ TwoR rs1 rs2 b1 b1 ∧
  (∀ (t : Addr) (wh : Bool) (H' : Hp), Same H H' → H' t = some (.tup [.non, .bl wh]) → (wh = true → ∀ u, DiffS rs1 rs2 (startP rs1 rs2 b1 b1) u → 6 < u.length) → Q (.ref t) H') ∧
  (∀ (t a : Addr) (v : List Nat) (q : Prw) (H' : Hp), Same H H' → H' t = some (.tup [.ref a, .bl true]) → LeastS rs1 rs2 (startP rs1 rs2 b1 b1) v q → ToldT H' a (histP rs1 rs2 (startP rs1 rs2 b1 b1) v) (showAt rs1 q.1) (showAt rs2 q.2) → Q (.ref t) H')
section
variable {P : Program} {w : World} {K : PySem.W.Frag} {mg : Str → Option Value} {base : Heap}
variable {fII fIW a_showsL a_stepsL : Addr}
theorem sc__law_due : FnScope ["_law_rows_here", "_law_others", "_law_begin", "_law_many", "_law_waiting", "_law_spot", "_law_history", "_law_one_here", "_law_other", "_law_first", "_law_second", "_law_steps_here", "_law_answer", "_law_left", "_law_right"] ["_law_rows_here", "_law_others", "_law_begin", "_law_many"] (defScope s_due) := ⟨rfl, rfl, rfl, by decide +kernel, rfl, by decide +kernel, by decide +kernel⟩
theorem ok_due {f : Addr} {fd fdS fdT : FuncData} (F : Fun K "_law_due" "_law_due" s_due f fd) (T : TxtF K mg fII fIW) (h_enum : mg "enumerate" = none) (h_zip : mg "zip" = none)
    (GSL : FnOk P w K mg base CX0 2 a_showsL fdS ["_law_rows_here", "_law_at"] spShowsL) (b_showsL : Binds K fdS ["_law_rows_here", "_law_at"] []) (g_showsL : mg "_law_shows" = some (.ref a_showsL)) (k_showsL : PySem.W.keepIn K (.ref a_showsL) = true)
    (GST : FnOk P w K mg base CX0 2 a_stepsL fdT ["_law_rows_here", "_law_at"] spStepsL) (b_stepsL : Binds K fdT ["_law_rows_here", "_law_at"] []) (g_stepsL : mg "_law_steps" = some (.ref a_stepsL)) (k_stepsL : PySem.W.keepIn K (.ref a_stepsL) = true) : FnOk P w K mg base CX0 3 f fd ["_law_rows_here", "_law_others", "_law_begin", "_law_many"] spDue := by
  refine F.ok sc__law_due (fun vs H Q E h => ?_) (fun cdv A outer s H vs Q E hr h => ?_)
  · obtain ⟨r1, r2, xs1, xs2, rs1, rs2, b1, rfl, _⟩ := h
    rfl
  · obtain ⟨r1, r2, xs1, xs2, rs1, rs2, b1, rfl, h1, h2, rows1, rows2, two, kN, kS⟩ := h
    refine ⟨_, (pss_cons (ps_par (i := 4) (j := 5) rfl sc__law_due.nd rfl rfl (by decide) rfl rfl (pa_cons (pe_lstG (pa_cons (pe_tupG (pa_cons (pe_tupG pa_nil) (pa_cons (pv 2) (pa_cons (pv 2) pa_nil)))) pa_nil)) (pa_cons pe_int pa_nil)) rfl)
      (pss_cons (ps_while PassesOwn.never (PW.pt (pw_and (pt_cmpR op_lt (pv 5) (pe_callB call_len_seq (by rfl) T.b_len PySem.boot_len (pa_cons (pv 4) pa_nil)) (nomark _)) (pw_and1 (pt_cmpR op_lt (pe_callB call_len_seq (by rfl) T.b_len PySem.boot_len (pa_cons (pv 4) pa_nil)) pe_int (nomark _))))) (pss_cons (ps_asg (pe_ix ix_list (pv 4) (pv 5) (fun _ _ => rfl)) (pg_tup rfl (pgs_cons (pg_name (i := 6) sc__law_due.nd rfl (Or.inl rfl)) (pgs_cons (pg_name (i := 7) sc__law_due.nd rfl (Or.inl rfl)) (pgs_cons (pg_name (i := 8) sc__law_due.nd rfl (Or.inl rfl)) pgs_nil)))))
      (pss_cons (ps_par (i := 9) (j := 10) rfl sc__law_due.nd rfl rfl (by decide) rfl rfl (pa_cons (pe_call GSL (hr.mono (by decide)) (by rfl) g_showsL k_showsL b_showsL .nil pass0 (pa_cons (pv 0) (pa_cons (pv 7) pa_nil))) (pa_cons (pe_call GSL (hr.mono (by decide)) (by rfl) g_showsL k_showsL b_showsL .nil pass0 (pa_cons (pv 1) (pa_cons (pv 8) pa_nil))) pa_nil)) rfl)
      (pss_cons (ps_if (PW.pt (pw_and (pt_cmpR (op_neD hr.units) (pv 9) (pe_tupG (pa_cons pe_str pa_nil)) (nomark _)) (pw_and1 (pt_cmpR (op_neD hr.units) (pv 9) (pv 10) (nomark _))))) (pss_one (ps_ret (pe_tupG (pa_cons (pe_tupG (pa_cons (pv 6) (pa_cons (pv 9) (pa_cons (pv 10) pa_nil)))) (pa_cons pe_bl pa_nil))))) pss_nil)
      (pss_cons (ps_if (PW.pt (pw_and (pt_cmpR op_eq (pe_ix ix_tup (pv 9) pe_int (fun _ _ => rfl)) pe_str (nomark _)) (pw_and1 (pt_cmpR op_lt (pe_callB call_len_seq (by rfl) T.b_len PySem.boot_len (pa_cons (pv 6) pa_nil)) (pv 3) (nomark _))))) (pss_cons (ps_set (i := 11) sc__law_due.nd rfl (Or.inl rfl) (pe_listZip rfl (by rfl) T.b_list (by rfl) h_zip (pa_cons (pe_call GST (hr.mono (by decide)) (by rfl) g_stepsL k_stepsL b_stepsL .nil pass0 (pa_cons (pv 0) (pa_cons (pv 7) pa_nil))) (pa_cons (pe_call GST (hr.mono (by decide)) (by rfl) g_stepsL k_stepsL b_stepsL .nil pass0 (pa_cons (pv 1) (pa_cons (pv 8) pa_nil))) pa_nil))))
      (pss_one (ps_for PassesOwn.never rfl (pi_enum (by rfl) h_enum (pa_cons (pv 11) pa_nil)) (pg_tup rfl (pgs_cons (pg_name (i := 12) sc__law_due.nd rfl (Or.inl rfl)) (pgs_cons (pg_tup rfl (pgs_cons (pg_name (i := 13) sc__law_due.nd rfl (Or.inl rfl)) (pgs_cons (pg_name (i := 14) sc__law_due.nd rfl (Or.inl rfl)) pgs_nil))) pgs_nil))) (pss_one (ps_expr (pe_bm PySem.F.plainAttrs_list PySem.F.slot_list_append PySem.F.type_list_append mt_append (pv 4) (pa_cons (pe_tupG (pa_cons (pe_op op_catA (pv 6) (pe_tupG (pa_cons (pe_tupG (pa_cons (pe_ix ix_tup (pv 9) pe_int (fun _ _ => rfl)) (pa_cons (pv 12) pa_nil))) pa_nil))) (pa_cons (pv 13) (pa_cons (pv 14) pa_nil)))) pa_nil))))))) pss_nil)
      (pss_one (ps_set (i := 5) sc__law_due.nd rfl (Or.inl rfl) (pe_op op_add (pv 5) pe_int))))))))
      (pss_one (ps_ret (pe_tupG (pa_cons pe_non (pa_cons (pe_cmpR op_eq (pv 5) (pe_callB call_len_seq (by rfl) T.b_len PySem.boot_len (pa_cons (pv 4) pa_nil)) (nomark _)) pa_nil))))))), ?_⟩
    have lt1 := two.lt1
    have lt2 := two.lt2
    refine ⟨Nat.zero_le _, fun ha Ha na sa ea => ⟨_, rfl, _, rfl, three_ok _ _ _, fun qa Hb nb sb eb => ⟨one_ok _, fun wa H1 n1 s1 e1 => ⟨_, _, rfl, ?_⟩⟩⟩⟩
    have s01 : Same H H1 := sa.trans (sb.trans s1)
    have nwa : H wa = none := none_of (sa.trans sb) n1
    have I0 : DueI rs1 rs2 (startP rs1 rs2 b1 b1) H wa [⟨[], b1, b1⟩] 0 0 H1 := by
      refine ⟨s01, nwa, ⟨_, e1, ⟨rfl, fun k e ek => ?_⟩⟩, Wk.Bfs.start base2, fun e he => ?_, fun e he => ?_⟩
      · match k with
        | 0 =>
          have := Option.some.inj ek
          subst this
          exact ⟨qa, rfl, ha, s1 _ _ eb, [], s1 _ _ (sb _ _ ea), HPs.nil _⟩
        | k + 1 => simp at ek
      · rw [List.mem_singleton.mp he]
        rfl
      · rw [List.mem_singleton.mp he]
        exact ⟨lt1, lt2, Nat.zero_le _⟩
    refine ⟨fun m σ H' => ∃ (d : Nat) (es : List EntD) (v7 v8 v9 v10 v11 v12 v13 v14 v15 : Option V), m = 500 - d ∧ σ = [some (.ref r1), some (.ref r2), some (.int (b1 : Int)), some (.int 6), some (.ref wa), some (.int (d : Int)), v7, v8, v9, v10, v11, v12, v13, v14, v15] ∧ DueI rs1 rs2 (startP rs1 rs2 b1 b1) H wa es d 0 H' ∧ d ≤ es.length ∧ es.length ≤ 1500, ⟨_, 0, [⟨[], b1, b1⟩], none, none, none, none, none, none, none, none, none, rfl, rfl, I0, Nat.zero_le _, by show 1 ≤ 1500; decide⟩, ?_⟩
    rintro m σ H' ⟨d, es, v7, v8, v9, v10, v11, v12, v13, v14, v15, rfl, rfl, I, hd, few⟩
    obtain ⟨vs, el, ents⟩ := I.el
    have lm : (metE rs1 rs2 es).length = es.length := List.length_map ..
    have over : ∀ H' : Hp, DueI rs1 rs2 (startP rs1 rs2 b1 b1) H wa es d 0 H' → tRet (gTup' (tCons (tC V.non) (tCons (tOp rEq (tVar 5) (tCB (fun xs H Q => ∃ p ys, xs = [V.ref p] ∧ (SqL K H p ys ∨ SqT K H p ys) ∧ Q (V.int ys.length) H) (tCons (tVar 4) tNil))) tNil))) { nx := fun x H' => Q V.non H', rt := Q } [some (.ref r1), some (.ref r2), some (.int (b1 : Int)), some (.int 6), some (.ref wa), some (.int (d : Int)), v7, v8, v9, v10, v11, v12, v13, v14, v15] H' := by
      intro H' I'
      obtain ⟨vs', el', ents'⟩ := I'.el
      refine ⟨_, rfl, _, rfl, wa, vs', rfl, .inl (SqL.of el'), rfl, two_ok _ _, fun t H2 n2 s2 e2 => kN t _ H2 (I'.same.trans s2) e2 fun z => ?_⟩
      have z := V.int.inj (of_decide_eq_true z)
      rw [ents'.1] at z
      have dm : d = (metE rs1 rs2 es).length := by omega
      have b := I'.bfs
      rw [dm] at b
      exact b.none base2 (sucP_lt two.few)
    refine ⟨_, rfl, _, rfl, wa, vs, rfl, .inl (SqL.of el), _, _, rfl, rfl, _, rfl, ?_⟩
    rw [ents.1]
    refine ite2 (fun g1 => ?_) (fun g1 => ?_)
    · have hlt : d < es.length := by
        have := of_decide_eq_true g1
        omega
      refine ⟨_, rfl, wa, vs, rfl, .inl (SqL.of el), _, _, rfl, rfl, _, rfl, ?_⟩
      rw [ents.1]
      refine ite2 (fun g2 => ?_) (fun g2 => ?_)
      · have small : es.length < 500 := by
          have := of_decide_eq_true g2
          omega
        obtain ⟨e, ee⟩ : ∃ e, es[d]? = some e := ⟨_, List.getElem?_eq_getElem hlt⟩
        obtain ⟨qd, vq, hd0, hq, hist⟩ := ents.2 d e ee
        obtain ⟨ll, lr, lw⟩ := I.lt e (List.mem_of_getElem? ee)
        have rn := I.run e (List.mem_of_getElem? ee)
        have ep := metE_at (rs1 := rs1) (rs2 := rs2) ee
        have ew := accE_at ee
        have inq : InP rs1 rs2 (stp rs1 e.l, stp rs2 e.r) := ⟨stp_lt two.fit1.go ll, stp_lt two.fit2.go lr⟩
        obtain ⟨d1, d2, g3, g4⟩ := inq.rows
        have big1 := two.big1
        have big2 := two.big2
        refine ⟨fun σ' H'' => ∃ (es' : List EntD) (v7 v8 v9 v10 v11 v12 v13 v14 v15 : Option V), σ' = [some (.ref r1), some (.ref r2), some (.int (b1 : Int)), some (.int 6), some (.ref wa), some (.int ((d + 1 : Nat) : Int)), v7, v8, v9, v10, v11, v12, v13, v14, v15] ∧ DueI rs1 rs2 (startP rs1 rs2 b1 b1) H wa es' (d + 1) 0 H'' ∧ es.length ≤ es'.length ∧ es'.length ≤ 1500, fun σ' H'' ⟨es', v7, v8, v9, v10, v11, v12, v13, v14, v15, z1, z2, z3, z4⟩ => ⟨500 - (d + 1), by omega, d + 1, es', v7, v8, v9, v10, v11, v12, v13, v14, v15, rfl, z1, z2, by omega, z4⟩, ?_⟩
        refine ⟨_, rfl, _, rfl, wa, _, _, _, rfl, rfl, SqL.of el, atI_nat vq, ?_⟩
        refine ⟨qd, _, rfl, .inl (.inl hq), rfl, _, _, rfl, _, _, rfl, _, _, rfl, rfl, ?_⟩
        have hr1 := I.same _ _ h1
        have hr2 := I.same _ _ h2
        refine ⟨_, rfl, _, rfl, r1, xs1, rs1, e.l, rfl, hr1, rows1.same I.same, two.fit1.go, ll, by omega, fun s1 H3 s3 es1 => ?_⟩
        refine ⟨_, rfl, _, rfl, r2, xs2, rs2, e.r, rfl, s3 _ _ hr2, (rows2.same I.same).same s3, two.fit2.go, lr, by omega, fun s2 Hx4 sx4 es2x => ⟨_, _, rfl, _, rfl, one_ok _, fun th H4 n4 sx5 e4 => ?_⟩⟩
        have s4 := sx4.trans sx5
        have es2 := sx5 _ _ es2x
        have s34 := s3.trans s4
        have I4 := I.go s34
        have es1' := s4 _ _ es1
        have tell : ToldT H4 qd [] [] [] → True := fun _ => trivial
        have ok1 := two.tx1 _ (List.mem_of_getElem? g3)
        have ok2 := two.tx2 _ (List.mem_of_getElem? g4)
        rw [showAt_of g3] at es1 es1'
        rw [showAt_of g4] at es2
        refine ⟨showP d1, showP (.go 0), show_dp es1', show_dp e4, show_shaped ok1, show_shaped (by decide +kernel), _, rfl, ?_⟩
        by_cases hg : showD d1 = showD (.go 0)
        · rw [(show_eqv d1 (.go 0)).mpr hg]
          refine iteF ?_
          refine iteF ?_
          have nbad : ¬ strayP rs1 rs2 (stp rs1 e.l, stp rs2 e.r) := fun z => ((stray_row g3 g4).mp z).2 hg
          obtain ⟨hvs, hh, ph⟩ := hist
          have onward : ∀ (H' : Hp), Same H4 H' → (∀ k c, 0 ≤ k → sucP rs1 rs2 (stp rs1 e.l, stp rs2 e.r) k = some c → 6 ≤ e.w.length) → DueI rs1 rs2 (startP rs1 rs2 b1 b1) H wa es (d + 1) 0 H' := fun H' s' hs => by
            have I' := I4.go s'
            exact ⟨I'.same, I'.n0, I'.el, I'.bfs.next base2 ep ew nbad (Nat.zero_le _) hs, I'.run, I'.lt⟩
          cases d1 with
          | ask op ns => exact absurd (congrArg List.length hg) (by simp [showD])
          | fin u => exact absurd (congrArg List.length hg) (by simp [showD])
          | go n =>
            refine ⟨_, rfl, _, _, _, _, rfl, rfl, .inl (.inl (show H4 s1 = some (.tup [.str "hang"]) from es1')), at0', rfl, _, rfl, ?_⟩
            rw [strNe (show ("hang" : Str) ≠ "ask" by decide +kernel)]
            refine iteF ?_
            refine ⟨_, rfl, _, _, rfl, rfl, es, _, _, _, _, _, _, _, _, _, rfl, onward H4 (Same.refl _) fun k c _ ec => ?_, Nat.le_refl _, few⟩
            obtain ⟨c1, c2, a, b, q1, q2, q3, q4, _⟩ := sucP_of ec
            rw [g3] at q1
            have := Option.some.inj q1
            subst this
            simp [nextsD] at q3
        · rw [show PyData.eqv (showP d1) (showP (.go 0)) = false from Bool.eq_false_iff.mpr fun z => hg ((show_eqv d1 (.go 0)).mp z)]
          refine iteT ?_
          refine ⟨_, rfl, _, rfl, showP d1, showP d2, show_dp es1', show_dp es2, show_shaped ok1, show_shaped ok2, _, rfl, ?_⟩
          by_cases same : showD d1 = showD d2
          · rw [(show_eqv d1 d2).mpr same]
            refine iteF ?_
            have nbad : ¬ strayP rs1 rs2 (stp rs1 e.l, stp rs2 e.r) := fun z => ((stray_row g3 g4).mp z).1 same
            obtain ⟨hvs, hh, ph⟩ := hist
            have onward : ∀ (H' : Hp), Same H4 H' → (∀ k c, 0 ≤ k → sucP rs1 rs2 (stp rs1 e.l, stp rs2 e.r) k = some c → 6 ≤ e.w.length) → DueI rs1 rs2 (startP rs1 rs2 b1 b1) H wa es (d + 1) 0 H' := fun H' s' hs => by
              have I' := I4.go s'
              exact ⟨I'.same, I'.n0, I'.el, I'.bfs.next base2 ep ew nbad (Nat.zero_le _) hs, I'.run, I'.lt⟩
            cases d1 with
            | go n => exact absurd rfl hg
            | fin u =>
              refine ⟨_, rfl, _, _, _, _, rfl, rfl, .inl (.inl (show H4 s1 = some (.tup [.str "end", .str u]) from es1')), at0', rfl, _, rfl, ?_⟩
              rw [strNe end_ask]
              refine iteF ?_
              refine ⟨_, rfl, _, _, rfl, rfl, es, _, _, _, _, _, _, _, _, _, rfl, onward H4 (Same.refl _) fun k c _ ec => ?_, Nat.le_refl _, few⟩
              obtain ⟨c1, c2, a, b, q1, q2, q3, q4, _⟩ := sucP_of ec
              rw [g3] at q1
              have := Option.some.inj q1
              subst this
              simp [nextsD] at q3
            | ask op ns =>
              have et1 : H4 s1 = some (.tup [.str "ask", .str op]) := es1'
              refine ⟨_, rfl, _, _, _, _, rfl, rfl, .inl (.inl et1), at0', rfl, _, rfl, ?_⟩
              rw [strEq]
              refine iteT ?_
              have hh4 := s34 _ _ hh
              refine ⟨_, rfl, hd0, _, rfl, .inr (SqT.of hh4), _, rfl, _, _, rfl, rfl, _, rfl, ?_⟩
              rw [ph.1, histP_len rn]
              refine ite2 (fun g5 => ?_) (fun g5 => ?_)
              · have g5 : e.w.length < 6 := by
                  have := of_decide_eq_true g5
                  omega
                have hr14 := s34 _ _ hr1
                have hr24 := s34 _ _ hr2
                refine ⟨_, rfl, _, rfl, r1, xs1, rs1, e.l, rfl, hr14, (rows1.same I.same).same s34, two.fit1.go, ll, by omega, fun t1 H5 n5 s5 e5 => ?_⟩
                refine ⟨_, rfl, _, rfl, r2, xs2, rs2, e.r, rfl, s5 _ _ hr24, ((rows2.same I.same).same s34).same s5, two.fit2.go, lr, by omega, fun t2 H6 n6 s6 e6 => ?_⟩
                rw [stepsAt_of g3] at e5
                rw [stepsAt_of g4] at e6
                have sl := two.even _ _ _ _ g3 g4 same
                refine ⟨t1, t2, _, _, rfl, s6 _ _ e5, e6, fun D us H7 nD s7 eD zp => ?_⟩
                have s7' : Same H6 H7 := s7
                have s47 : Same H4 H7 := s5.trans (s6.trans s7')
                have I7 := I4.go s47
                have un : us.length = ns.length := by
                  rw [zp.1, List.length_map, List.length_map, ← sl]
                  exact Nat.min_self _
                have nDw : D ≠ wa := fun z => by
                  obtain ⟨vs4, el4, _⟩ := (I4.go (s5.trans s6)).el
                  rw [z, el4] at nD
                  cases nD
                have fewn := two.few _ (List.mem_of_getElem? g3)
                have fewn : ns.length ≤ 1000 := fewn
                refine ⟨_, rfl, D, us, rfl, SqL.of eD, for_enumL (K := K) (a := D) (xs := us) (fun j σ Hx => ∃ (es' : List EntD) (v13 v14 v15 : Option V), σ = [some (.ref r1), some (.ref r2), some (.int (b1 : Int)), some (.int 6), some (.ref wa), some (.int (d : Int)), some (.ref hd0), some (.int (e.l : Int)), some (.int (e.r : Int)), some (.ref s1), some (.ref s2), some (.ref D), v13, v14, v15] ∧ DueI rs1 rs2 (startP rs1 rs2 b1 b1) H wa es' d j Hx ∧ Hx D = some (.lst us) ∧ (∀ c us', H7 c = some (.tup us') → Hx c = some (.tup us')) ∧ es'[d]? = some e ∧ es'.length = es.length + j) ⟨es, _, _, _, rfl, I7, eD, fun _ _ e => e, ee, rfl⟩ (fun j σ Hx _ z => by obtain ⟨_, _, _, _, _, _, z, _⟩ := z; exact SqL.of z) ?_ ?_⟩
                · rintro j x σ Ha T' Hb hxj ⟨es', v13, v14, v15, rfl, Ia, eDa, tupa, ed', len'⟩ nT sT eT
                  have hj : j < us.length := (List.getElem?_eq_some_iff.mp hxj).1
                  obtain ⟨T1, x', y', z1, z2, z3, z4⟩ := zp.2 j (by rw [← zp.1]; exact hj)
                  rw [hxj] at z1
                  cases z1
                  obtain ⟨a, qa, rfl⟩ : ∃ a, ns[j]? = some a ∧ V.int a = x' := by
                    rw [List.getElem?_map] at z2
                    cases e9 : ns[j]? with
                    | none =>
                      have z2 : (none : Option V) = some x' := by
                        have : (nextsD (.ask op ns))[j]? = none := e9
                        rw [this] at z2
                        exact z2
                      cases z2
                    | some a =>
                      have : (nextsD (.ask op ns))[j]? = some a := e9
                      rw [this] at z2
                      exact ⟨a, rfl, Option.some.inj z2⟩
                  obtain ⟨b, qb, rfl⟩ : ∃ b, (nextsD d2)[j]? = some b ∧ V.int b = y' := by
                    rw [List.getElem?_map] at z3
                    cases e9 : (nextsD d2)[j]? with
                    | none => rw [e9] at z3; cases z3
                    | some b =>
                      rw [e9] at z3
                      exact ⟨b, rfl, Option.some.inj z3⟩
                  obtain ⟨a0, a1⟩ := two.fit1.nexts g3 (show a ∈ nextsD (.ask op ns) from List.mem_of_getElem? qa)
                  obtain ⟨c0, c1⟩ := two.fit2.nexts g4 (List.mem_of_getElem? qb)
                  obtain ⟨an, rfl⟩ : ∃ an : Nat, a = (an : Int) := ⟨a.toNat, by omega⟩
                  obtain ⟨bn, rfl⟩ : ∃ bn : Nat, b = (bn : Int) := ⟨b.toNat, by omega⟩
                  have ec : sucP rs1 rs2 (stp rs1 e.l, stp rs2 e.r) j = some (stp rs1 an, stp rs2 bn) := sucP_mk g3 g4 qa qb
                  have hT := sT _ _ (tupa _ _ z4)
                  have Ib := Ia.go sT
                  obtain ⟨vs', elb, entb⟩ := Ib.el
                  have s0b : Same H4 Hb → True := fun _ => trivial
                  have hhb : Hb hd0 = some (.tup hvs) := sT _ _ (tupa _ _ (s47 _ _ hh4))
                  have phb : HPs Hb hvs (histP rs1 rs2 (startP rs1 rs2 b1 b1) e.w) := ⟨ph.1, fun kk pp ee => by
                    obtain ⟨qq, k1, k2⟩ := ph.2 kk pp ee
                    exact ⟨qq, k1, sT _ _ (tupa _ _ (s47 _ _ (s34 _ _ k2)))⟩⟩
                  have et1b : Hb s1 = some (.tup [.str "ask", .str op]) := sT _ _ (tupa _ _ (s47 _ _ et1))
                  have hsn := histP_snoc (k := j) rn
                  have eop : opAt rs1 (stp rs1 e.l) = op := by
                    unfold opAt
                    rw [g3]
                  have jB : j < BASE := by
                    show j < 1001
                    omega
                  have fin : ∀ (hx pE : Addr) (HX HE : Hp), Same Hb HX → Same HX HE → HE pE = some (.tup [.ref hx, .int (an : Int), .int (bn : Int)]) → HistT HX hx (histP rs1 rs2 (startP rs1 rs2 b1 b1) (e.w ++ [j])) →
                      DueI rs1 rs2 (startP rs1 rs2 b1 b1) H wa (es' ++ [⟨e.w ++ [j], an, bn⟩]) d (j + 1) (upd HE wa (.lst (vs' ++ [.ref pE]))) ∧ upd HE wa (.lst (vs' ++ [.ref pE])) D = some (.lst us) ∧ (∀ c us', H7 c = some (.tup us') → upd HE wa (.lst (vs' ++ [.ref pE])) c = some (.tup us')) ∧ (es' ++ [⟨e.w ++ [j], an, bn⟩])[d]? = some e ∧ (es' ++ [(⟨e.w ++ [j], an, bn⟩ : EntD)]).length = es.length + (j + 1) := by
                    intro hx pE HX HE sX sE eE hX
                    have sBE := sX.trans sE
                    have elE := sBE _ _ elb
                    have ld := (List.getElem?_eq_some_iff.mp ed').1
                    refine ⟨⟨fun b o eb => ?_, Ib.n0, ⟨_, upd_same, ((entb.same sBE).snoc ⟨hx, eE, hX.same sE⟩).other elE⟩, ?_, fun y hy => ?_, fun y hy => ?_⟩, ?_, fun c us' ec' => ?_, ?_, ?_⟩
                    · rw [upd_ne (ne_of_none eb Ib.n0)]
                      exact sBE _ _ (Ib.same _ _ eb)
                    · have := Ib.bfs.push (metE_at ed') (accE_at ed') nbad ec jB
                      unfold metE accE at this ⊢
                      rw [List.map_append, List.map_append]
                      exact this
                    · rcases List.mem_append.mp hy with z | z
                      · exact Ib.run y z
                      · rw [List.mem_singleton.mp z]
                        exact runPr_snoc rn ec
                    · rcases List.mem_append.mp hy with z | z
                      · exact Ib.lt y z
                      · rw [List.mem_singleton.mp z]
                        refine ⟨by show an < _; omega, by show bn < _; omega, ?_⟩
                        show (e.w ++ [j]).length ≤ 6
                        rw [List.length_append]
                        show e.w.length + 1 ≤ 6
                        omega
                    · rw [upd_ne nDw]
                      exact sBE _ _ (sT _ _ eDa)
                    · have e1 := sBE _ _ (sT _ _ (tupa _ _ ec'))
                      rw [upd_ne (fun z => by rw [z, elE] at e1; cases e1)]
                      exact e1
                    · rw [List.getElem?_append_left ld]
                      exact ed'
                    · rw [List.length_append, len']
                      show es.length + j + 1 = _
                      omega
                  have room : vs'.length < sizeLine := by
                    rw [entb.1, len', sizeLine_eq]
                    omega
                  refine ⟨T', _, rfl, .inl (.inl eT), rfl, _, _, rfl, _, _, rfl, T1, _, rfl, .inl (.inl hT), rfl, _, _, rfl, _, _, rfl, rfl, rfl, ?_⟩
                  refine ⟨_, rfl, .inl ⟨rfl, _, SqL.of elb⟩, ?_⟩
                  refine ⟨_, rfl, _, rfl, _, _, _, _, rfl, rfl, .inl (.inl et1b), at1', _, rfl, two_ok _ _, fun pA HA nA sA eA => ⟨one_ok _, fun pB HB nB sB eB => ?_⟩⟩
                  have sbB : Same Hb HB := sA.trans sB
                  refine ⟨hd0, pB, hvs, [.ref pA], rfl, rfl, SqT.of (sbB _ _ hhb), SqT.of eB, ?_, fun z => ?_, (fun _ z => nomatch z), fun _ _ pC nC => ?_⟩
                  · rw [ph.1, histP_len rn, sizeLine_eq]
                    show e.w.length + 1 ≤ _
                    omega
                  · subst z
                    have w0 : e.w.length = 0 := by rw [← histP_len rn, ← ph.1]; rfl
                    have hX : HistT HB pB (histP rs1 rs2 (startP rs1 rs2 b1 b1) (e.w ++ [j])) := by
                      refine ⟨_, eB, ?_⟩
                      rw [hsn, List.eq_nil_of_length_eq_zero w0]
                      have := (HPs.nil HB).snoc (q := pA) (p := (opAt rs1 (stp rs1 e.l), j)) (by rw [eop]; exact sB _ _ eA)
                      exact this
                    refine ⟨_, rfl, _, rfl, three_ok _ _ _, fun pE HE nE sE eE => ?_⟩
                    obtain ⟨f1, f2, f3, f4, f5⟩ := fin pB pE HB HE sbB sE eE hX
                    exact ⟨wa, vs', _, rfl, rfl, sE _ _ (sbB _ _ elb), room, _, _, _, _, rfl, f1, f2, f3, f4, f5⟩
                  · have sC := sameNew nC (.tup (hvs ++ [.ref pA]))
                    have eC : upd HB pC (.tup (hvs ++ [.ref pA])) pC = some (.tup (hvs ++ [.ref pA])) := upd_same
                    have sbC := sbB.trans sC
                    have hX : HistT (upd HB pC (.tup (hvs ++ [.ref pA]))) pC (histP rs1 rs2 (startP rs1 rs2 b1 b1) (e.w ++ [j])) := by
                      refine ⟨_, eC, ?_⟩
                      rw [hsn]
                      exact (phb.same sbC).snoc (by rw [eop]; exact sC _ _ (sB _ _ eA))
                    generalize upd HB pC (.tup (hvs ++ [.ref pA])) = HC at sC eC sbC hX ⊢
                    refine ⟨_, rfl, _, rfl, three_ok _ _ _, fun pE HE nE sE eE => ?_⟩
                    obtain ⟨f1, f2, f3, f4, f5⟩ := fin pC pE HC HE sbC sE eE hX
                    exact ⟨wa, vs', _, rfl, rfl, sE _ _ (sbC _ _ elb), room, _, _, _, _, rfl, f1, f2, f3, f4, f5⟩
                · rintro σ Hx ⟨es', v13, v14, v15, rfl, Ix, _, _, ed', len'⟩
                  refine ⟨_, rfl, _, _, rfl, rfl, es', _, _, _, _, _, _, _, _, _, rfl, ⟨Ix.same, Ix.n0, Ix.el, Ix.bfs.next base2 (metE_at ed') (accE_at ed') nbad (by show _ ≤ 1001; omega) fun k c hk ec => ?_, Ix.run, Ix.lt⟩, by omega, by omega⟩
                  obtain ⟨c1, c2, a, b, q1, q2, q3, q4, _⟩ := sucP_of ec
                  rw [g3] at q1
                  have := Option.some.inj q1
                  subst this
                  have := (List.getElem?_eq_some_iff.mp q3).1
                  have : k < ns.length := this
                  omega
              · have g5 : 6 ≤ e.w.length := by
                  have := of_decide_eq_false (Bool.eq_false_iff.mpr g5)
                  omega
                exact ⟨_, rfl, _, _, rfl, rfl, es, _, _, _, _, _, _, _, _, _, rfl, onward H4 (Same.refl _) fun k c _ ec => g5, Nat.le_refl _, few⟩
          · have ne : PyData.eqv (showP d1) (showP d2) = false := Bool.eq_false_iff.mpr fun z => same ((show_eqv d1 d2).mp z)
            rw [ne]
            refine iteT ?_
            have hb : strayP rs1 rs2 (stp rs1 e.l, stp rs2 e.r) := (stray_row g3 g4).mpr ⟨same, hg⟩
            obtain ⟨dv, lv⟩ := I.bfs.least base2 (sucP_lt two.few) ep ew hb lw
            refine ⟨_, rfl, _, rfl, _, rfl, three_ok _ _ _, fun a H5 n5 s5 e5 => ⟨two_ok _ _, fun t H6 n6 s6 e6 => ?_⟩⟩
            refine kS t a e.w _ H6 (I.same.trans (s34.trans (s5.trans s6))) e6 ⟨rn, inq, hb, dv, lv⟩ ⟨hd0, s1, s2, s6 _ _ e5, hist.same (s34.trans (s5.trans s6)), ?_, ?_⟩
            · rw [showAt_of g3]
              exact s6 _ _ (s5 _ _ es1')
            · rw [showAt_of g4]
              exact s6 _ _ (s5 _ _ es2)
      · exact over H' I
    · exact over H' I
end
end Mine

set_option maxRecDepth 100000
set_option maxHeartbeats 4000000
set_option pp.maxSteps 1500
namespace Mine
open PySem L2
theorem Hung.refl (rs : List RowD) : Hung rs rs := ⟨rfl, fun _ => .inl rfl⟩
theorem Hung.set {rs rs' : List RowD} (h : Hung rs rs') (n : Nat) : Hung rs (rs'.set n (.go (n : Int))) := by
  refine ⟨by rw [List.length_set, h.len], fun i => ?_⟩
  by_cases z : n = i
  · subst z
    by_cases hn : n < rs'.length
    · exact .inr (List.getElem?_set_self hn)
    · rw [List.getElem?_eq_none (by rw [List.length_set]; omega)]
      exact .inl (List.getElem?_eq_none (by rw [← h.len]; omega)).symm
  · rw [List.getElem?_set_ne z]
    exact h.row i
theorem go_fine (n : Int) : RowFine (.go n) := ⟨show PyData.strOk ("go" : Str) = true by decide +kernel, fun x e => nomatch e⟩
def spHung : Sp := fun vs H Q _ => ∃ (a r : Addr) (o : Ops) (xs : List V) (rs : List RowD) (x y z : Int), vs = [.ref a, .ref r] ∧ H a = some (.lst [.int x, .int y, .int z]) ∧
  H r = some (.lst xs) ∧ Rows H xs rs ∧ OkRows o rs ∧ (∀ dd ∈ rs, RowFine dd) ∧ 1 ≤ rs.length ∧ rs.length ≤ 400 ∧
  ∀ (p : Addr) (xs' : List V) (rs' : List RowD) (x' y' z' : Int) (H' : Hp), H p = none → Hung rs rs' → OkRows o rs' → (∀ dd ∈ rs', RowFine dd) → But H H' a → H' a = some (.lst [.int x', .int y', .int z']) → H' p = some (.lst xs') → Rows H' xs' rs' → Q (.ref p) H'
structure HungI (H : Hp) (a p : Addr) (o : Ops) (rs : List RowD) (H' : Hp) : Prop where
  bt : But H H' a
  src : ∃ x y z : Int, H' a = some (.lst [.int x, .int y, .int z])
  ex : ∃ (xs' : List V) (rs' : List RowD), H' p = some (.lst xs') ∧ Rows H' xs' rs' ∧ Hung rs rs' ∧ OkRows o rs' ∧ ∀ dd ∈ rs', RowFine dd
section
variable {P : Program} {w : World} {K : PySem.W.Frag} {mg : Str → Option Value} {base : Heap}
variable {fII fIW a_next : Addr}
theorem sc__law_hung : FnScope ["_law_source", "_law_rows_here", "_law_found", "_law_turn", "_law_at"] ["_law_source", "_law_rows_here"] (defScope s_hung) := ⟨rfl, rfl, rfl, by decide +kernel, rfl, by decide +kernel, by decide +kernel⟩
theorem ok_hung {f : Addr} {fd fdN : FuncData} (F : Fun K "_law_hung" "_law_hung" s_hung f fd) (T : TxtF K mg fII fIW) (h_range : mg "range" = none)
    (GN : FnOk P w K mg base CX0 1 a_next fdN ["_law_source", "_law_many"] spNext) (b_next : Binds K fdN ["_law_source", "_law_many"] []) (g_next : mg "_law_next" = some (.ref a_next)) (k_next : PySem.W.keepIn K (.ref a_next) = true) : FnOk P w K mg base CX0 2 f fd ["_law_source", "_law_rows_here"] spHung := by
  refine F.ok sc__law_hung (fun vs H Q E h => ?_) (fun cdv A outer s H vs Q E hr h => ?_)
  · obtain ⟨a, r, o, xs, rs, x, y, z, rfl, _⟩ := h
    rfl
  · obtain ⟨a, r, o, xs, rs, x, y, z, rfl, ha, hrr, rows, ok, fine, lo, hi, k⟩ := h
    refine ⟨_, (pss_cons (ps_set (i := 2) sc__law_hung.nd rfl (Or.inl rfl) (pe_callTy call_listG (by rfl) T.b_list (by decide +kernel) (pa_cons (pv 1) pa_nil)))
      (pss_cons (ps_for PassesOwn.never rfl (pi_range1 (by rfl) h_range (pa_cons (pe_call GN (hr.mono (by decide)) (by rfl) g_next k_next b_next .nil pass0 (pa_cons (pv 0) (pa_cons pe_int pa_nil))) pa_nil)) (pg_name (i := 3) sc__law_hung.nd rfl (Or.inl rfl))
        (pss_cons (ps_set (i := 4) sc__law_hung.nd rfl (Or.inl rfl) (pe_call GN (hr.mono (by decide)) (by rfl) g_next k_next b_next .nil pass0 (pa_cons (pv 0) (pa_cons (pe_callB call_len_seq (by rfl) T.b_len PySem.boot_len (pa_cons (pv 1) pa_nil)) pa_nil))))
        (pss_one (ps_asg (pe_tupG (pa_cons pe_str (pa_cons (pv 4) pa_nil))) (pg_sub (pv 2) (pv 4) set_list)))))
      (pss_one (ps_ret (pv 2))))), ?_⟩
    have nra : r ≠ a := fun e => by
      rw [e, ha] at hrr
      have := (HO.lst.inj (Option.some.inj hrr)).symm
      subst this
      obtain ⟨q, h1, h2⟩ := rows.2 0 _ (List.getElem?_eq_getElem (show 0 < rs.length by omega))
      have h1 := (Option.some.inj h1).symm
      subst h1
      cases e9 : rs[0]'(by omega) with
      | ask op ns => rw [e9] at h2; obtain ⟨_, _, z1, _⟩ := h2; cases z1
      | go n => rw [e9] at h2; obtain ⟨_, z1, _⟩ := h2; cases z1
      | fin u => rw [e9] at h2; obtain ⟨_, z1, _⟩ := h2; cases z1
    refine ⟨_, rfl, r, xs, rfl, .inl hrr, fun p H1 np s1 e1 => ?_⟩
    have npa : p ≠ a := fun e => by
      rw [e, ha] at np
      cases np
    have npr : p ≠ r := fun e => by
      rw [e, hrr] at np
      cases np
    have lx : xs.length = rs.length := rows.1
    refine ⟨_, rfl, a, 4, x, y, z, rfl, by decide, by decide, s1 _ _ ha, fun n x1 y1 z1 H2 n0 n1 b2 e2 => ?_⟩
    obtain ⟨n, rfl⟩ : ∃ m : Nat, n = (m : Int) := ⟨n.toNat, by omega⟩
    have I2 : HungI H a p o rs H2 := ⟨fun b u nb e => b2 _ _ nb (s1 _ _ e), ⟨_, _, _, e2⟩, xs, rs, b2 _ _ npa e1, (rows.same s1).offL b2 (s1 _ _ ha), Hung.refl rs, ok, fine⟩
    refine ⟨(n : Int), rfl, by omega, by omega, for_range (n := n) (fun j σ H' => ∃ v3 v4 : Option V, σ = [some (.ref a), some (.ref r), some (.ref p), v3, v4] ∧ HungI H a p o rs H') ⟨_, _, rfl, I2⟩ (fun j σ H' hj z => ?_) (fun σ H' z => ?_)⟩
    · obtain ⟨v3, v4, rfl, I⟩ := z
      obtain ⟨x3, y3, z3, src⟩ := I.src
      obtain ⟨xs', rs', ep, rows', hg, ok', fine'⟩ := I.ex
      have lr : xs'.length = rs.length := by rw [rows'.1, hg.len]
      refine ⟨_, rfl, _, rfl, r, xs, rfl, .inl (SqL.of (I.bt _ _ nra hrr)), a, _, x3, y3, z3, rfl, by omega, by omega, src, fun m x4 y4 z4 H4 m0 m1 b4 e4 => ?_⟩
      obtain ⟨m, rfl⟩ : ∃ q : Nat, m = (q : Int) := ⟨m.toNat, by omega⟩
      have hm : m < rs.length := by omega
      refine ⟨_, rfl, two_ok _ _, fun t H5 n5 s5 e5 => ?_⟩
      have ep5 := s5 _ _ (b4 _ _ npa ep)
      refine ⟨_, rfl, _, rfl, p, _, _, m, rfl, rfl, ep5, ixn (by omega), ?_⟩
      have x6 : ∀ b u, b ≠ p → H5 b = some u → upd H5 p (.lst (xs'.set m (.ref t))) b = some u := fun b u nb e => by rw [upd_ne nb]; exact e
      have e6 : upd H5 p (.lst (xs'.set m (.ref t))) p = some (.lst (xs'.set m (.ref t))) := upd_same
      have r6 : TRow (upd H5 p (.lst (xs'.set m (.ref t)))) (.ref t) (.go (m : Int)) := TRow.offL x6 ep5 ⟨t, rfl, e5⟩
      have w6 : Rows (upd H5 p (.lst (xs'.set m (.ref t)))) xs' rs' := ((rows'.offL b4 src).same s5).offL x6 ep5
      generalize upd H5 p (.lst (xs'.set m (.ref t))) = H6 at x6 e6 r6 w6 ⊢
      refine ⟨_, _, rfl, fun b u nb e => ?_, ⟨_, _, _, x6 _ _ (Ne.symm npa) (s5 _ _ e4)⟩, _, rs'.set m (.go (m : Int)), e6, w6.set r6, hg.set m, ok'.set ?_, fun q hq => (mem_set_or hq).elim (fine' q) fun z => by rw [z]; exact go_fine _⟩
      · exact x6 _ _ (fun z => by rw [z, np] at e; cases e) (s5 _ _ (b4 _ _ nb (I.bt _ _ nb e)))
      · show 0 ≤ (m : Int) ∧ (m : Int) < _
        rw [hg.len]
        omega
    · obtain ⟨v3, v4, rfl, I⟩ := z
      obtain ⟨x3, y3, z3, src⟩ := I.src
      obtain ⟨xs', rs', ep, rows', hg, ok', fine'⟩ := I.ex
      exact ⟨_, rfl, k p xs' rs' x3 y3 z3 H' np hg ok' fine' I.bt src ep rows'⟩
end
end Mine

set_option maxRecDepth 100000
set_option maxHeartbeats 4000000
namespace NeE
open PySem PySem.Spec PyProof.Rows L2
/-! xs != [], xs == []: a list of any things with an empty one -/
def rNeE (K : PySem.W.Frag) : R2 := fun x y H Q => ∃ l b xs, x = .ref l ∧ y = .ref b ∧ SqL K H l xs ∧ SqL K H b [] ∧ Q (.bl (!xs.isEmpty)) H
def rEqE (K : PySem.W.Frag) : R2 := fun x y H Q => ∃ l b xs, x = .ref l ∧ y = .ref b ∧ SqL K H l xs ∧ SqL K H b [] ∧ Q (.bl xs.isEmpty) H
section
variable {X : Cx}
theorem isList_of {h : Heap} {a : Addr} {its : Array Value} (p : PlainL h a its) : h.IsList a its := by
  obtain ⟨o, n, e, c, d, dd⟩ := p
  first | exact ⟨o, e, c, n, dd⟩ | exact ⟨o, e, c, _, dd⟩
theorem op_neE (hu : X.A.units < cLine) : OpR X (compareOp .NotEq) (rNeE X.K) := by
  intro pins s σ H x y v u Q I rx ry h
  obtain ⟨l, b, xs, rfl, rfl, hl, hb, q⟩ := h
  cases rx
  cases ry
  obtain ⟨its, r, p, _⟩ := I.list hl
  obtain ⟨its2, r2, p2, _⟩ := I.list hb
  cases r2
  have i1 := isList_of p
  have i2 := isList_of p2
  cases xs with
  | nil =>
    cases r
    have := SeqAt.RcNeAt.lists (A := X.A) (e := fun _ => true) i1 i2 rfl hu (fun j h1 _ => absurd h1 (Nat.not_lt_zero j))
    exact this X.prog X.w X.xe _ ⟨.bl _, H, I, rfl, q⟩
  | cons x0 xs =>
    cases r with
    | cons r0 r1 =>
      have := SeqAt.RcNeAt.lists_lengths (A := X.A) i1 i2 (by simp) hu
      exact this X.prog X.w X.xe _ ⟨.bl _, H, I, rfl, q⟩
theorem op_eqE (hu : X.A.units < cLine) : OpR X (compareOp .Eq) (rEqE X.K) := by
  intro pins s σ H x y v u Q I rx ry h
  obtain ⟨l, b, xs, rfl, rfl, hl, hb, q⟩ := h
  cases rx
  cases ry
  obtain ⟨its, r, p, _⟩ := I.list hl
  obtain ⟨its2, r2, p2, _⟩ := I.list hb
  cases r2
  have i1 := isList_of p
  have i2 := isList_of p2
  cases xs with
  | nil =>
    cases r
    have := SeqAt.RcAt.lists (A := X.A) (e := fun _ => true) i1 i2 rfl hu (fun j h1 _ => absurd h1 (Nat.not_lt_zero j))
    exact this X.prog X.w X.xe _ ⟨.bl _, H, I, rfl, q⟩
  | cons x0 xs =>
    cases r with
    | cons r0 r1 =>
      have := SeqAt.RcAt.lists_lengths (A := X.A) i1 i2 (by simp) hu
      exact this X.prog X.w X.xe _ ⟨.bl _, H, I, rfl, q⟩
end
end NeE

set_option maxRecDepth 100000
set_option maxHeartbeats 4000000
namespace L2
open PySem PySem.Spec PyProof.Rows
section
variable {X : Cx} {es : List Expr} {kws : List Keyword} {t : TA}
theorem PA.mono (h : PA X es t) : PA X es (fun σ H R => ∃ R', t σ H R' ∧ ∀ vs H1, R' vs H1 → R vs H1) := ⟨fun pos pins s σ H R I ⟨R', h1, h2⟩ => thn (h.run pos pins s σ H R' I h1) fun us s1 ⟨vs, H1, I1, r, q⟩ => ⟨vs, H1, I1, r, h2 _ _ q⟩⟩
theorem PK.mono (h : PK X kws t) : PK X kws (fun σ H R => ∃ R', t σ H R' ∧ ∀ vs H1, R' vs H1 → R vs H1) := ⟨fun pos pins s σ H R I ⟨R', h1, h2⟩ => thn (h.run pos pins s σ H R' I h1) fun us s1 ⟨vs, H1, I1, r, q⟩ => ⟨vs, H1, I1, r, h2 _ _ q⟩⟩
end
end L2
namespace Mine
open PySem L2
structure OkB (o : Ops) (rs : List RowD) (b : Nat) : Prop where
  ops : OkOps o
  lo : 1 ≤ rs.length
  hi : rs.length ≤ 400
  rows : OkRows o rs
  lt : b < rs.length
theorem OkB.few {o : Ops} {rs : List RowD} {b : Nat} (h : OkB o rs b) (x : Str) : (distinct x (restD rs b)).length ≤ 100000 := by
  have h1 := distinct_len x (restD rs b)
  have h2 : (restD rs b).length ≤ rs.length := by
    unfold restD
    rw [List.length_map]
    exact (metAt_few h.rows.fit h.lt rs.length).len
  have := h.hi
  omega
/-- Body(d, r, start=b), as it is told here -/
def tBody (CB CM : Addr) (t tk : TA) : TE := fun σ H Q => t σ H fun vs H1 => tk σ H1 fun zs H2 => ∃ (d r : Addr) (xs : List V) (rs : List RowD) (o : Ops) (b : Nat), vs = [.ref d, .ref r] ∧ zs = [.int b] ∧ H2 d = some (.dK (opsK o)) ∧ SqA H2 r xs ∧ RowsIn H2 xs rs ∧ OkB o rs b ∧
  ∀ bd H3, H2 bd = none → Same H2 H3 → BodyN CB CM H2 H3 bd o rs b → Q (.ref bd) H3
abbrev PB : List Str := ["self", "operations", "rows", "start"]
abbrev KS : List Str := ["start"]
theorem bindB {K : PySem.W.Frag} {fd : FuncData} (h : ∀ (a b c d : Value), bindArgs fd ⟨[a, b, c], [(("start" : Str), d)]⟩ = pure ([(("self" : Str), a), ("operations", b), ("rows", c), ("start", d)] : List (Str × Value))) : KBn K fd PB (2 + 1) KS (fun us ws => us ++ ws) (fun vs zs => vs ++ zs) where
  to := fun s us ws _ l1 l2 => match us, ws, l1, l2 with
    | [a, b, c], [d], _, _ => .of_eq (h a b c d)
  rel := fun r rz => r.append rz
section
variable {X : Cx} {CB CM f : Addr} {fd : FuncData} {x : Str} {p pos : Pos} {e : Expr} {es : List Expr} {kws : List Keyword} {t tk : TA} {ds : List Value}
theorem body_end {H2 : Hp} {Q : VK} {E : XK} {d r : Addr} {xs : List V} {rs : List RowD} {o : Ops} {b : Nat} (hd : H2 d = some (.dK (opsK o))) (hx : SqA H2 r xs) (rows : RowsIn H2 xs rs) (ok : OkB o rs b) (k : ∀ bd H3, H2 bd = none → Same H2 H3 → BodyN CB CM H2 H3 bd o rs b → Q (.ref bd) H3)
    (bd dx : Addr) (nb : H2 bd = none) (nd : H2 dx = none) (ne : dx ≠ bd) : spBody CB CM [.ref bd, .ref d, .ref r, .int b] (upd (upd H2 dx (.own bd)) bd (.ins CB dx [])) (fun v H3 => v = .non ∧ Q (.ref bd) H3) E := by
  have sm : Same H2 (upd (upd H2 dx (.own bd)) bd (.ins CB dx [])) := same_updN (same_updN (Same.refl _) nd) nb
  exact ⟨bd, d, r, dx, xs, rs, o, b, rfl, upd_same, sm _ _ hd, ok.ops, sm.sqa hx, rows.same sm, ok.lo, ok.hi, ok.rows, ok.lt, ok.few "ask", ok.few "end", fun H' s' B => ⟨rfl, k bd H' nb (fun b2 u e => s' b2 u (ne_of_none e nb) (sm _ _ e)) (by
    obtain ⟨m, t, l, sa, aa, ea, o', xs, as, es, h, n1, n2, n3, n4, n5, n6⟩ := B
    exact ⟨m, t, l, sa, aa, ea, o', xs, as, es, h, none_of sm n1, none_of sm n2, none_of sm n3, none_of sm n4, none_of sm n5, none_of sm n6⟩)⟩⟩
theorem pe_body (M : Mk X.K CB f) (F : FnOk X.prog X.w X.K X.mg X.base CX0 7 f fd PB (spBody CB CM)) (hr : Room 8 X.A) (hg : Gl X x) (hm : X.mg x = some (.ref CB)) (hb : KBn X.K fd PB (2 + 1) KS (fun us ws => us ++ ws) (fun vs zs => vs ++ zs)) (ha : PA X (e :: es) t) (hkw : PK X kws tk)
    (hall : (backToKw pos (keywordEach kws X.env)).all (·.1.isSome) = true := by rfl) (hks : (backToKw pos (keywordEach kws X.env)).filterMap (·.1) = KS := by rfl) (hdb : (x == ("__debug__" : Str)) = false := by decide)
    (he : starEach (e :: es) X.env = (false, eval e X.env) :: starEach es X.env := by rfl) (hpl : ((backTo pos (starEach (e :: es) X.env)).any (·.1) || (backToKw pos (keywordEach kws X.env)).any (·.1.isNone)) = false := by rfl) :
    PE X (.Call (.Name x p) (e :: es) kws pos) (tBody CB CM t tk) := by
  refine pe_imp (pe_makeK (E := E0) M F hr hg hm hb pass0 ha.mono hkw.mono hall hks hdb he hpl) fun σ H Q q => ?_
  refine ⟨_, q, fun vs H1 q1 => ⟨_, q1, fun zs H2 q2 => ?_⟩⟩
  obtain ⟨d, r, xs, rs, o, b, rfl, rfl, hd, hx, rows, ok, k⟩ := q2
  exact ⟨rfl, rfl, fun bd dx nb nd ne => body_end hd hx rows ok k bd dx nb nd ne⟩
end
theorem ne_non {a : Addr} : (!decide (V.ref a = V.non)) = true := by simp
theorem is_non {a : Addr} : decide (V.ref a = V.non) = false := decide_eq_false fun z => nomatch z
theorem rows_in {H : Hp} {xs : List V} {rs : List RowD} (h : Rows H xs rs) : RowsIn H xs rs := ⟨h.1, fun i d e => by
  obtain ⟨v, h1, h2⟩ := h.2 i d e
  refine ⟨v, h1, ?_⟩
  cases d with
  | ask op ns =>
    obtain ⟨q, t, e1, k1, k2⟩ := h2
    exact ⟨q, t, e1, .inr k1, .inr k2⟩
  | go n =>
    obtain ⟨q, e1, k1⟩ := h2
    exact ⟨q, e1, .inr k1⟩
  | fin u =>
    obtain ⟨q, e1, k1⟩ := h2
    exact ⟨q, e1, .inr k1⟩⟩
theorem even_of {o : Ops} {rs1 rs2 : List RowD} (h1 : OkRows o rs1) (h2 : OkRows o rs2) : Even rs1 rs2 := by
  intro i j d1 d2 e1 e2 same
  cases d1 with
  | ask op ns =>
    cases d2 with
    | ask op2 ns2 =>
      have q1 : ([("ask" : Str), op] : List Str) = [("ask" : Str), op2] := same
      have q2 := (List.cons.inj (List.cons.inj q1).2).1
      subst q2
      have a := (h1 i _ e1).1
      have b := (h2 j _ e2).1
      rw [a] at b
      have := Option.some.inj b
      show ns.length = ns2.length
      omega
    | go n => simp [showD] at same
    | fin u =>
      have q1 : ([("ask" : Str), op] : List Str) = [("end" : Str), u] := same
      exact absurd (List.cons.inj q1).1.symm end_ask
  | go n =>
    cases d2 with
    | ask op2 ns2 => simp [showD] at same
    | go n => rfl
    | fin u => simp [showD] at same
  | fin u =>
    cases d2 with
    | ask op2 ns2 => 
      have q1 : ([("end" : Str), u] : List Str) = [("ask" : Str), op2] := same
      exact absurd (List.cons.inj q1).1 end_ask
    | go n => simp [showD] at same
    | fin u => rfl
theorem few_of {o : Ops} {rs : List RowD} (h : OkRows o rs) : ∀ d ∈ rs, (nextsD d).length ≤ 1000 := fun d hd => by
  obtain ⟨i, hi, e⟩ := List.mem_iff_getElem.mp hd
  have := h i d (by rw [List.getElem?_eq_getElem hi, e])
  cases d with
  | ask op ns => exact this.2.1
  | go n => exact Nat.zero_le _
  | fin u => exact Nat.zero_le _
theorem two_of {o : Ops} {rs1 rs2 : List RowD} {b1 b2 : Nat} (h1 : OkRows o rs1) (h2 : OkRows o rs2) (f1 : ∀ d ∈ rs1, RowFine d) (f2 : ∀ d ∈ rs2, RowFine d) (l1 : rs1.length ≤ 1000) (l2 : rs2.length ≤ 1000) (t1 : b1 < rs1.length) (t2 : b2 < rs2.length) : TwoR rs1 rs2 b1 b2 :=
  ⟨h1.fit, h2.fit, l1, l2, fun d hd => (f1 d hd).1, fun d hd => (f2 d hd).1, few_of h1, even_of h1 h2, t1, t2⟩
theorem go_ops {o : Ops} (nd : (o.map (·.1)).Nodup) : ∃ g : Str → Option Int, (∀ p ∈ o, g p.1 = some p.2) ∧ ∀ p ∈ o, g p.1 = some p.2 := ⟨fun x => opLook o x, fun p hp => look_mem nd p hp, fun p hp => look_mem nd p hp⟩
end Mine

set_option maxRecDepth 100000
set_option maxHeartbeats 4000000
set_option pp.maxSteps 2500
namespace Mine
open PySem L2
abbrev s_law : Stmt := top 66
def spLaw (K : PySem.W.Frag) : Sp := fun vs H Q _ => ∃ (a : Addr) (ns : List Int), vs = [.ref a] ∧ SqL K H a (ns.map V.int) ∧ ns.length ≤ 63 ∧ ∀ H', Q (.bl true) H'
theorem plan_ne {H : Hp} {q a : Addr} {xs : List V} {rs : List RowD} {x y z : Int} (h : H q = some (.lst xs)) (rows : Rows H xs rs) (lo : 1 ≤ rs.length) (ha : H a = some (.lst [.int x, .int y, .int z])) : q ≠ a := fun e => by
  rw [e, ha] at h
  have := (HO.lst.inj (Option.some.inj h)).symm
  subst this
  obtain ⟨w, h1, h2⟩ := rows.2 0 _ (List.getElem?_eq_getElem (show 0 < rs.length by omega))
  have h1 := (Option.some.inj h1).symm
  subst h1
  cases e9 : rs[0]'(by omega) with
  | ask op ns => rw [e9] at h2; obtain ⟨_, _, z1, _⟩ := h2; cases z1
  | go n => rw [e9] at h2; obtain ⟨_, z1, _⟩ := h2; cases z1
  | fin u => rw [e9] at h2; obtain ⟨_, z1, _⟩ := h2; cases z1
/-- a plan stands there -/
def PlanR (H : Hp) (q : Addr) (rs : List RowD) : Prop := ∃ xs, H q = some (.lst xs) ∧ Rows H xs rs
theorem PlanR.same {H H' : Hp} {q : Addr} {rs : List RowD} (h : PlanR H q rs) (s : Same H H') : PlanR H' q rs := by
  obtain ⟨xs, h1, h2⟩ := h
  exact ⟨xs, s _ _ h1, h2.same s⟩
theorem PlanR.but {H H' : Hp} {q a : Addr} {rs : List RowD} {x y z : Int} (h : PlanR H q rs) (lo : 1 ≤ rs.length) (bt : But H H' a) (ha : H a = some (.lst [.int x, .int y, .int z])) : PlanR H' q rs := by
  obtain ⟨xs, h1, h2⟩ := h
  exact ⟨xs, bt _ _ (plan_ne h1 h2 lo ha) h1, h2.offL bt ha⟩
theorem PlanR.upd {H : Hp} {q D : Addr} {rs : List RowD} {ls : List V} {o : HO} (h : PlanR H q rs) (ne : q ≠ D) (eD : H D = some (.lst ls)) : PlanR (upd H D o) q rs := by
  obtain ⟨xs, h1, h2⟩ := h
  have x6 : ∀ b u, b ≠ D → H b = some u → L2.upd H D o b = some u := fun b u nb e => by rw [upd_ne nb]; exact e
  exact ⟨xs, x6 _ _ ne h1, h2.offL x6 eD⟩
/-- a body of which no part is this list -/
def BodyD (D : Addr) (CB CM : Addr) (H : Hp) (bd : Addr) (o : Ops) (rs : List RowD) (b : Nat) : Prop := ∃ m t l sa aa ea o' xs as es, BodyP CB CM H bd o rs b m t l sa aa ea o' xs as es ∧ bd ≠ D ∧ m ≠ D ∧ t ≠ D ∧ l ≠ D ∧ sa ≠ D ∧ aa ≠ D ∧ ea ≠ D
theorem BodyD.at {D CB CM : Addr} {H : Hp} {bd : Addr} {o : Ops} {rs : List RowD} {b : Nat} (h : BodyD D CB CM H bd o rs b) : BodyAt CB CM H bd o rs b := by
  obtain ⟨m, t, l, sa, aa, ea, o', xs, as, es, h, _⟩ := h
  exact ⟨m, t, l, sa, aa, ea, o', xs, as, es, h⟩
theorem BodyD.off {D CB CM : Addr} {H H' : Hp} {bd : Addr} {o : Ops} {rs : List RowD} {b : Nat} {ls : List V} (h : BodyD D CB CM H bd o rs b) (eD : H D = some (.lst ls)) (k : ∀ a u, a ≠ D → H a = some u → H' a = some u) : BodyD D CB CM H' bd o rs b := by
  obtain ⟨m, t, l, sa, aa, ea, o', xs, as, es, ⟨⟨dx, fb, h1, h2⟩, ⟨dm, fm, h3, h4⟩, h5, h6, h7, h8, h9, dw, hw⟩, n0, n1, n2, n3, n4, n5, n6⟩ := h
  have ku : ∀ {q : Addr} {us : List V}, H q = some (.tup us) → H' q = some (.tup us) := fun e => k _ _ (fun z => by rw [z, eD] at e; cases e) e
  refine ⟨m, t, l, sa, aa, ea, o', xs, as, es, ⟨⟨dx, fb, k _ _ n0 h1, h2⟩, ⟨dm, fm, k _ _ n1 h3, ⟨h4.counts, h4.lines, h4.begin, h4.stops, h4.asks, h4.endings, h4.endless, k _ _ n4 h4.hs, k _ _ n5 h4.ha, k _ _ n6 h4.he, h4.fa, h4.fe⟩⟩, k _ _ n2 h5, h6, k _ _ n3 h7, h8.offL (a := D) k eD, h9, dw, k _ _ n0 hw⟩, n0, n1, n2, n3, n4, n5, n6⟩
theorem BodyN.d {D CB CM : Addr} {H0 H : Hp} {bd : Addr} {o : Ops} {rs : List RowD} {b : Nat} (h : BodyN CB CM H0 H bd o rs b) (nb : H0 bd = none) {ls : List V} (eD : H0 D = some (.lst ls)) : BodyD D CB CM H bd o rs b := by
  obtain ⟨m, t, l, sa, aa, ea, o', xs, as, es, h, n1, n2, n3, n4, n5, n6⟩ := h
  have ne : ∀ {q : Addr}, H0 q = none → q ≠ D := fun e z => by rw [z, eD] at e; cases e
  exact ⟨m, t, l, sa, aa, ea, o', xs, as, es, h, ne nb, ne n1, ne n2, ne n3, ne n4, ne n5, ne n6⟩
/-- what is good in a plan -/
structure Ok1 (o : Ops) (b : Nat) (rs : List RowD) : Prop where
  rows : OkRows o rs
  fine : ∀ d ∈ rs, RowFine d
  lt : b < rs.length
  hi : rs.length ≤ 300
abbrev NonS (rs1 rs2 : List RowD) (b : Nat) : Prop := ∀ u, ¬ DiffS rs1 rs2 (startP rs1 rs2 b b) u
def TellsS (rs1 rs2 : List RowD) (b : Nat) (v : V) (H : Hp) : Prop := ∃ t w q, v = .ref t ∧ LeastS rs1 rs2 (startP rs1 rs2 b b) w q ∧ ToldT H t (histP rs1 rs2 (startP rs1 rs2 b b) w) (showAt rs1 q.1) (showAt rs2 q.2)
structure Pr2 (CB CM L R : Addr) (o : Ops) (rs1 rs2 : List RowD) (b : Nat) (H : Hp) : Prop where
  lr : TwoB CB CM H L R o o rs1 rs2 b b
  t12 : TwoR rs1 rs2 b b
  m12 : rs1.length * rs2.length ≤ 100000
theorem Pr2.same {CB CM L R : Addr} {o : Ops} {rs1 rs2 : List RowD} {b : Nat} {H H' : Hp} (h : Pr2 CB CM L R o rs1 rs2 b H) (s : Same H H') : Pr2 CB CM L R o rs1 rs2 b H' := ⟨h.lr.same s, h.t12, h.m12⟩
theorem Pr2.mk' {CB CM L R : Addr} {o : Ops} {rs1 rs2 : List RowD} {b : Nat} {H : Hp} (nd : (o.map (·.1)).Nodup) (few : o.length ≤ 8) (B1 : BodyAt CB CM H L o rs1 b) (B2 : BodyAt CB CM H R o rs2 b) (k1 : Ok1 o b rs1) (k2 : Ok1 o b rs2) : Pr2 CB CM L R o rs1 rs2 b H :=
  ⟨⟨B1, B2, few, few, go_ops nd⟩, two_of k1.rows k2.rows k1.fine k2.fine (Nat.le_trans k1.hi (by decide)) (Nat.le_trans k2.hi (by decide)) k1.lt k2.lt, Nat.le_trans (Nat.mul_le_mul k1.hi k2.hi) (by decide)⟩
structure FxS (CB CM L R : Addr) (o : Ops) (rs1 rs2 : List RowD) (b : Nat) (vt vd : V) (wh : Bool) (H : Hp) : Prop where
  p12 : Pr2 CB CM L R o rs1 rs2 b H
  p21 : Pr2 CB CM R L o rs2 rs1 b H
  told : (vt = .non ∧ NonS rs1 rs2 b) ∨ TellsS rs1 rs2 b vt H
  due : (vd = .non ∧ (wh = true → ∀ u, DiffS rs1 rs2 (startP rs1 rs2 b b) u → 6 < u.length)) ∨ TellsS rs1 rs2 b vd H
theorem TellsS.same {rs1 rs2 : List RowD} {b : Nat} {v : V} {H H' : Hp} (h : TellsS rs1 rs2 b v H) (s : Same H H') : TellsS rs1 rs2 b v H' := by
  obtain ⟨t, w, q, a, b, c⟩ := h
  exact ⟨t, w, q, a, b, c.same s⟩
theorem FxS.same {CB CM L R : Addr} {o : Ops} {rs1 rs2 : List RowD} {b : Nat} {vt vd : V} {wh : Bool} {H H' : Hp} (h : FxS CB CM L R o rs1 rs2 b vt vd wh H) (s : Same H H') : FxS CB CM L R o rs1 rs2 b vt vd wh H' :=
  ⟨h.p12.same s, h.p21.same s, h.told.imp id fun z => z.same s, h.due.imp id fun z => z.same s⟩
theorem LeastS.shaped {rs1 rs2 : List RowD} {b1 b2 : Nat} (tr : TwoR rs1 rs2 b1 b2) {p0 : Prw} {v : List Nat} {q : Prw} : SeqAt.shaped (toldD (histP rs1 rs2 p0 v) (showAt rs1 q.1) (showAt rs2 q.2)) = true ∧ PyData.eqv (toldD (histP rs1 rs2 p0 v) (showAt rs1 q.1) (showAt rs2 q.2)) (toldD (histP rs1 rs2 p0 v) (showAt rs1 q.1) (showAt rs2 q.2)) = true :=
  ⟨told_shaped (hist_ok tr.tx1) (show_ok tr.tx1 _) (show_ok tr.tx2 _), SeqAt.eqv_refl _ (told_lay (hist_ok tr.tx1) (show_ok tr.tx1 _) (show_ok tr.tx2 _))⟩
/-- both ways just if they are alike -/
theorem both_ways {rs1 rs2 : List RowD} {b : Nat} : (NonS rs1 rs2 b ∧ NonS rs2 rs1 b) ↔ ∀ u, ¬ DiffP rs1 rs2 (startP rs1 rs2 b b) u :=
  ⟨fun h u d => (diff_stray d).elim (h.1 u) (h.2 u), fun h => ⟨fun u d => h u (stray_diff d), fun u d => h u (swap_diff (stray_diff d))⟩⟩
theorem NonS.through {rs1 rs2 rs3 : List RowD} {b : Nat} (t12 : TwoR rs1 rs2 b b) (t23 : TwoR rs2 rs3 b b) (h1 : NonS rs1 rs2 b) (h2 : NonS rs2 rs3 b) : NonS rs1 rs3 b := fun u =>
  stray_through t12.even t12.fit1 t12.fit2 t23.fit2 t12.beg.1 t12.beg.2 t23.beg.2 h1 h2
theorem Hung.non {rs rs' : List RowD} {o : Ops} {b : Nat} (h : Hung rs rs') (k1 : Ok1 o b rs) (k2 : Ok1 o b rs') : NonS rs' rs b := fun u => h.none k1.rows.fit k2.rows.fit k1.lt
def tTD (CB CM : Addr) : TS := fun D σ H => ∃ (pl L R r1 r2 : Addr) (ps xs1 xs2 : List V) (i j : Nat) (o : Ops) (rs1 rs2 : List RowD) (b : Nat) (v0 v1 v2 v3 v4 v5 v7 v8 v10 v11 v16 v17 v18 v19 : Option V), σ = [v0, v1, v2, v3, v4, v5, some (.int (b : Int)), v7, v8, some (.ref pl), v10, v11, some (.int (i : Int)), some (.ref L), some (.int (j : Int)), some (.ref R), v16, v17, v18, v19] ∧
  H pl = some (.lst ps) ∧ ps[i]? = some (.ref r1) ∧ ps[j]? = some (.ref r2) ∧ H r1 = some (.lst xs1) ∧ H r2 = some (.lst xs2) ∧ Rows H xs1 rs1 ∧ Rows H xs2 rs2 ∧ Pr2 CB CM L R o rs1 rs2 b H ∧ Pr2 CB CM R L o rs2 rs1 b H ∧
  ∀ vt vd wh H', Same H H' → FxS CB CM L R o rs1 rs2 b vt vd wh H' → D.nx [v0, v1, v2, v3, v4, v5, some (.int (b : Int)), v7, v8, some (.ref pl), v10, v11, some (.int (i : Int)), some (.ref L), some (.int (j : Int)), some (.ref R), some vt, some vd, some (.bl wh), v19] H'
def tFxS (CB CM : Addr) : TS := fun D σ H => ∃ (L R : Addr) (o : Ops) (rs1 rs2 : List RowD) (b : Nat) (vt vd : V) (wh : Bool) (v0 v1 v2 v3 v4 v5 v6 v7 v8 v9 v10 v11 v12 v14 v19 : Option V), σ = [v0, v1, v2, v3, v4, v5, v6, v7, v8, v9, v10, v11, v12, some (.ref L), v14, some (.ref R), some vt, some vd, some (.bl wh), v19] ∧ FxS CB CM L R o rs1 rs2 b vt vd wh H ∧ ∀ H', Same H H' → D.nx σ H'
def tThird (CB CM : Addr) : TS := fun D σ H => ∃ (L R Z : Addr) (o : Ops) (rs1 rs2 rs3 : List RowD) (b : Nat) (vt : V) (v0 v1 v2 v3 v4 v5 v6 v7 v8 v9 v10 v11 v12 v14 v17 v18 : Option V), σ = [v0, v1, v2, v3, v4, v5, v6, v7, v8, v9, v10, v11, v12, some (.ref L), v14, some (.ref R), some vt, v17, v18, some (.ref Z)] ∧
  ((vt = .non ∧ NonS rs1 rs2 b) ∨ ∃ t, vt = .ref t) ∧ TwoR rs1 rs2 b b ∧ Pr2 CB CM R Z o rs2 rs3 b H ∧ Pr2 CB CM L Z o rs1 rs3 b H ∧ ∀ H', Same H H' → D.nx σ H'
/-- the bodies that are compared -/
structure Bods (CB CM sm pl : Addr) (o : Ops) (b : Nat) (L : List (Addr × Addr × List RowD)) (H : Hp) : Prop where
  esm : H sm = some (.lst (L.map fun t => V.ref t.1))
  epl : H pl = some (.lst (L.map fun t => V.ref t.2.1))
  one : ∀ t ∈ L, BodyAt CB CM H t.1 o t.2.2 b ∧ PlanR H t.2.1 t.2.2
theorem Bods.same {CB CM sm pl : Addr} {o : Ops} {b : Nat} {L : List (Addr × Addr × List RowD)} {H H' : Hp} (h : Bods CB CM sm pl o b L H) (s : Same H H') : Bods CB CM sm pl o b L H' :=
  ⟨s _ _ h.esm, s _ _ h.epl, fun t ht => ⟨(h.one t ht).1.same s, (h.one t ht).2.same s⟩⟩
theorem Bods.pr2 {CB CM sm pl : Addr} {o : Ops} {b : Nat} {L : List (Addr × Addr × List RowD)} {H : Hp} (h : Bods CB CM sm pl o b L H) (nd : (o.map (·.1)).Nodup) (few : o.length ≤ 8) (ok : ∀ t ∈ L, Ok1 o b t.2.2) {x y : Addr × Addr × List RowD} (hx : x ∈ L) (hy : y ∈ L) : Pr2 CB CM x.1 y.1 o x.2.2 y.2.2 b H :=
  Pr2.mk' nd few (h.one x hx).1 (h.one y hy).1 (ok x hx) (ok y hy)
section
variable {P : Program} {w : World} {K : PySem.W.Frag} {mg : Str → Option Value} {base : Heap}
variable {fII fIW CB CM fB f_src f_next f_dops f_drows f_hung f_due f_within f_parted : Addr}
theorem sc_law : FnScope ["_law_script", "_law_cell", "_law_source", "_law_turn", "_law_operations_here", "_law_rows_here", "_law_begin", "_law_less", "_law_other", "_law_plans", "_law_some", "_law_plan", "_law_one_here", "_law_first", "_law_two", "_law_second", "_law_told", "_law_due_here", "_law_is_whole", "_law_third"] ["_law_script"] (defScope s_law) := ⟨rfl, rfl, rfl, by decide +kernel, rfl, by decide +kernel, by decide +kernel⟩
theorem ok_law {f : Addr} {fd fdB fd_src fd_next fd_dops fd_drows fd_hung fd_due fd_within fd_parted : FuncData} (F : Fun K "law" "law" s_law f fd) (T : TxtF K mg fII fIW) (h_range : mg "range" = none) (h_enum : mg "enumerate" = none)
    (MB : Mk K CB fB) (GB : FnOk P w K mg base CX0 7 fB fdB PB (spBody CB CM)) (kB : KBn K fdB PB (2 + 1) KS (fun us ws => us ++ ws) (fun vs zs => vs ++ zs)) (g_Body : mg "Body" = some (.ref CB))
    (G_src : FnOk P w K mg base CX0 1 f_src fd_src ["_law_cell"] spSrc) (b_src : Binds K fd_src ["_law_cell"] []) (g_src : mg "_law_source_of" = some (.ref f_src)) (k_src : PySem.W.keepIn K (.ref f_src) = true)
    (G_next : FnOk P w K mg base CX0 1 f_next fd_next ["_law_source", "_law_many"] spNext) (b_next : Binds K fd_next ["_law_source", "_law_many"] []) (g_next : mg "_law_next" = some (.ref f_next)) (k_next : PySem.W.keepIn K (.ref f_next) = true)
    (G_dops : FnOk P w K mg base CX0 3 f_dops fd_dops ["_law_source", "_law_many"] spDrawOps) (b_dops : Binds K fd_dops ["_law_source", "_law_many"] []) (g_dops : mg "_law_operations" = some (.ref f_dops)) (k_dops : PySem.W.keepIn K (.ref f_dops) = true)
    (G_drows : FnOk P w K mg base CX0 3 f_drows fd_drows ["_law_source", "_law_operations_here", "_law_many"] spDrawRows) (b_drows : Binds K fd_drows ["_law_source", "_law_operations_here", "_law_many"] []) (g_drows : mg "_law_rows" = some (.ref f_drows)) (k_drows : PySem.W.keepIn K (.ref f_drows) = true)
    (G_hung : FnOk P w K mg base CX0 2 f_hung fd_hung ["_law_source", "_law_rows_here"] spHung) (b_hung : Binds K fd_hung ["_law_source", "_law_rows_here"] []) (g_hung : mg "_law_hung" = some (.ref f_hung)) (k_hung : PySem.W.keepIn K (.ref f_hung) = true)
    (G_due : FnOk P w K mg base CX0 3 f_due fd_due ["_law_rows_here", "_law_others", "_law_begin", "_law_many"] spDue) (b_due : Binds K fd_due ["_law_rows_here", "_law_others", "_law_begin", "_law_many"] []) (g_due : mg "_law_due" = some (.ref f_due)) (k_due : PySem.W.keepIn K (.ref f_due) = true)
    (G_within : FnOk P w K mg base CX0 4 f_within fd_within ["one", "other"] (spWithinF CB CM)) (b_within : Binds K fd_within ["one", "other"] []) (g_within : mg "within" = some (.ref f_within)) (k_within : PySem.W.keepIn K (.ref f_within) = true)
    (G_parted : FnOk P w K mg base CX0 4 f_parted fd_parted ["one", "other"] (spPartedF CB CM)) (b_parted : Binds K fd_parted ["one", "other"] []) (g_parted : mg "parted" = some (.ref f_parted)) (k_parted : PySem.W.keepIn K (.ref f_parted) = true) :
    FnOk P w K mg base CX0 9 f fd ["_law_script"] (spLaw K) := by
  refine F.ok sc_law (fun vs H Q E h => ?_) (fun cdv A outer s H vs Q E hr h => ?_)
  · obtain ⟨a, ns, rfl, _⟩ := h
    rfl
  · obtain ⟨a, ns, rfl, hS, hlen, k⟩ := h
    refine ⟨_, (pss_cons (ps_for PassesOwn.never rfl (pi_list (pe_op op_catG (pe_slice sl_listG (pv 0) po_none (po_some pe_int)) (pe_lstG (pa_cons pe_int pa_nil)))) (pg_name (i := 1) sc_law.nd rfl (Or.inl rfl)) (pss_cons (ps_set (i := 2) sc_law.nd rfl (Or.inl rfl) (pe_call G_src (hr.mono (by decide)) (by rfl) g_src k_src b_src .nil pass0 (pa_cons (pv 1) pa_nil)))
      (pss_one (ps_for PassesOwn.never rfl (pi_range1 (by rfl) h_range (pa_cons pe_int pa_nil)) (pg_name (i := 3) sc_law.nd rfl (Or.inl rfl)) (pss_cons (ps_set (i := 4) sc_law.nd rfl (Or.inr rfl) (pe_call G_dops (hr.mono (by decide)) (by rfl) g_dops k_dops b_dops .nil pass0 (pa_cons (pv 2) (pa_cons (pe_op op_add pe_int (pe_call G_next (hr.mono (by decide)) (by rfl) g_next k_next b_next .nil pass0 (pa_cons (pv 2) (pa_cons pe_int pa_nil)))) pa_nil))))
      (pss_cons (ps_set (i := 5) sc_law.nd rfl (Or.inl rfl) (pe_call G_drows (hr.mono (by decide)) (by rfl) g_drows k_drows b_drows .nil pass0 (pa_cons (pv 2) (pa_cons (pv 4) (pa_cons (pe_op op_add pe_int (pe_call G_next (hr.mono (by decide)) (by rfl) g_next k_next b_next .nil pass0 (pa_cons (pv 2) (pa_cons pe_int pa_nil)))) pa_nil)))))
      (pss_cons (ps_set (i := 6) sc_law.nd rfl (Or.inr rfl) (pe_call G_next (hr.mono (by decide)) (by rfl) g_next k_next b_next .nil pass0 (pa_cons (pv 2) (pa_cons (pe_callB call_len_seq (by rfl) T.b_len PySem.boot_len (pa_cons (pv 5) pa_nil)) pa_nil))))
      (pss_cons (ps_set (i := 7) sc_law.nd rfl (Or.inl rfl) (pe_call G_hung (hr.mono (by decide)) (by rfl) g_hung k_hung b_hung .nil pass0 (pa_cons (pv 2) (pa_cons (pv 5) pa_nil))))
      (pss_cons (ps_set (i := 8) sc_law.nd rfl (Or.inl rfl) (pe_callTy call_listG (by rfl) T.b_list (by decide +kernel) (pa_cons (pv 5) pa_nil)))
      (pss_cons (ps_asg (pe_ix ix_list (pe_call G_drows (hr.mono (by decide)) (by rfl) g_drows k_drows b_drows .nil pass0 (pa_cons (pv 2) (pa_cons (pv 4) (pa_cons (pe_callB call_len_seq (by rfl) T.b_len PySem.boot_len (pa_cons (pv 5) pa_nil)) pa_nil)))) pe_int (fun _ _ => rfl)) (pg_sub (pv 8) (pe_call G_next (hr.mono (by decide)) (by rfl) g_next k_next b_next .nil pass0 (pa_cons (pv 2) (pa_cons (pe_callB call_len_seq (by rfl) T.b_len PySem.boot_len (pa_cons (pv 5) pa_nil)) pa_nil))) set_list))
      (pss_cons (ps_set (i := 9) sc_law.nd rfl (Or.inl rfl) (pe_lstG (pa_cons (pv 5) (pa_cons (pv 7) (pa_cons (pe_call G_hung (hr.mono (by decide)) (by rfl) g_hung k_hung b_hung .nil pass0 (pa_cons (pv 2) (pa_cons (pv 7) pa_nil))) (pa_cons (pv 8) (pa_cons (pe_call G_hung (hr.mono (by decide)) (by rfl) g_hung k_hung b_hung .nil pass0 (pa_cons (pv 2) (pa_cons (pv 8) pa_nil))) pa_nil)))))))
      (pss_cons (ps_setLc (i := 10) (own := [("_law_plan", 11)]) (g := (gName 11)) (tt := tYes) rfl sc_law.nd rfl rfl (sw_true rfl rfl rfl rfl) (pi_list (pv 9)) (blkOk_by (own := [("_law_plan", 11)]) (N := ["_law_script", "_law_cell", "_law_source", "_law_turn", "_law_operations_here", "_law_rows_here", "_law_begin", "_law_less", "_law_other", "_law_plans", "_law_some", "_law_plan", "_law_one_here", "_law_first", "_law_two", "_law_second", "_law_told", "_law_due_here", "_law_is_whole", "_law_third"]) (sc := defScope s_law) (by decide +kernel)) (fun _ _ _ _ _ => (pg_name (i := 11) sc_law.nd rfl (Or.inl rfl))) (fun _ _ _ _ _ => pts_nil) (fun _ _ _ _ _ => (pe_body MB GB (hr.mono (by decide)) (by rfl) g_Body kB (pa_cons (pv 4) (pa_cons (pv 11) pa_nil)) (pk_cons (pv 6) pk_nil))))
      (pss_cons (ps_if (PW.pt (pw_or (pt_cmpR op_notN (pe_call G_within (hr.mono (by decide)) (by rfl) g_within k_within b_within .nil pass0 (pa_cons (pe_ix ix_list (pv 10) pe_int (fun _ _ => rfl)) (pa_cons (pe_ix ix_list (pv 10) pe_int (fun _ _ => rfl)) pa_nil))) pe_non (nomark _)) (pw_or1 (pt_cmpR op_notN (pe_call G_within (hr.mono (by decide)) (by rfl) g_within k_within b_within .nil pass0 (pa_cons (pe_ix ix_list (pv 10) pe_int (fun _ _ => rfl)) (pa_cons (pe_ix ix_list (pv 10) pe_int (fun _ _ => rfl)) pa_nil))) pe_non (nomark _))))) (pss_one (ps_ret pe_bl)) pss_nil)
      (pss_cons (ps_if (PW.pt (pw_or (pt_cmpR op_notN (pe_call G_within (hr.mono (by decide)) (by rfl) g_within k_within b_within .nil pass0 (pa_cons (pe_ix ix_list (pv 10) pe_int (fun _ _ => rfl)) (pa_cons (pe_ix ix_list (pv 10) pe_int (fun _ _ => rfl)) pa_nil))) pe_non (nomark _)) (pw_or1 (pt_cmpR op_notN (pe_call G_within (hr.mono (by decide)) (by rfl) g_within k_within b_within .nil pass0 (pa_cons (pe_ix ix_list (pv 10) pe_int (fun _ _ => rfl)) (pa_cons (pe_ix ix_list (pv 10) pe_int (fun _ _ => rfl)) pa_nil))) pe_non (nomark _))))) (pss_one (ps_ret pe_bl)) pss_nil)
      (pss_one (ps_for PassesOwn.never rfl (pi_enum (by rfl) h_enum (pa_cons (pv 10) pa_nil)) (pg_tup rfl (pgs_cons (pg_name (i := 12) sc_law.nd rfl (Or.inl rfl)) (pgs_cons (pg_name (i := 13) sc_law.nd rfl (Or.inl rfl)) pgs_nil))) (pss_one (ps_for PassesOwn.never rfl (pi_enum (by rfl) h_enum (pa_cons (pv 10) pa_nil)) (pg_tup rfl (pgs_cons (pg_name (i := 14) sc_law.nd rfl (Or.inl rfl)) (pgs_cons (pg_name (i := 15) sc_law.nd rfl (Or.inl rfl)) pgs_nil))) (pss_cons (ps_imp (t' := tTD CB CM) (ps_asg (pe_tupG (pa_cons (pe_call G_within (hr.mono (by decide)) (by rfl) g_within k_within b_within .nil pass0 (pa_cons (pv 13) (pa_cons (pv 15) pa_nil))) (pa_cons (pe_call G_due (hr.mono (by decide)) (by rfl) g_due k_due b_due .nil pass0 (pa_cons (pe_ix ix_list (pv 9) (pv 12) (fun _ _ => rfl)) (pa_cons (pe_ix ix_list (pv 9) (pv 14) (fun _ _ => rfl)) (pa_cons (pv 6) (pa_cons pe_int pa_nil))))) pa_nil))) (pg_tup rfl (pgs_cons (pg_name (i := 16) sc_law.nd rfl (Or.inl rfl)) (pgs_cons (pg_tup rfl (pgs_cons (pg_name (i := 17) sc_law.nd rfl (Or.inl rfl)) (pgs_cons (pg_name (i := 18) sc_law.nd rfl (Or.inl rfl)) pgs_nil))) pgs_nil)))) (fun D σ H q => by
        obtain ⟨pl, L, R, r1, r2, ps, xs1, xs2, i, j, o, rs1, rs2, b, v0, v1, v2, v3, v4, v5, v7, v8, v10, v11, v16, v17, v18, v19, rfl, epl, ei, ej, h1, h2, w1, w2, p12, p21, kk⟩ := q
        refine ⟨_, rfl, _, rfl, L, R, o, o, rs1, rs2, b, b, rfl, p12.lr, p12.t12, p12.m12, fun H1 s1 no => ?_, fun t v q H1 s1 lp tt => ?_⟩
        · skip
          refine ⟨_, rfl, _, rfl, pl, _, _, _, rfl, rfl, SqL.of (s1 _ _ epl), atI_nat ei, ?_⟩
          refine ⟨_, rfl, _, rfl, pl, _, _, _, rfl, rfl, SqL.of (s1 _ _ epl), atI_nat ej, ?_⟩
          refine ⟨_, rfl, r1, r2, xs1, xs2, rs1, rs2, b, rfl, s1 _ _ h1, s1 _ _ h2, w1.same s1, w2.same s1, p12.t12, fun tq wh H2 s2 e2 hw => ?_, fun tq ad v2 q2 H2 s2 e2 lp2 tt2 => ?_⟩
          · refine ⟨two_ok _ _, fun T3 H3 n3 s3 e3 => ?_⟩
            exact ⟨T3, _, rfl, .inl (.inl e3), rfl, _, _, rfl, _, _, rfl, tq, _, rfl, .inl (.inl (s3 _ _ e2)), rfl, _, _, rfl, _, _, rfl, rfl, rfl, kk .non .non wh H3 (s1.trans (s2.trans s3)) ⟨p12.same (s1.trans (s2.trans s3)), p21.same (s1.trans (s2.trans s3)), .inl ⟨rfl, no⟩, .inl ⟨rfl, hw⟩⟩⟩
          · refine ⟨two_ok _ _, fun T3 H3 n3 s3 e3 => ?_⟩
            exact ⟨T3, _, rfl, .inl (.inl e3), rfl, _, _, rfl, _, _, rfl, tq, _, rfl, .inl (.inl (s3 _ _ e2)), rfl, _, _, rfl, _, _, rfl, rfl, rfl, kk .non (.ref ad) true H3 (s1.trans (s2.trans s3)) ⟨p12.same (s1.trans (s2.trans s3)), p21.same (s1.trans (s2.trans s3)), .inl ⟨rfl, no⟩, .inr ⟨ad, v2, q2, rfl, lp2, tt2.same s3⟩⟩⟩
        · skip
          refine ⟨_, rfl, _, rfl, pl, _, _, _, rfl, rfl, SqL.of (s1 _ _ epl), atI_nat ei, ?_⟩
          refine ⟨_, rfl, _, rfl, pl, _, _, _, rfl, rfl, SqL.of (s1 _ _ epl), atI_nat ej, ?_⟩
          refine ⟨_, rfl, r1, r2, xs1, xs2, rs1, rs2, b, rfl, s1 _ _ h1, s1 _ _ h2, w1.same s1, w2.same s1, p12.t12, fun tq wh H2 s2 e2 hw => ?_, fun tq ad v2 q2 H2 s2 e2 lp2 tt2 => ?_⟩
          · refine ⟨two_ok _ _, fun T3 H3 n3 s3 e3 => ?_⟩
            exact ⟨T3, _, rfl, .inl (.inl e3), rfl, _, _, rfl, _, _, rfl, tq, _, rfl, .inl (.inl (s3 _ _ e2)), rfl, _, _, rfl, _, _, rfl, rfl, rfl, kk (.ref t) .non wh H3 (s1.trans (s2.trans s3)) ⟨p12.same (s1.trans (s2.trans s3)), p21.same (s1.trans (s2.trans s3)), .inr ⟨t, v, q, rfl, lp, tt.same (s2.trans s3)⟩, .inl ⟨rfl, hw⟩⟩⟩
          · refine ⟨two_ok _ _, fun T3 H3 n3 s3 e3 => ?_⟩
            exact ⟨T3, _, rfl, .inl (.inl e3), rfl, _, _, rfl, _, _, rfl, tq, _, rfl, .inl (.inl (s3 _ _ e2)), rfl, _, _, rfl, _, _, rfl, rfl, rfl, kk (.ref t) (.ref ad) true H3 (s1.trans (s2.trans s3)) ⟨p12.same (s1.trans (s2.trans s3)), p21.same (s1.trans (s2.trans s3)), .inr ⟨t, v, q, rfl, lp, tt.same (s2.trans s3)⟩, .inr ⟨ad, v2, q2, rfl, lp2, tt2.same s3⟩⟩⟩))
      (pss_cons (ps_imp (t' := tFxS CB CM) (ps_if (PW.pt (pw_and (pt_cmpR op_notN (pv 17) pe_non (nomark _)) (pw_and1 (pt_cmpR (op_neD hr.units) (pv 16) (pv 17) (nomark _))))) (pss_one (ps_ret pe_bl)) pss_nil) (fun D σ H q => by
        obtain ⟨L, R, o, rs1, rs2, b, vt, vd, wh, v0, v1, v2, v3, v4, v5, v6, v7, v8, v9, v10, v11, v12, v14, v19, rfl, fx, kk⟩ := q
        refine ⟨_, rfl, rfl, _, rfl, ?_⟩
        rcases fx.due with ⟨rfl, dd⟩ | ⟨td, v, q, rfl, lp, tt⟩
        · exact iteF (iteF (kk H (Same.refl H)))
        · rw [ne_non]
          refine iteT ?_
          rcases fx.told with ⟨rfl, no⟩ | ⟨t, v', q', rfl, lp', tt'⟩
          · exact absurd lp.diff (no _)
          · obtain ⟨rfl, rfl⟩ := lp.one fx.p12.t12.few lp'
            refine ⟨_, rfl, _, rfl, _, _, told_dp tt', told_dp tt, (LeastS.shaped fx.p12.t12).1, (LeastS.shaped fx.p12.t12).1, _, rfl, ?_⟩
            rw [(LeastS.shaped fx.p12.t12).2]
            exact iteF (kk H (Same.refl H))))
      (pss_cons (ps_imp (t' := tFxS CB CM) (ps_if (PW.pt (pw_and (pt_cmpR op_isN (pv 17) pe_non (nomark _)) (pw_and (pt_val (pv 18)) (pw_and (pt_cmpR op_notN (pv 16) pe_non (nomark _)) (pw_and1 (pt_cmpR op_le (pe_callB call_len_seq (by rfl) T.b_len PySem.boot_len (pa_cons (pe_ix ix_tup (pv 16) pe_int (fun _ _ => rfl)) pa_nil)) pe_int (nomark _))))))) (pss_one (ps_ret pe_bl)) pss_nil) (fun D σ H q => by
        obtain ⟨L, R, o, rs1, rs2, b, vt, vd, wh, v0, v1, v2, v3, v4, v5, v6, v7, v8, v9, v10, v11, v12, v14, v19, rfl, fx, kk⟩ := q
        refine ⟨_, rfl, rfl, _, rfl, ?_⟩
        rcases fx.due with ⟨rfl, dd⟩ | ⟨td, v, q, rfl, lp, tt⟩
        · refine iteT ?_
          refine ⟨_, rfl, _, rfl, ?_⟩
          cases wh with
          | false => exact iteF (iteF (kk H (Same.refl H)))
          | true =>
            refine iteT ?_
            refine ⟨_, rfl, rfl, _, rfl, ?_⟩
            rcases fx.told with ⟨rfl, no⟩ | ⟨t, v', q', rfl, lp', tt'⟩
            · exact iteF (iteF (kk H (Same.refl H)))
            · rw [ne_non]
              refine iteT ?_
              obtain ⟨hx, ta, tb, h1, ⟨hvs, h2, h3⟩, h4, h5⟩ := tt'
              refine ⟨_, rfl, _, _, _, _, rfl, rfl, .inl (.inl h1), at0', hx, _, rfl, .inr (SqT.of h2), _, _, rfl, rfl, _, rfl, ?_⟩
              have := dd rfl _ lp'.diff
              have e9 : hvs.length = v'.length := by rw [h3.1, histP_len lp'.run]
              rw [decide_eq_false (by omega)]
              exact iteF (kk H (Same.refl H))
        · rw [is_non]
          exact iteF (iteF (kk H (Same.refl H)))))
      (pss_cons (ps_imp (t' := tFxS CB CM) (ps_if (pt_cmpR op_ne (pe_and (pe_cmpR op_isN (pv 16) pe_non (nomark _)) (pe_one (pe_cmpR op_isN (pe_call G_within (hr.mono (by decide)) (by rfl) g_within k_within b_within .nil pass0 (pa_cons (pv 15) (pa_cons (pv 13) pa_nil))) pe_non (nomark _)))) (pe_cmpR op_isN (pe_call G_parted (hr.mono (by decide)) (by rfl) g_parted k_parted b_parted .nil pass0 (pa_cons (pv 13) (pa_cons (pv 15) pa_nil))) pe_non (nomark _)) (nomark _)) (pss_one (ps_ret pe_bl)) pss_nil) (fun D σ H q => by
        obtain ⟨L, R, o, rs1, rs2, b, vt, vd, wh, v0, v1, v2, v3, v4, v5, v6, v7, v8, v9, v10, v11, v12, v14, v19, rfl, fx, kk⟩ := q
        have bw := both_ways (rs1 := rs1) (rs2 := rs2) (b := b)
        refine ⟨_, rfl, rfl, _, rfl, ?_⟩
        rcases fx.told with ⟨rfl, no⟩ | ⟨t, v, q, rfl, lp, tt⟩
        · refine iteT ?_
          refine ⟨_, rfl, _, rfl, R, L, o, o, rs2, rs1, b, b, rfl, fx.p21.lr, fx.p21.t12, fx.p21.m12, fun H1 s1 no2 => ?_, fun t v q H1 s1 lp tt => ?_⟩
          · refine ⟨rfl, _, rfl, _, rfl, L, R, o, o, rs1, rs2, b, b, rfl, fx.p12.lr.same s1, fx.p12.t12, fun H2 s2 nd => ?_, fun t2 w2 q2 H2 s2 lp2 tt2 => absurd lp2.diff (bw.mp ⟨no, no2⟩ _)⟩
            refine ⟨rfl, rfl, _, rfl, ?_⟩
            exact iteF (kk H2 (s1.trans s2))
          · refine ⟨rfl, _, rfl, _, rfl, L, R, o, o, rs1, rs2, b, b, rfl, fx.p12.lr.same s1, fx.p12.t12, fun H2 s2 nd => absurd lp.diff ((bw.mpr nd).2 _), fun t2 w2 q2 H2 s2 lp2 tt2 => ?_⟩
            refine ⟨rfl, rfl, _, rfl, ?_⟩
            rw [is_non, is_non]
            exact iteF (kk H2 (s1.trans s2))
        · rw [is_non]
          refine iteF ?_
          refine ⟨_, rfl, _, rfl, L, R, o, o, rs1, rs2, b, b, rfl, fx.p12.lr, fx.p12.t12, fun H2 s2 nd => absurd lp.diff ((bw.mpr nd).1 _), fun t2 w2 q2 H2 s2 lp2 tt2 => ?_⟩
          refine ⟨rfl, rfl, _, rfl, ?_⟩
          rw [is_non]
          exact iteF (kk H2 s2)))
      (pss_one (ps_for PassesOwn.never rfl (pi_list (pv 10)) (pg_name (i := 19) sc_law.nd rfl (Or.inl rfl)) (pss_one (ps_imp (t' := tThird CB CM) (ps_if (PW.pt (pw_and (pt_cmpR op_isN (pv 16) pe_non (nomark _)) (pw_and (pt_cmpR op_isN (pe_call G_within (hr.mono (by decide)) (by rfl) g_within k_within b_within .nil pass0 (pa_cons (pv 15) (pa_cons (pv 19) pa_nil))) pe_non (nomark _)) (pw_and1 (pt_cmpR op_notN (pe_call G_within (hr.mono (by decide)) (by rfl) g_within k_within b_within .nil pass0 (pa_cons (pv 13) (pa_cons (pv 19) pa_nil))) pe_non (nomark _)))))) (pss_one (ps_ret pe_bl)) pss_nil) (fun D σ H q => by
        obtain ⟨L, R, Z, o, rs1, rs2, rs3, b, vt, v0, v1, v2, v3, v4, v5, v6, v7, v8, v9, v10, v11, v12, v14, v17, v18, rfl, told, t12, p23, p13, kk⟩ := q
        refine ⟨_, rfl, rfl, _, rfl, ?_⟩
        rcases told with ⟨rfl, no⟩ | ⟨t, rfl⟩
        · refine iteT ?_
          refine ⟨_, rfl, _, rfl, R, Z, o, o, rs2, rs3, b, b, rfl, p23.lr, p23.t12, p23.m12, fun H1 s1 no2 => ?_, fun t v q H1 s1 lp tt => ?_⟩
          · refine ⟨rfl, _, rfl, ?_⟩
            refine iteT ?_
            refine ⟨_, rfl, _, rfl, L, Z, o, o, rs1, rs3, b, b, rfl, p13.lr.same s1, p13.t12, p13.m12, fun H2 s2 no3 => ?_, fun t v q H2 s2 lp tt => absurd lp.diff (no.through t12 p23.t12 no2 _)⟩
            exact ⟨rfl, _, rfl, iteF (kk H2 (s1.trans s2))⟩
          · refine ⟨rfl, _, rfl, ?_⟩
            rw [is_non]
            exact iteF (iteF (kk H1 s1))
        · rw [is_non]
          exact iteF (iteF (kk H (Same.refl H))))))))))))))))))))))))))))))
      (pss_one (ps_ret pe_bl))), ?_⟩
    refine ⟨_, rfl, 5, rfl, a, _, rfl, hS, fun p1 H1 n1 s1 e1 => ?_⟩
    refine ⟨one_ok _, fun p2 H2 n2 s2 e2 => ?_⟩
    refine ⟨p1, p2, _, _, rfl, rfl, s2 _ _ e1, e2, ?_, fun p3 H3 n3 s3 e3 => ?_⟩
    · have := ints_cut_len (lo := none) (hi := some 5) hlen
      show _ + 1 ≤ sizeLine
      rw [sizeLine_eq]
      omega
    refine ⟨p3, rfl, ⟨_, SqL.of e3⟩, for_list (K := K) (a := p3) (xs := cutV (ns.map V.int) none (some 5) ++ [.int 0]) (fun i σ H' => ∃ v1 v2 v3 v4 v5 v6 v7 v8 v9 v10 v11 v12 v13 v14 v15 v16 v17 v18 v19 : Option V, σ = [some (.ref a), v1, v2, v3, v4, v5, v6, v7, v8, v9, v10, v11, v12, v13, v14, v15, v16, v17, v18, v19] ∧ Same H3 H') ⟨_, _, _, _, _, _, _, _, _, _, _, _, _, _, _, _, _, _, _, rfl, Same.refl _⟩ (fun i σ H' _ z => by obtain ⟨_, _, _, _, _, _, _, _, _, _, _, _, _, _, _, _, _, _, _, _, s⟩ := z; exact s.seq (SqL.of e3)) ?_ ?_⟩
    · rintro i y σ Hc hi ⟨v1, v2, v3, v4, v5, v6, v7, v8, v9, v10, v11, v12, v13, v14, v15, v16, v17, v18, v19, rfl, sc⟩
      obtain ⟨c, rfl⟩ := ints_cut hi
      refine ⟨_, rfl, c, rfl, fun x0 y0 z0 p4 H4 n4 s4 e4 => ?_⟩
      refine ⟨6, rfl, by decide, by decide, for_range (n := 6) (fun j σ H' => ∃ v3 v4 v5 v6 v7 v8 v9 v10 v11 v12 v13 v14 v15 v16 v17 v18 v19 : Option V, σ = [some (.ref a), some (.int c), some (.ref p4), v3, v4, v5, v6, v7, v8, v9, v10, v11, v12, v13, v14, v15, v16, v17, v18, v19] ∧ Same Hc H' ∧ SrcAt H' p4) ⟨_, _, _, _, _, _, _, _, _, _, _, _, _, _, _, _, _, rfl, s4, x0, y0, z0, e4⟩ ?_ ?_⟩
      · rintro j σ Hd hj ⟨v3, v4, v5, v6, v7, v8, v9, v10, v11, v12, v13, v14, v15, v16, v17, v18, v19, rfl, sd, x1, y1, z1, ed⟩
        -- operations
        refine ⟨_, rfl, ⟨_, rfl, p4, 3, x1, y1, z1, rfl, by decide, by decide, ed, fun n x2 y2 z2 J1 n0 n1 b1 f1 => ?_⟩⟩
        obtain ⟨n, rfl⟩ : ∃ m : Nat, n = (m : Int) := ⟨n.toNat, by omega⟩
        refine ⟨_, _, rfl, rfl, ?_⟩
        refine ⟨p4, 1 + n, x2, y2, z2, (show [V.ref p4, V.int ((1 : Int) + (n : Int))] = [V.ref p4, V.int ((1 + n : Nat) : Int)] by rw [show ((1 + n : Nat) : Int) = 1 + (n : Int) by omega]), f1, by omega, fun po o x3 y3 z3 J2 npo ol onm ond b2 f2 fo => ?_⟩
        have npo4 : po ≠ p4 := fun z => by
          rw [z, f1] at npo
          cases npo
        have few : o.length < 64 := by omega
        have few8 : o.length ≤ 8 := by omega
        -- rows
        refine ⟨_, rfl, _, rfl, ⟨_, rfl, p4, 9, x3, y3, z3, rfl, by decide, by decide, f2, fun n2 x4 y4 z4 J3 m0 m1 b3 f3 => ?_⟩⟩
        obtain ⟨n2, rfl⟩ : ∃ m : Nat, n2 = (m : Int) := ⟨n2.toNat, by omega⟩
        refine ⟨_, _, rfl, rfl, ?_⟩
        refine ⟨p4, po, o, 1 + n2, x4, y4, z4, (show [V.ref p4, V.ref po, V.int ((1 : Int) + (n2 : Int))] = [V.ref p4, V.ref po, V.int ((1 + n2 : Nat) : Int)] by rw [show ((1 + n2 : Nat) : Int) = 1 + (n2 : Int) by omega]), f3, b3 _ _ npo4 fo, ond, few, onm, by omega, by omega, fun pr xs rs x5 y5 z5 J4 npr rl okr fine b4 f4 fr rows => ?_⟩
        have npr4 : pr ≠ p4 := fun z => by
          rw [z, f3] at npr
          cases npr
        have fo4 := b4 _ _ npo4 (b3 _ _ npo4 fo)
        have lx : xs.length = rs.length := rows.1
        have lo : 1 ≤ rs.length := by omega
        -- begin
        refine ⟨_, rfl, _, rfl, pr, xs, rfl, .inl (SqL.of fr), p4, _, x5, y5, z5, rfl, by omega, by omega, f4, fun bg x6 y6 z6 J5 g0 g1 b5 f5 => ?_⟩
        obtain ⟨bg, rfl⟩ : ∃ m : Nat, bg = (m : Int) := ⟨bg.toNat, by omega⟩
        have fr5 := b5 _ _ npr4 fr
        have fo5 := b5 _ _ npo4 fo4
        have rows5 : Rows J5 xs rs := rows.offL b5 f4
        -- less
        refine ⟨_, rfl, _, rfl, p4, pr, o, xs, rs, x6, y6, z6, rfl, f5, fr5, rows5, okr, fine, lo, by omega, fun pL xsL rsL x7 y7 z7 J6 npL hgL okL fineL b6 f6 fL rowsL => ?_⟩
        have npL4 : pL ≠ p4 := fun z => by rw [z, f5] at npL; cases npL
        have fr6 := b6 _ _ npr4 fr5
        have fo6 := b6 _ _ npo4 fo5
        have rows6 : Rows J6 xs rs := rows5.offL b6 f5
        have loL : 1 ≤ rsL.length := by rw [hgL.len]; exact lo
        -- the other
        refine ⟨_, rfl, pr, xs, rfl, .inl fr6, fun pT J7 npT s7 eT => ?_⟩
        have npT4 : pT ≠ p4 := fun z => by rw [z, f6] at npT; cases npT
        have npTr : pT ≠ pr := fun z => by rw [z, fr6] at npT; cases npT
        have npTL : pT ≠ pL := fun z => by rw [z, fL] at npT; cases npT
        have npTo : pT ≠ po := fun z => by rw [z, fo6] at npT; cases npT
        refine ⟨_, rfl, _, rfl, _, rfl, pr, xs, rfl, .inl (SqL.of (s7 _ _ fr6)), p4, po, o, rs.length, x7, y7, z7, by rw [lx]; rfl, s7 _ _ f6, s7 _ _ fo6, ond, few, onm, lo, by omega, fun p5 xs5 rs5 x8 y8 z8 J8 np5 len5 ok5 fine5 b8 f8 ep5 rowsQ => ?_⟩
        obtain ⟨d0, ed0⟩ : ∃ d0, rs5[0]? = some d0 := ⟨_, List.getElem?_eq_getElem (show 0 < rs5.length by omega)⟩
        obtain ⟨u0, hu0, row0⟩ := rowsQ.2 0 _ ed0
        have okd := ok5 0 _ ed0
        rw [len5] at okd
        have fd := fine5 _ (List.mem_of_getElem? ed0)
        refine ⟨p5, _, _, _, rfl, rfl, SqL.of ep5, atI_nat (j := 0) hu0, ?_⟩
        have fr8 := b8 _ _ npr4 (s7 _ _ fr6)
        have fo8 := b8 _ _ npo4 (s7 _ _ fo6)
        have fL8 := b8 _ _ npL4 (s7 _ _ fL)
        have eT8 := b8 _ _ npT4 eT
        have rows8 : Rows J8 xs rs := (rows6.same s7).offL b8 (s7 _ _ f6)
        have rowsL8 : Rows J8 xsL rsL := (rowsL.same s7).offL b8 (s7 _ _ f6)
        refine ⟨_, rfl, _, rfl, _, rfl, pr, xs, rfl, .inl (SqL.of fr8), p4, _, x8, y8, z8, rfl, by omega, by omega, f8, fun at_ x9 y9 z9 J9 a0 a1 b9 f9 => ?_⟩
        obtain ⟨at_, rfl⟩ : ∃ m : Nat, at_ = (m : Int) := ⟨at_.toNat, by omega⟩
        have eT9 := b9 _ _ npT4 eT8
        refine ⟨pT, _, _, at_, rfl, rfl, eT9, ixn (by omega), ?_⟩
        have x10 : ∀ q u, q ≠ pT → J9 q = some u → upd J9 pT (.lst (xs.set at_ u0)) q = some u := fun q u nb e => by rw [upd_ne nb]; exact e
        have e10 : upd J9 pT (.lst (xs.set at_ u0)) pT = some (.lst (xs.set at_ u0)) := upd_same
        have r10 : TRow (upd J9 pT (.lst (xs.set at_ u0))) u0 d0 := TRow.offL x10 eT9 (TRow.offL b9 f8 row0)
        have w10 : Rows (upd J9 pT (.lst (xs.set at_ u0))) xs rs := (rows8.offL b9 f8).offL x10 eT9
        have wL10 : Rows (upd J9 pT (.lst (xs.set at_ u0))) xsL rsL := (rowsL8.offL b9 f8).offL x10 eT9
        generalize upd J9 pT (.lst (xs.set at_ u0)) = JA at x10 e10 r10 w10 wL10 ⊢
        have f10 := x10 _ _ (Ne.symm npT4) f9
        have fr10 := x10 _ _ (Ne.symm npTr) (b9 _ _ npr4 fr8)
        have fo10 := x10 _ _ (Ne.symm npTo) (b9 _ _ npo4 fo8)
        have fL10 := x10 _ _ (Ne.symm npTL) (b9 _ _ npL4 fL8)
        have wT10 : Rows JA (xs.set at_ u0) (rs.set at_ d0) := w10.set r10
        have okT : OkRows o (rs.set at_ d0) := okr.set okd
        have fineT : ∀ q ∈ rs.set at_ d0, RowFine q := fun q hq => (mem_set_or hq).elim (fine q) fun z => by rw [z]; exact fd
        have lenT : (rs.set at_ d0).length = rs.length := List.length_set ..
        generalize rs.set at_ d0 = rsT at wT10 okT fineT lenT
        have loT : 1 ≤ rsT.length := by omega
        -- the plans
        refine ⟨_, rfl, _, rfl, _, rfl, _, rfl, p4, pL, o, xsL, rsL, x9, y9, z9, rfl, f10, fL10, wL10, okL, fineL, loL, by rw [hgL.len]; omega, fun pM xsM rsM xb yb zb JB npM hgM okM fineM bb fb fM rowsM => ?_⟩
        have npM4 : pM ≠ p4 := fun z => by rw [z, f10] at npM; cases npM
        have eTB := bb _ _ npT4 e10
        have wTB : Rows JB _ rsT := wT10.offL bb f10
        refine ⟨_, rfl, _, rfl, _, rfl, p4, pT, o, _, rsT, xb, yb, zb, rfl, fb, eTB, wTB, okT, fineT, loT, by omega, fun pN xsN rsN xc yc zc JC npN hgN okN fineN bc fc fN rowsN => ?_⟩
        have npN4 : pN ≠ p4 := fun z => by rw [z, fb] at npN; cases npN
        have P5 : ∀ p ∈ [(pr, rs), (pL, rsL), (pM, rsM), (pT, rsT), (pN, rsN)], PlanR JC p.1 p.2 := by
          intro p hp
          simp only [List.mem_cons, List.not_mem_nil, or_false] at hp
          rcases hp with rfl | rfl | rfl | rfl | rfl
          · exact ⟨_, bc _ _ npr4 (bb _ _ npr4 fr10), (w10.offL bb f10).offL bc fb⟩
          · exact ⟨_, bc _ _ npL4 (bb _ _ npL4 fL10), (wL10.offL bb f10).offL bc fb⟩
          · exact ⟨_, bc _ _ npM4 fM, rowsM.offL bc fb⟩
          · exact ⟨_, bc _ _ npT4 eTB, wTB.offL bc fb⟩
          · exact ⟨_, fN, rowsN⟩
        have lenL := hgL.len
        have lenM := hgM.len
        have lenN := hgN.len
        have k0 : Ok1 o bg rs := ⟨okr, fine, by omega, by omega⟩
        have kL : Ok1 o bg rsL := ⟨okL, fineL, by omega, by omega⟩
        have kM : Ok1 o bg rsM := ⟨okM, fineM, by omega, by omega⟩
        have kT : Ok1 o bg rsT := ⟨okT, fineT, by omega, by omega⟩
        have kN : Ok1 o bg rsN := ⟨okN, fineN, by omega, by omega⟩
        have K5 : ∀ p ∈ [(pr, rs), (pL, rsL), (pM, rsM), (pT, rsT), (pN, rsN)], Ok1 o bg p.2 := by
          intro p hp
          simp only [List.mem_cons, List.not_mem_nil, or_false] at hp
          rcases hp with rfl | rfl | rfl | rfl | rfl
          · exact k0
          · exact kL
          · exact kM
          · exact kT
          · exact kN
        have NL : NonS rsL rs bg := hgL.non k0 kL
        have NM : NonS rsM rsL bg := hgM.non kL kM
        have NN : NonS rsN rsT bg := hgN.non kT kN
        have oko : OkOps o := ⟨by omega, fun q hq => ⟨names8_ok _ (onm q hq).1, (onm q hq).2.1, by have := (onm q hq).2.2; omega⟩, ond⟩
        have foC := bc _ _ npo4 (bb _ _ npo4 fo10)
        refine ⟨(by show 5 ≤ sizeLine; rw [sizeLine_eq]; decide), fun pl JD npl sD epl => ?_⟩
        have epl : JD pl = some (.lst ([(pr, rs), (pL, rsL), (pM, rsM), (pT, rsT), (pN, rsN)].map fun p => V.ref p.1)) := epl
        have foD := sD _ _ foC
        have fcD := sD _ _ fc
        have btd : But Hd JD p4 := by
          have b12 : But Hd J6 p4 := b1.trans (b2.trans (b3.trans (b4.trans (b5.trans b6))))
          have b13 : But Hd J9 p4 := fun q u nq e => b9 _ _ nq (b8 _ _ nq (s7 _ _ (b12 _ _ nq e)))
          have nT : Hd pT = none := by
            cases z : Hd pT with
            | none => rfl
            | some u => rw [b12 _ _ npT4 z] at npT; cases npT
          exact fun q u nq e => sD _ _ (bc _ _ nq (bb _ _ nq (x10 _ _ (fun z => by rw [z, nT] at e; cases e) (b13 _ _ nq e))))
        have PD : ∀ p ∈ [(pr, rs), (pL, rsL), (pM, rsM), (pT, rsT), (pN, rsN)], PlanR JD p.1 p.2 := fun p hp => (P5 p hp).same sD
        have NM0 : NonS rsM rs bg := NM.through (two_of kM.rows kL.rows kM.fine kL.fine (by omega) (by omega) kM.lt kL.lt) (two_of kL.rows k0.rows kL.fine k0.fine (by omega) (by omega) kL.lt k0.lt) NL
        have len5 : [(pr, rs), (pL, rsL), (pM, rsM), (pT, rsT), (pN, rsN)].length = 5 := rfl
        obtain ⟨PP, ePP⟩ : ∃ PP, PP = [(pr, rs), (pL, rsL), (pM, rsM), (pT, rsT), (pN, rsN)] := ⟨_, rfl⟩
        rw [← ePP] at epl PD K5 len5
        -- the bodies
        refine ⟨_, rfl, pl, rfl, ⟨_, SqL.of epl⟩, fun D nD => lc_it (walk_list (xs := PP.map fun p => V.ref p.1)) (fun i Hx => Same JD Hx ∧ ∃ L : List (Addr × Addr × List RowD), Hx D = some (.lst (L.map fun t => V.ref t.1)) ∧ L.map (·.2) = PP.take i ∧ ∀ t ∈ L, BodyD D CB CM Hx t.1 o t.2.2 bg) ⟨sameNew nD _, [], upd_same, rfl, fun t ht => nomatch ht⟩ (fun i Hx _ z => SqL.of (z.1 _ _ epl)) (fun i v Ha Hb hi z1 z2 => ?_) fun Hx z => ?_⟩
        · obtain ⟨rfl, hv⟩ := z2
          obtain ⟨sa, L, eD, lm, bods⟩ := z1
          rw [List.getElem?_map] at hv
          obtain ⟨p, ep, rfl⟩ := Option.map_eq_some_iff.mp hv
          have hp := List.mem_of_getElem? ep
          obtain ⟨xsp, hx, rowsp⟩ := (PD p hp).same sa
          have kp := K5 p hp
          have lL : L.length ≤ 5 := by
            have := congrArg List.length lm
            rw [List.length_map, List.length_take] at this
            omega
          have lop : 1 ≤ p.2.length := by have := kp.lt; omega
          refine ⟨rfl, _, rfl, _, rfl, _, rfl, po, p.1, xsp, p.2, o, bg, rfl, rfl, sa _ _ foD, .inl hx, rows_in rowsp, ⟨oko, lop, Nat.le_trans kp.hi (by decide), kp.rows, kp.lt⟩, fun bd Hc nb sB BN => ?_⟩
          have eDc := sB _ _ eD
          have kup : ∀ q u, q ≠ D → Hc q = some u → upd Hc D (.lst ((L.map fun t => V.ref t.1) ++ [.ref bd])) q = some u := fun q u nq e => by rw [upd_ne nq]; exact e
          refine ⟨_, eDc, by rw [List.length_map, sizeLine_eq]; omega, fun q u e => ?_, L ++ [(bd, p.1, p.2)], by rw [upd_same, List.map_append]; rfl, ?_, fun t ht => ?_⟩
          · rw [upd_ne (ne_of_none e nD)]
            exact sB _ _ (sa _ _ e)
          · rw [List.map_append, lm, List.take_succ, ep]
            rfl
          · rcases List.mem_append.mp ht with m | m
            · exact ((bods t m).off eD fun q u _ e => sB _ _ e).off eDc kup
            · rw [List.mem_singleton.mp m]
              exact (BN.d nb eD).off eDc kup
        · obtain ⟨sX, L, eD, lm, bods⟩ := z
          rw [List.length_map, List.take_length] at lm
          have lL : L.length = 5 := by
            have := congrArg List.length lm
            rw [List.length_map] at this
            omega
          have plL : (L.map fun t => V.ref t.2.1) = PP.map fun p => V.ref p.1 := by
            rw [← lm, List.map_map]
            rfl
          have B : Bods CB CM D pl o bg L Hx := ⟨eD, by rw [plL]; exact sX _ _ epl, fun t ht => ⟨(bods t ht).at, (PD t.2 (by rw [← lm]; exact List.mem_map_of_mem ht)).same sX⟩⟩
          have okk : ∀ t ∈ L, Ok1 o bg t.2.2 := fun t ht => K5 t.2 (by rw [← lm]; exact List.mem_map_of_mem ht)
          have bt : ∀ {Hy : Hp}, Same Hx Hy → But Hd Hy p4 := fun {Hy} sy q u nq e => sy _ _ (sX _ _ (btd _ _ nq e))
          have fend := sX _ _ fcD
          clear PD P5
          subst ePP
          obtain ⟨t0, t1, t2, t3, t4, rfl⟩ : ∃ t0 t1 t2 t3 t4, L = [t0, t1, t2, t3, t4] := by
            match L, lL with
            | [t0, t1, t2, t3, t4], _ => exact ⟨t0, t1, t2, t3, t4, rfl⟩
          have lm2 := lm
          simp only [List.map_cons, List.map_nil, List.cons.injEq, and_true] at lm2
          obtain ⟨q0, q1, q2, q3, q4⟩ := lm2
          have m0 : t0 ∈ [t0, t1, t2, t3, t4] := by simp
          have m1 : t1 ∈ [t0, t1, t2, t3, t4] := by simp
          have m2 : t2 ∈ [t0, t1, t2, t3, t4] := by simp
          have m3 : t3 ∈ [t0, t1, t2, t3, t4] := by simp
          have m4 : t4 ∈ [t0, t1, t2, t3, t4] := by simp
          have N10 : NonS t1.2.2 t0.2.2 bg := by rw [q0, q1]; exact NL
          have N21 : NonS t2.2.2 t1.2.2 bg := by rw [q2, q1]; exact NM
          have N43 : NonS t4.2.2 t3.2.2 bg := by rw [q4, q3]; exact NN
          have N20 : NonS t2.2.2 t0.2.2 bg := by rw [q2, q0]; exact NM0
          have pq := fun {Hy : Hp} (sy : Same Hx Hy) {x y : Addr × Addr × List RowD} (hx : x ∈ [t0, t1, t2, t3, t4]) (hy : y ∈ [t0, t1, t2, t3, t4]) => (B.same sy).pr2 ond few8 okk hx hy
          generalize eL : [t0, t1, t2, t3, t4] = L at B okk pq m0 m1 m2 m3 m4
          have i0 : (L.map fun t => V.ref t.1)[0]? = some (.ref t0.1) := by rw [← eL]; rfl
          have i1 : (L.map fun t => V.ref t.1)[1]? = some (.ref t1.1) := by rw [← eL]; rfl
          have i2 : (L.map fun t => V.ref t.1)[2]? = some (.ref t2.1) := by rw [← eL]; rfl
          have i3 : (L.map fun t => V.ref t.1)[3]? = some (.ref t3.1) := by rw [← eL]; rfl
          have i4 : (L.map fun t => V.ref t.1)[4]? = some (.ref t4.1) := by rw [← eL]; rfl
          have es := fun {Hy : Hp} (sy : Same Hx Hy) => SqL.of (K := K) ((B.same sy).esm)
          have r0 := Same.refl Hx
          refine ⟨_, rfl, D, _, _, _, rfl, rfl, es r0, atI_nat (j := 1) i1, _, rfl, D, _, _, _, rfl, rfl, es r0, atI_nat (j := 0) i0, t1.1, t0.1, o, o, t1.2.2, t0.2.2, bg, bg, rfl, (pq r0 m1 m0).lr, (pq r0 m1 m0).t12, (pq r0 m1 m0).m12, fun Y1 y1 _ => ?_, fun t v q H' s' lp tt => absurd lp.diff (N10 _)⟩
          refine ⟨rfl, _, rfl, ?_⟩
          refine iteF ?_
          refine ⟨_, rfl, D, _, _, _, rfl, rfl, es y1, atI_nat (j := 2) i2, _, rfl, D, _, _, _, rfl, rfl, es y1, atI_nat (j := 1) i1, t2.1, t1.1, o, o, t2.2.2, t1.2.2, bg, bg, rfl, (pq y1 m2 m1).lr, (pq y1 m2 m1).t12, (pq y1 m2 m1).m12, fun Y2 y2 _ => ?_, fun t v q H' s' lp tt => absurd lp.diff (N21 _)⟩
          refine ⟨rfl, _, rfl, ?_⟩
          refine iteF ?_
          have w2 := y1.trans y2
          refine ⟨_, rfl, D, _, _, _, rfl, rfl, es w2, atI_nat (j := 4) i4, _, rfl, D, _, _, _, rfl, rfl, es w2, atI_nat (j := 3) i3, t4.1, t3.1, o, o, t4.2.2, t3.2.2, bg, bg, rfl, (pq w2 m4 m3).lr, (pq w2 m4 m3).t12, (pq w2 m4 m3).m12, fun Y3 y3 _ => ?_, fun t v q H' s' lp tt => absurd lp.diff (N43 _)⟩
          refine ⟨rfl, _, rfl, ?_⟩
          refine iteF ?_
          have w3 := w2.trans y3
          refine ⟨_, rfl, D, _, _, _, rfl, rfl, es w3, atI_nat (j := 2) i2, _, rfl, D, _, _, _, rfl, rfl, es w3, atI_nat (j := 0) i0, t2.1, t0.1, o, o, t2.2.2, t0.2.2, bg, bg, rfl, (pq w3 m2 m0).lr, (pq w3 m2 m0).t12, (pq w3 m2 m0).m12, fun Y4 y4 _ => ?_, fun t v q H' s' lp tt => absurd lp.diff (N20 _)⟩
          refine ⟨rfl, _, rfl, ?_⟩
          refine iteF ?_
          have w4 := w3.trans y4
          have mem : ∀ {i : Nat} {x : V}, (L.map fun t => V.ref t.1)[i]? = some x → ∃ t, L[i]? = some t ∧ t ∈ L ∧ x = .ref t.1 ∧ (L.map fun t => V.ref t.2.1)[i]? = some (.ref t.2.1) := by
            intro i x h
            rw [List.getElem?_map] at h
            obtain ⟨t, et, rfl⟩ := Option.map_eq_some_iff.mp h
            exact ⟨t, et, List.mem_of_getElem? et, rfl, by rw [List.getElem?_map, et]; rfl⟩
          refine ⟨_, rfl, D, _, rfl, es w4, for_enumL (K := K) (a := D) (xs := L.map fun t => V.ref t.1) (fun i σ H' => ∃ v3 v11 v12 v13 v14 v15 v16 v17 v18 v19 : Option V, σ = [some (.ref a), some (.int c), some (.ref p4), v3, some (.ref po), some (.ref pr), some (.int (bg : Int)), some (.ref pL), some (.ref pT), some (.ref pl), some (.ref D), v11, v12, v13, v14, v15, v16, v17, v18, v19] ∧ Same Hx H') ⟨_, _, _, _, _, _, _, _, _, _, rfl, w4⟩ (fun i σ H' _ z => by obtain ⟨_, _, _, _, _, _, _, _, _, _, _, s⟩ := z; exact es s) ?_ ?_⟩
          · rintro ia xa σ Ha Ta Hb hxa ⟨v3, v11, v12, v13, v14, v15, v16, v17, v18, v19, rfl, sa⟩ nTa sTa eTa
            obtain ⟨ta, eta, mta, rfl, pta⟩ := mem hxa
            have wa := sa.trans sTa
            refine ⟨Ta, _, rfl, .inl (.inl eTa), rfl, _, _, rfl, _, _, rfl, rfl, ?_⟩
            refine ⟨_, rfl, D, _, rfl, es wa, for_enumL (K := K) (a := D) (xs := L.map fun t => V.ref t.1) (fun i σ H' => ∃ v3 v11 v14 v15 v16 v17 v18 v19 : Option V, σ = [some (.ref a), some (.int c), some (.ref p4), v3, some (.ref po), some (.ref pr), some (.int (bg : Int)), some (.ref pL), some (.ref pT), some (.ref pl), some (.ref D), v11, some (.int (ia : Int)), some (.ref ta.1), v14, v15, v16, v17, v18, v19] ∧ Same Hx H') ⟨_, _, _, _, _, _, _, _, rfl, wa⟩ (fun i σ H' _ z => by obtain ⟨_, _, _, _, _, _, _, _, _, s⟩ := z; exact es s) ?_ ?_⟩
            · rintro ib xb2 σ Hc2 Tb Hd2 hxb ⟨v3, v11, v14, v15, v16, v17, v18, v19, rfl, sb⟩ nTb sTb eTb
              obtain ⟨tb, etb, mtb, rfl, ptb⟩ := mem hxb
              have wb := sb.trans sTb
              refine ⟨Tb, _, rfl, .inl (.inl eTb), rfl, _, _, rfl, _, _, rfl, rfl, ?_⟩
              have Bb := B.same wb
              obtain ⟨xs1, h1, y1⟩ := (Bb.one ta mta).2
              obtain ⟨xs2, h2, y2⟩ := (Bb.one tb mtb).2
              refine ⟨pl, ta.1, tb.1, ta.2.1, tb.2.1, _, xs1, xs2, ia, ib, o, ta.2.2, tb.2.2, bg, _, _, _, _, _, _, _, _, _, _, _, _, _, _, rfl, Bb.epl, pta, ptb, h1, h2, y1, y2, pq wb mta mtb, pq wb mtb mta, fun vt vd wh K0 k0' fx => ?_⟩
              refine ⟨ta.1, tb.1, o, ta.2.2, tb.2.2, bg, vt, vd, wh, _, _, _, _, _, _, _, _, _, _, _, _, _, _, _, rfl, fx, fun K1 k1 => ?_⟩
              refine ⟨ta.1, tb.1, o, ta.2.2, tb.2.2, bg, vt, vd, wh, _, _, _, _, _, _, _, _, _, _, _, _, _, _, _, rfl, fx.same k1, fun K2 k2 => ?_⟩
              refine ⟨ta.1, tb.1, o, ta.2.2, tb.2.2, bg, vt, vd, wh, _, _, _, _, _, _, _, _, _, _, _, _, _, _, _, rfl, (fx.same k1).same k2, fun K3 k3 => ?_⟩
              have wc : Same Hx K3 := wb.trans (k0'.trans (k1.trans (k2.trans k3)))
              have toldx : (vt = .non ∧ NonS ta.2.2 tb.2.2 bg) ∨ ∃ t, vt = .ref t := fx.told.imp id fun ⟨t, _, _, e, _⟩ => ⟨t, e⟩
              refine ⟨_, rfl, D, rfl, ⟨_, es wc⟩, for_list (K := K) (a := D) (xs := L.map fun t => V.ref t.1) (fun i σ H' => ∃ v3 v11 v19 : Option V, σ = [some (.ref a), some (.int c), some (.ref p4), v3, some (.ref po), some (.ref pr), some (.int (bg : Int)), some (.ref pL), some (.ref pT), some (.ref pl), some (.ref D), v11, some (.int (ia : Int)), some (.ref ta.1), some (.int (ib : Int)), some (.ref tb.1), some vt, some vd, some (.bl wh), v19] ∧ Same Hx H') ⟨_, _, _, rfl, wc⟩ (fun i σ H' _ z => by obtain ⟨_, _, _, _, s⟩ := z; exact es s) ?_ ?_⟩
              · rintro ic xc2 σ He hxc ⟨v3, v11, v19, rfl, sg⟩
                obtain ⟨tc, etc, mtc, rfl, _⟩ := mem hxc
                refine ⟨ta.1, tb.1, tc.1, o, ta.2.2, tb.2.2, tc.2.2, bg, vt, _, _, _, _, _, _, _, _, _, _, _, _, _, _, _, _, rfl, toldx, (pq sg mta mtb).t12, pq sg mtb mtc, pq sg mta mtc, fun K4 k4 => ?_⟩
                exact ⟨_, _, _, rfl, sg.trans k4⟩
              · rintro σ He ⟨v3, v11, v19, rfl, sg⟩
                exact ⟨_, _, _, _, _, _, _, _, rfl, sg⟩
            · rintro σ He ⟨v3, v11, v14, v15, v16, v17, v18, v19, rfl, sg⟩
              exact ⟨_, _, _, _, _, _, _, _, _, _, rfl, sg⟩
          · rintro σ He ⟨v3, v11, v12, v13, v14, v15, v16, v17, v18, v19, rfl, sg⟩
            exact ⟨_, _, _, _, _, _, _, _, _, _, _, _, _, _, _, _, _, rfl, But.same sd (bt sg) n4, _, _, _, sg _ _ fend⟩
      · rintro σ Hd ⟨v3, v4, v5, v6, v7, v8, v9, v10, v11, v12, v13, v14, v15, v16, v17, v18, v19, rfl, sd, _⟩
        exact ⟨_, _, _, _, _, _, _, _, _, _, _, _, _, _, _, _, _, _, _, rfl, sc.trans sd⟩
    · rintro σ Hc ⟨v1, v2, v3, v4, v5, v6, v7, v8, v9, v10, v11, v12, v13, v14, v15, v16, v17, v18, v19, rfl, sc⟩
      exact k _
end
end Mine

set_option maxRecDepth 100000
set_option maxHeartbeats 4000000
namespace Mine
open PySem L2
theorem all_mk {l : PySem.W.OpenLaw} {w : World} {K : PySem.W.Frag} {h : Heap} {mg : Str → Option Value} {fa a_is_integer a_is_within a_is_index a_is_row a_is_name a_is_text_in a_are_counts a_are_operations a_in_order a_word_of a_are_nexts a_joined a_stops_of a_rest_of a_rests_from a_nexts_of a_shows_of a_firsts_of a_lines_read a_is_line a_line_of a_begin_of a_both_shown a_pairs_behind a_parting_place a_are_led_together a_leader_of a_straying_place a_told_of a_parted a_walk_of a_within a_law_source_of a_law_next a_law_one a_law_mixed a_law_operations a_law_rows a_law_landed a_law_shows a_law_steps a_law_hung a_law_due a_law CM fM CW fW m_take CB fB DK : Addr} {fd_is_integer fd_is_within fd_is_index fd_is_row fd_is_name fd_is_text_in fd_are_counts fd_are_operations fd_in_order fd_word_of fd_are_nexts fd_joined fd_stops_of fd_rest_of fd_rests_from fd_nexts_of fd_shows_of fd_firsts_of fd_lines_read fd_is_line fd_line_of fd_begin_of fd_both_shown fd_pairs_behind fd_parting_place fd_are_led_together fd_leader_of fd_straying_place fd_told_of fd_parted fd_walk_of fd_within fd_law_source_of fd_law_next fd_law_one fd_law_mixed fd_law_operations fd_law_rows fd_law_landed fd_law_shows fd_law_steps fd_law_hung fd_law_due fd_law fdM fdW fdm_take fdB : FuncData} {tD tL t1 t2 t3 t4 : Tok} (X : K.In h) (G : h.Ns mainGlobals mg) (hfa : mg "law" = some (.ref fa))
    (g_is_integer : PySem.W.nsIn K mainGlobals "is_integer" = some (some (.ref a_is_integer)))
    (F_is_integer : Fun K "is_integer" "is_integer" s_is_integer a_is_integer fd_is_integer)
    (g_is_within : PySem.W.nsIn K mainGlobals "is_within" = some (some (.ref a_is_within)))
    (F_is_within : Fun K "is_within" "is_within" s_is_within a_is_within fd_is_within)
    (g_is_index : PySem.W.nsIn K mainGlobals "is_index" = some (some (.ref a_is_index)))
    (F_is_index : Fun K "is_index" "is_index" s_is_index a_is_index fd_is_index)
    (g_is_row : PySem.W.nsIn K mainGlobals "is_row" = some (some (.ref a_is_row)))
    (F_is_row : Fun K "is_row" "is_row" s_is_row a_is_row fd_is_row)
    (g_is_name : PySem.W.nsIn K mainGlobals "is_name" = some (some (.ref a_is_name)))
    (F_is_name : Fun K "is_name" "is_name" s_is_name a_is_name fd_is_name)
    (g_is_text_in : PySem.W.nsIn K mainGlobals "is_text_in" = some (some (.ref a_is_text_in)))
    (F_is_text_in : Fun K "is_text_in" "is_text_in" s_is_text_in a_is_text_in fd_is_text_in)
    (g_are_counts : PySem.W.nsIn K mainGlobals "are_counts" = some (some (.ref a_are_counts)))
    (F_are_counts : Fun K "are_counts" "are_counts" s_are_counts a_are_counts fd_are_counts)
    (g_are_operations : PySem.W.nsIn K mainGlobals "are_operations" = some (some (.ref a_are_operations)))
    (F_are_operations : Fun K "are_operations" "are_operations" s_are_operations a_are_operations fd_are_operations)
    (g_in_order : PySem.W.nsIn K mainGlobals "in_order" = some (some (.ref a_in_order)))
    (F_in_order : Fun K "in_order" "in_order" s_in_order a_in_order fd_in_order)
    (g_word_of : PySem.W.nsIn K mainGlobals "word_of" = some (some (.ref a_word_of)))
    (F_word_of : Fun K "word_of" "word_of" s_word_of a_word_of fd_word_of)
    (g_are_nexts : PySem.W.nsIn K mainGlobals "are_nexts" = some (some (.ref a_are_nexts)))
    (F_are_nexts : Fun K "are_nexts" "are_nexts" s_are_nexts a_are_nexts fd_are_nexts)
    (g_joined : PySem.W.nsIn K mainGlobals "joined" = some (some (.ref a_joined)))
    (F_joined : Fun K "joined" "joined" s_joined a_joined fd_joined)
    (g_stops_of : PySem.W.nsIn K mainGlobals "stops_of" = some (some (.ref a_stops_of)))
    (F_stops_of : Fun K "stops_of" "stops_of" s_stops_of a_stops_of fd_stops_of)
    (g_rest_of : PySem.W.nsIn K mainGlobals "rest_of" = some (some (.ref a_rest_of)))
    (F_rest_of : Fun K "rest_of" "rest_of" s_rest_of a_rest_of fd_rest_of)
    (g_rests_from : PySem.W.nsIn K mainGlobals "rests_from" = some (some (.ref a_rests_from)))
    (F_rests_from : Fun K "rests_from" "rests_from" s_rests_from a_rests_from fd_rests_from)
    (g_nexts_of : PySem.W.nsIn K mainGlobals "nexts_of" = some (some (.ref a_nexts_of)))
    (F_nexts_of : Fun K "nexts_of" "nexts_of" s_nexts_of a_nexts_of fd_nexts_of)
    (g_shows_of : PySem.W.nsIn K mainGlobals "shows_of" = some (some (.ref a_shows_of)))
    (F_shows_of : Fun K "shows_of" "shows_of" s_shows_of a_shows_of fd_shows_of)
    (g_firsts_of : PySem.W.nsIn K mainGlobals "firsts_of" = some (some (.ref a_firsts_of)))
    (F_firsts_of : Fun K "firsts_of" "firsts_of" s_firsts_of a_firsts_of fd_firsts_of)
    (g_lines_read : PySem.W.nsIn K mainGlobals "lines_read" = some (some (.ref a_lines_read)))
    (F_lines_read : Fun K "lines_read" "lines_read" s_lines_read a_lines_read fd_lines_read)
    (g_is_line : PySem.W.nsIn K mainGlobals "is_line" = some (some (.ref a_is_line)))
    (F_is_line : Fun K "is_line" "is_line" s_is_line a_is_line fd_is_line)
    (g_line_of : PySem.W.nsIn K mainGlobals "line_of" = some (some (.ref a_line_of)))
    (F_line_of : Fun K "line_of" "line_of" s_line_of a_line_of fd_line_of)
    (g_begin_of : PySem.W.nsIn K mainGlobals "begin_of" = some (some (.ref a_begin_of)))
    (F_begin_of : Fun K "begin_of" "begin_of" s_begin_of a_begin_of fd_begin_of)
    (g_both_shown : PySem.W.nsIn K mainGlobals "both_shown" = some (some (.ref a_both_shown)))
    (F_both_shown : Fun K "both_shown" "both_shown" s_both_shown a_both_shown fd_both_shown)
    (g_pairs_behind : PySem.W.nsIn K mainGlobals "pairs_behind" = some (some (.ref a_pairs_behind)))
    (F_pairs_behind : Fun K "pairs_behind" "pairs_behind" s_pairs_behind a_pairs_behind fd_pairs_behind)
    (g_parting_place : PySem.W.nsIn K mainGlobals "parting_place" = some (some (.ref a_parting_place)))
    (F_parting_place : Fun K "parting_place" "parting_place" s_parting_place a_parting_place fd_parting_place)
    (g_are_led_together : PySem.W.nsIn K mainGlobals "are_led_together" = some (some (.ref a_are_led_together)))
    (F_are_led_together : Fun K "are_led_together" "are_led_together" s_are_led_together a_are_led_together fd_are_led_together)
    (g_leader_of : PySem.W.nsIn K mainGlobals "leader_of" = some (some (.ref a_leader_of)))
    (F_leader_of : Fun K "leader_of" "leader_of" s_leader_of a_leader_of fd_leader_of)
    (g_straying_place : PySem.W.nsIn K mainGlobals "straying_place" = some (some (.ref a_straying_place)))
    (F_straying_place : Fun K "straying_place" "straying_place" s_straying_place a_straying_place fd_straying_place)
    (g_told_of : PySem.W.nsIn K mainGlobals "told_of" = some (some (.ref a_told_of)))
    (F_told_of : Fun K "told_of" "told_of" s_told_of a_told_of fd_told_of)
    (g_parted : PySem.W.nsIn K mainGlobals "parted" = some (some (.ref a_parted)))
    (F_parted : Fun K "parted" "parted" s_parted a_parted fd_parted)
    (g_walk_of : PySem.W.nsIn K mainGlobals "walk_of" = some (some (.ref a_walk_of)))
    (F_walk_of : Fun K "walk_of" "walk_of" s_walk_of a_walk_of fd_walk_of)
    (g_within : PySem.W.nsIn K mainGlobals "within" = some (some (.ref a_within)))
    (F_within : Fun K "within" "within" s_within a_within fd_within)
    (g_law_source_of : PySem.W.nsIn K mainGlobals "_law_source_of" = some (some (.ref a_law_source_of)))
    (F_law_source_of : Fun K "_law_source_of" "_law_source_of" sSrc a_law_source_of fd_law_source_of)
    (g_law_next : PySem.W.nsIn K mainGlobals "_law_next" = some (some (.ref a_law_next)))
    (F_law_next : Fun K "_law_next" "_law_next" sNext a_law_next fd_law_next)
    (g_law_one : PySem.W.nsIn K mainGlobals "_law_one" = some (some (.ref a_law_one)))
    (F_law_one : Fun K "_law_one" "_law_one" sOne a_law_one fd_law_one)
    (g_law_mixed : PySem.W.nsIn K mainGlobals "_law_mixed" = some (some (.ref a_law_mixed)))
    (F_law_mixed : Fun K "_law_mixed" "_law_mixed" s_mixed a_law_mixed fd_law_mixed)
    (g_law_operations : PySem.W.nsIn K mainGlobals "_law_operations" = some (some (.ref a_law_operations)))
    (F_law_operations : Fun K "_law_operations" "_law_operations" s_ops a_law_operations fd_law_operations)
    (g_law_rows : PySem.W.nsIn K mainGlobals "_law_rows" = some (some (.ref a_law_rows)))
    (F_law_rows : Fun K "_law_rows" "_law_rows" s_rows a_law_rows fd_law_rows)
    (g_law_landed : PySem.W.nsIn K mainGlobals "_law_landed" = some (some (.ref a_law_landed)))
    (F_law_landed : Fun K "_law_landed" "_law_landed" s_landed a_law_landed fd_law_landed)
    (g_law_shows : PySem.W.nsIn K mainGlobals "_law_shows" = some (some (.ref a_law_shows)))
    (F_law_shows : Fun K "_law_shows" "_law_shows" s_showsL a_law_shows fd_law_shows)
    (g_law_steps : PySem.W.nsIn K mainGlobals "_law_steps" = some (some (.ref a_law_steps)))
    (F_law_steps : Fun K "_law_steps" "_law_steps" s_stepsL a_law_steps fd_law_steps)
    (g_law_hung : PySem.W.nsIn K mainGlobals "_law_hung" = some (some (.ref a_law_hung)))
    (F_law_hung : Fun K "_law_hung" "_law_hung" s_hung a_law_hung fd_law_hung)
    (g_law_due : PySem.W.nsIn K mainGlobals "_law_due" = some (some (.ref a_law_due)))
    (F_law_due : Fun K "_law_due" "_law_due" s_due a_law_due fd_law_due)
    (g_law : PySem.W.nsIn K mainGlobals "law" = some (some (.ref a_law)))
    (F_law : Fun K "law" "law" s_law a_law fd_law)
    (gc_Machine : PySem.W.nsIn K mainGlobals "Machine" = some (some (.ref CM)))
    (clMachine : Cls K CM)
    (mkMachine : PySem.W.makesIn K CM = true)
    (nMachine_counts : NoAttr K CM "counts")
    (nMachine_lines : NoAttr K CM "lines")
    (nMachine_begin : NoAttr K CM "begin")
    (nMachine_stops : NoAttr K CM "stops")
    (nMachine_asks : NoAttr K CM "asks")
    (nMachine_endings : NoAttr K CM "endings")
    (nMachine_endless : NoAttr K CM "endless")
    (kpMachine : PySem.W.keepIn K (.ref CM) = true)
    (inMachine : PySem.W.findIn K (.ref CM) "__init__" = some (some (.ref fM)))
    (fnMachine : PySem.W.isFn K (.ref fM) = true)
    (FIMachine : Fun K "__init__" "Machine.__init__" s_mach fM fdM)
    (gc_Walk : PySem.W.nsIn K mainGlobals "Walk" = some (some (.ref CW)))
    (clWalk : Cls K CW)
    (mkWalk : PySem.W.makesIn K CW = true)
    (nWalk_one : NoAttr K CW "one")
    (nWalk_other : NoAttr K CW "other")
    (nWalk_met : NoAttr K CW "met")
    (nWalk_origins : NoAttr K CW "origins")
    (kpWalk : PySem.W.keepIn K (.ref CW) = true)
    (inWalk : PySem.W.findIn K (.ref CW) "__init__" = some (some (.ref fW)))
    (fnWalk : PySem.W.isFn K (.ref fW) = true)
    (FIWalk : Fun K "__init__" "Walk.__init__" s_walk_init fW fdW)
    (at_take : PySem.W.findIn K (.ref CW) "take" = some (some (.ref m_take)))
    (fn_take : PySem.W.isFn K (.ref m_take) = true)
    (FM_take : Fun K "take" "Walk.take" s_walk_take m_take fdm_take)
    (gc_Body : PySem.W.nsIn K mainGlobals "Body" = some (some (.ref CB)))
    (clBody : Cls K CB)
    (mkBody : PySem.W.makesIn K CB = true)
    (nBody_machine : NoAttr K CB "machine")
    (kpBody : PySem.W.keepIn K (.ref CB) = true)
    (inBody : PySem.W.findIn K (.ref CB) "__init__" = some (some (.ref fB)))
    (fnBody : PySem.W.isFn K (.ref fB) = true)
    (FIBody : ∃ (oc : Value) (od : Option Addr) (doc pm : Value) (an : Option Addr) (cdv ct : Value) (osl : Array (Option Value)), fdB = PySem.W.fnOf "__init__" "Body.__init__" (defArgs s_body) (defBody s_body) (defScope s_body) .none (.ref DK) doc pm an cdv ct ∧ K.lookup fB = some ⟨oc, od, .func fdB, osl⟩ ∧ PySem.W.codeIn K cdv "Body.__init__" = true)
    (kfBody : PySem.W.keepIn K (.ref fB) = true)
    (nsD : PySem.W.nsIn K DK "start" = some (some (.int 0 tD)))
    (z_int : PySem.W.nsIn K mainGlobals "int" = some none)
    (z_isinstance : PySem.W.nsIn K mainGlobals "isinstance" = some none)
    (z_bool : PySem.W.nsIn K mainGlobals "bool" = some none)
    (z_str : PySem.W.nsIn K mainGlobals "str" = some none)
    (z_list : PySem.W.nsIn K mainGlobals "list" = some none)
    (z_tuple : PySem.W.nsIn K mainGlobals "tuple" = some none)
    (z_dict : PySem.W.nsIn K mainGlobals "dict" = some none)
    (z_len : PySem.W.nsIn K mainGlobals "len" = some none)
    (z_all : PySem.W.nsIn K mainGlobals "all" = some none)
    (z_range : PySem.W.nsIn K mainGlobals "range" = some none)
    (z_sorted : PySem.W.nsIn K mainGlobals "sorted" = some none)
    (z_min : PySem.W.nsIn K mainGlobals "min" = some none)
    (z_max : PySem.W.nsIn K mainGlobals "max" = some none)
    (z_enumerate : PySem.W.nsIn K mainGlobals "enumerate" = some none)
    (z_zip : PySem.W.nsIn K mainGlobals "zip" = some none)
    (c_LETTERS : PySem.W.nsIn K mainGlobals "LETTERS" = some (some (.str lettersS tL)))
    (c_LONGEST_NAME : PySem.W.nsIn K mainGlobals "LONGEST_NAME" = some (some (.int 8 t1)))
    (c_MOST_OPERATIONS : PySem.W.nsIn K mainGlobals "MOST_OPERATIONS" = some (some (.int 8 t2)))
    (c_MOST_ANSWERS : PySem.W.nsIn K mainGlobals "MOST_ANSWERS" = some (some (.int 6 t3)))
    (c_MOST_ROWS : PySem.W.nsIn K mainGlobals "MOST_ROWS" = some (some (.int 400 t4)))
    : LamX.LawAtS l w K CX0 9 63 "_law_script" mg fa h := by
  have e := hfa.symm.trans (PySem.W.mg_of X G g_law)
  cases e
  obtain ⟨oc, od, doc, pm, an, cdv, ct, osl, eB, lB, cB⟩ := FIBody
  have FB1 : Fun K "__init__" "Body.__init__" s_body fB fdB := ⟨⟨oc, od, .ref DK, doc, pm, an, cdv, ct, osl, eB, lB, cB⟩, kfBody⟩
  have FDB : FunD K "__init__" "Body.__init__" (defArgs s_body) (defBody s_body) (defScope s_body) [] [("start", V.int 0)] fB fdB := ⟨⟨oc, od, .none, .ref DK, doc, pm, an, cdv, ct, osl, eB, lB, cB, .inl ⟨rfl, rfl⟩, .inr ⟨DK, rfl, fun q hq => by
    rw [List.mem_singleton.mp hq]
    exact ⟨_, nsD, ⟨_, rfl⟩⟩⟩⟩, kfBody⟩
  obtain ⟨ds, hds, bB0⟩ := FDB.binds0 (ps := PB) 3 (by simp) rfl fun D doc pm an cdv ct us ks l1 l2 => match us, ks, l1, l2 with | [_, _, _], [_], _, _ => ⟨_, _, _, _, _, _, rfl, rfl, rfl⟩
  have kB : KBn K fdB PB (2 + 1) KS (fun us ws => us ++ ws) (fun vs zs => vs ++ zs) := bindB fun a b c d => by
    rw [eB]
    rfl
  have T : TxtF K mg a_is_integer a_is_within := ⟨(PySem.W.mg_none_of X G z_isinstance), (PySem.W.mg_none_of X G z_int), (PySem.W.mg_none_of X G z_bool), (PySem.W.mg_none_of X G z_str), (PySem.W.mg_none_of X G z_list), (PySem.W.mg_none_of X G z_tuple), (PySem.W.mg_none_of X G z_dict), (PySem.W.mg_none_of X G z_len), (PySem.W.mg_none_of X G z_all), ⟨_, (PySem.W.mg_of X G c_LETTERS)⟩, ⟨_, (PySem.W.mg_of X G c_LONGEST_NAME)⟩, (PySem.W.mg_of X G g_is_integer), F_is_integer.kp, (PySem.W.mg_of X G g_is_within), F_is_within.kp⟩
  have TG : TxtG K mg a_is_row a_is_index a_is_name a_is_text_in a_are_counts a_word_of a_are_nexts a_is_line a_line_of a_are_operations := ⟨⟨_, (PySem.W.mg_of X G c_MOST_OPERATIONS)⟩, ⟨_, (PySem.W.mg_of X G c_MOST_ANSWERS)⟩, (PySem.W.mg_of X G g_is_row), F_is_row.kp, (PySem.W.mg_of X G g_is_index), F_is_index.kp, (PySem.W.mg_of X G g_is_name), F_is_name.kp, (PySem.W.mg_of X G g_is_text_in), F_is_text_in.kp, (PySem.W.mg_of X G g_are_counts), F_are_counts.kp, (PySem.W.mg_of X G g_word_of), F_word_of.kp, (PySem.W.mg_of X G g_are_nexts), F_are_nexts.kp, (PySem.W.mg_of X G g_is_line), F_is_line.kp, (PySem.W.mg_of X G g_line_of), F_line_of.kp, (PySem.W.mg_of X G g_are_operations), F_are_operations.kp⟩
  have TD : TxtD K mg a_law_next := ⟨(PySem.W.mg_none_of X G z_int), (PySem.W.mg_none_of X G z_len), (PySem.W.mg_of X G g_law_next), F_law_next.kp⟩
  have TM : MachC K CM := ⟨clMachine, nMachine_counts, nMachine_lines, nMachine_begin, nMachine_stops, nMachine_asks, nMachine_endings, nMachine_endless⟩
  have TB : BodyC K CB := ⟨clBody, nBody_machine⟩
  have TW : WalkC K CW := ⟨clWalk, nWalk_one, nWalk_other, nWalk_met, nWalk_origins⟩
  refine ⟨fd_law, [], spLaw K, fun p hp => absurd hp List.not_mem_nil, fun p hp => absurd hp List.not_mem_nil, fun p hp => absurd hp List.not_mem_nil, fun s v => ?_, fun H a ns hl _ hH hS => ⟨a, ns, rfl, hS, hl, fun _ => rfl⟩, fun base _ _ tb => ?_⟩
  · obtain ⟨_, _, _, _, _, _, _, _, _, rfl, _, _⟩ := F_law.ex
    exact .of_eq rfl
  · skip
    have G_is_integer : FnOk l.prog w K mg base CX0 1 a_is_integer fd_is_integer ["thing"] (spInt K) := ok_is_integer F_is_integer T
    have G_is_index : FnOk l.prog w K mg base CX0 3 a_is_index fd_is_index ["thing", "many"] (spIndex K) := ok_is_index F_is_index T F_is_integer (F_is_integer.binds (ps := ["thing"]) fun _ _ _ _ _ _ us hl => match us, hl with | [_], _ => rfl) F_is_within (F_is_within.binds (ps := ["thing", "low", "high"]) fun _ _ _ _ _ _ us hl => match us, hl with | [_, _, _], _ => rfl)
    have G_is_row : FnOk l.prog w K mg base CX0 1 a_is_row fd_is_row ["thing"] (spIsRow K) := ok_is_row F_is_row T
    have G_is_name : FnOk l.prog w K mg base CX0 1 a_is_name fd_is_name ["thing"] (spName K) := ok_is_name F_is_name T
    have G_is_text_in : FnOk l.prog w K mg base CX0 1 a_is_text_in fd_is_text_in ["thing", "table"] (spTextIn K) := ok_is_text_in F_is_text_in T
    have G_are_counts : FnOk l.prog w K mg base CX0 3 a_are_counts fd_are_counts ["thing", "most", "low", "high"] spCounts := ok_are_counts F_are_counts T TG F_is_name (F_is_name.binds (ps := ["thing"]) fun _ _ _ _ _ _ us hl => match us, hl with | [_], _ => rfl) F_is_integer (F_is_integer.binds (ps := ["thing"]) fun _ _ _ _ _ _ us hl => match us, hl with | [_], _ => rfl) F_is_within (F_is_within.binds (ps := ["thing", "low", "high"]) fun _ _ _ _ _ _ us hl => match us, hl with | [_, _, _], _ => rfl)
    have G_are_operations : FnOk l.prog w K mg base CX0 4 a_are_operations fd_are_operations ["thing"] spOps := ok_are_operations F_are_operations TG G_are_counts (F_are_counts.binds (ps := ["thing", "most", "low", "high"]) fun _ _ _ _ _ _ us hl => match us, hl with | [_, _, _, _], _ => rfl)
    have G_word_of : FnOk l.prog w K mg base CX0 2 a_word_of fd_word_of ["row"] spWord := ok_word_of F_word_of T TG G_is_row (F_is_row.binds (ps := ["thing"]) fun _ _ _ _ _ _ us hl => match us, hl with | [_], _ => rfl)
    have G_are_nexts : FnOk l.prog w K mg base CX0 4 a_are_nexts fd_are_nexts ["nexts", "operation", "counts", "many"] spNexts := ok_are_nexts F_are_nexts T TG G_is_row (F_is_row.binds (ps := ["thing"]) fun _ _ _ _ _ _ us hl => match us, hl with | [_], _ => rfl) G_is_index (F_is_index.binds (ps := ["thing", "many"]) fun _ _ _ _ _ _ us hl => match us, hl with | [_, _], _ => rfl)
    have G_is_line : FnOk l.prog w K mg base CX0 5 a_is_line fd_is_line ["row", "counts", "many"] spIsLine := ok_is_line F_is_line T TG G_word_of (F_word_of.binds (ps := ["row"]) fun _ _ _ _ _ _ us hl => match us, hl with | [_], _ => rfl) G_is_text_in (F_is_text_in.binds (ps := ["thing", "table"]) fun _ _ _ _ _ _ us hl => match us, hl with | [_, _], _ => rfl) G_are_nexts (F_are_nexts.binds (ps := ["nexts", "operation", "counts", "many"]) fun _ _ _ _ _ _ us hl => match us, hl with | [_, _, _, _], _ => rfl) G_is_name (F_is_name.binds (ps := ["thing"]) fun _ _ _ _ _ _ us hl => match us, hl with | [_], _ => rfl) G_is_index (F_is_index.binds (ps := ["thing", "many"]) fun _ _ _ _ _ _ us hl => match us, hl with | [_, _], _ => rfl)
    have G_line_of : FnOk l.prog w K mg base CX0 1 a_line_of fd_line_of ["row"] spLineOf := ok_line_of F_line_of T
    have G_rest_of : FnOk l.prog w K mg base CX0 1 a_rest_of fd_rest_of ["trail", "at"] (spRest K) := ok_rest_of F_rest_of (PySem.W.mg_none_of X G z_min)
    have G_stops_of : FnOk l.prog w K mg base CX0 2 a_stops_of fd_stops_of ["lines"] spStops := ok_stops_of F_stops_of T (PySem.W.mg_none_of X G z_range) G_rest_of (F_rest_of.binds (ps := ["trail", "at"]) fun _ _ _ _ _ _ us hl => match us, hl with | [_, _], _ => rfl) (PySem.W.mg_of X G g_rest_of) F_rest_of.kp
    have G_nexts_of : FnOk l.prog w K mg base CX0 1 a_nexts_of fd_nexts_of ["line"] spNextsOf := ok_nexts_of F_nexts_of
    have G_rests_from : FnOk l.prog w K mg base CX0 2 a_rests_from fd_rests_from ["lines", "stops", "begin"] spRests := ok_rests_from F_rests_from T G_nexts_of (F_nexts_of.binds (ps := ["line"]) fun _ _ _ _ _ _ us hl => match us, hl with | [_], _ => rfl) (PySem.W.mg_of X G g_nexts_of) F_nexts_of.kp
    have G_shows_of : FnOk l.prog w K mg base CX0 1 a_shows_of fd_shows_of ["line"] spShows := ok_shows_of F_shows_of
    have G_in_order : FnOk l.prog w K mg base CX0 1 a_in_order fd_in_order ["table"] spOrder := ok_in_order F_in_order (PySem.W.mg_none_of X G z_sorted)
    have G_firsts_of : FnOk l.prog w K mg base CX0 1 a_firsts_of fd_firsts_of ["lines", "word"] spFirsts := ok_firsts_of F_firsts_of (PySem.W.mg_none_of X G z_sorted)
    have G_mach : FnOk l.prog w K mg base CX0 3 fM fdM ["self", "counts", "lines", "begin"] (spMach CM) := ok_mach FIMachine TM G_rests_from (F_rests_from.binds (ps := ["lines", "stops", "begin"]) fun _ _ _ _ _ _ us hl => match us, hl with | [_, _, _], _ => rfl) (PySem.W.mg_of X G g_rests_from) F_rests_from.kp G_stops_of (F_stops_of.binds (ps := ["lines"]) fun _ _ _ _ _ _ us hl => match us, hl with | [_], _ => rfl) (PySem.W.mg_of X G g_stops_of) F_stops_of.kp G_firsts_of (F_firsts_of.binds (ps := ["lines", "word"]) fun _ _ _ _ _ _ us hl => match us, hl with | [_, _], _ => rfl) (PySem.W.mg_of X G g_firsts_of) F_firsts_of.kp
    have MM : Mk K CM fM := ⟨mkMachine, inMachine, fnMachine, kpMachine⟩
    have G_lines_read : FnOk l.prog w K mg base CX0 6 a_lines_read fd_lines_read ["rows", "counts"] spRead := ok_lines_read F_lines_read T TG (PySem.W.mg_none_of X G z_enumerate) (PySem.W.mg_of X G c_MOST_ROWS) G_is_row (F_is_row.binds (ps := ["thing"]) fun _ _ _ _ _ _ us hl => match us, hl with | [_], _ => rfl) G_is_line (F_is_line.binds (ps := ["row", "counts", "many"]) fun _ _ _ _ _ _ us hl => match us, hl with | [_, _, _], _ => rfl) G_line_of (F_line_of.binds (ps := ["row"]) fun _ _ _ _ _ _ us hl => match us, hl with | [_], _ => rfl)
    have MB : Mk K CB fB := ⟨mkBody, inBody, fnBody, kpBody⟩
    have GB : FnOk l.prog w K mg base CX0 7 fB fdB PB (spBody CB CM) := ok_body FB1 T TG TB G_are_operations (F_are_operations.binds (ps := ["thing"]) fun _ _ _ _ _ _ us hl => match us, hl with | [_], _ => rfl) G_lines_read (F_lines_read.binds (ps := ["rows", "counts"]) fun _ _ _ _ _ _ us hl => match us, hl with | [_, _], _ => rfl) (PySem.W.mg_of X G g_lines_read) F_lines_read.kp G_is_index (F_is_index.binds (ps := ["thing", "many"]) fun _ _ _ _ _ _ us hl => match us, hl with | [_, _], _ => rfl) G_in_order (F_in_order.binds (ps := ["table"]) fun _ _ _ _ _ _ us hl => match us, hl with | [_], _ => rfl) (PySem.W.mg_of X G g_in_order) F_in_order.kp MM G_mach (FIMachine.binds (ps := ["self", "counts", "lines", "begin"]) fun _ _ _ _ _ _ us hl => match us, hl with | [_, _, _, _], _ => rfl) (PySem.W.mg_of X G gc_Machine)
    have G_leader_of : FnOk l.prog w K mg base CX0 1 a_leader_of fd_leader_of ["leaders", "thing"] spLeader := ok_leader_of F_leader_of
    have G_are_led_together : FnOk l.prog w K mg base CX0 2 a_are_led_together fd_are_led_together ["leaders", "one", "other"] spLed := ok_led F_are_led_together G_leader_of (F_leader_of.binds (ps := ["leaders", "thing"]) fun _ _ _ _ _ _ us hl => match us, hl with | [_, _], _ => rfl) (PySem.W.mg_of X G g_leader_of) F_leader_of.kp
    have G_begin_of : FnOk l.prog w K mg base CX0 1 a_begin_of fd_begin_of ["one", "other"] (spBegin CM) := ok_begin_of F_begin_of TM
    have G_both_shown : FnOk l.prog w K mg base CX0 2 a_both_shown fd_both_shown ["one", "other", "pair"] (spBoth CM) := ok_both_shown F_both_shown TM G_shows_of (F_shows_of.binds (ps := ["line"]) fun _ _ _ _ _ _ us hl => match us, hl with | [_], _ => rfl) (PySem.W.mg_of X G g_shows_of) F_shows_of.kp
    have G_pairs_behind : FnOk l.prog w K mg base CX0 2 a_pairs_behind fd_pairs_behind ["one", "other", "pair"] (spBehind CM) := ok_pairs_behind F_pairs_behind TM (PySem.W.mg_none_of X G z_zip) G_nexts_of (F_nexts_of.binds (ps := ["line"]) fun _ _ _ _ _ _ us hl => match us, hl with | [_], _ => rfl) (PySem.W.mg_of X G g_nexts_of) F_nexts_of.kp
    have GW : FnOk l.prog w K mg base CX0 1 fW fdW ["self", "one", "other", "begin"] (spWInit CW) := ok_walk_init FIWalk TW
    have GTk : FnOk l.prog w K mg base CX0 1 m_take fdm_take ["self", "pair", "number", "answer"] (spTake CW) := ok_walk_take FM_take TW
    have MW : Mk K CW fW := ⟨mkWalk, inWalk, fnWalk, kpWalk⟩
    have G_parting_place : FnOk l.prog w K mg base CX0 3 a_parting_place fd_parting_place ["walk"] (spPartF CW CM) := ok_parting_place F_parting_place T TM TW (PySem.W.mg_none_of X G z_range) (PySem.W.mg_none_of X G z_enumerate) G_are_led_together (F_are_led_together.binds (ps := ["leaders", "one", "other"]) fun _ _ _ _ _ _ us hl => match us, hl with | [_, _, _], _ => rfl) (PySem.W.mg_of X G g_are_led_together) F_are_led_together.kp G_both_shown (F_both_shown.binds (ps := ["one", "other", "pair"]) fun _ _ _ _ _ _ us hl => match us, hl with | [_, _, _], _ => rfl) (PySem.W.mg_of X G g_both_shown) F_both_shown.kp G_pairs_behind (F_pairs_behind.binds (ps := ["one", "other", "pair"]) fun _ _ _ _ _ _ us hl => match us, hl with | [_, _, _], _ => rfl) (PySem.W.mg_of X G g_pairs_behind) F_pairs_behind.kp GTk (FM_take.binds (ps := ["self", "pair", "number", "answer"]) fun _ _ _ _ _ _ us hl => match us, hl with | [_, _, _, _], _ => rfl) ⟨at_take, fn_take, FM_take.kp⟩
    have G_told_of : FnOk l.prog w K mg base CX0 3 a_told_of fd_told_of ["walk", "number"] (spToldF CW CM) := ok_told_of F_told_of T TM TW G_both_shown (F_both_shown.binds (ps := ["one", "other", "pair"]) fun _ _ _ _ _ _ us hl => match us, hl with | [_, _, _], _ => rfl) (PySem.W.mg_of X G g_both_shown) F_both_shown.kp
    have G_joined : FnOk l.prog w K mg base CX0 2 a_joined fd_joined ["tables"] spJoined := ok_joined F_joined G_in_order (F_in_order.binds (ps := ["table"]) fun _ _ _ _ _ _ us hl => match us, hl with | [_], _ => rfl) (PySem.W.mg_of X G g_in_order) F_in_order.kp
    have G_walk_of : FnOk l.prog w K mg base CX0 3 a_walk_of fd_walk_of ["one", "other"] (spWalkOf CB CM CW) := ok_walk_of F_walk_of TB TM G_joined (F_joined.binds (ps := ["tables"]) fun _ _ _ _ _ _ us hl => match us, hl with | [_], _ => rfl) (PySem.W.mg_of X G g_joined) F_joined.kp G_begin_of (F_begin_of.binds (ps := ["one", "other"]) fun _ _ _ _ _ _ us hl => match us, hl with | [_, _], _ => rfl) (PySem.W.mg_of X G g_begin_of) F_begin_of.kp MW GW (FIWalk.binds (ps := ["self", "one", "other", "begin"]) fun _ _ _ _ _ _ us hl => match us, hl with | [_, _, _, _], _ => rfl) (PySem.W.mg_of X G gc_Walk)
    have G_parted : FnOk l.prog w K mg base CX0 4 a_parted fd_parted ["one", "other"] (spPartedF CB CM) := ok_parted F_parted G_walk_of (F_walk_of.binds (ps := ["one", "other"]) fun _ _ _ _ _ _ us hl => match us, hl with | [_, _], _ => rfl) (PySem.W.mg_of X G g_walk_of) F_walk_of.kp G_parting_place (F_parting_place.binds (ps := ["walk"]) fun _ _ _ _ _ _ us hl => match us, hl with | [_], _ => rfl) (PySem.W.mg_of X G g_parting_place) F_parting_place.kp G_told_of (F_told_of.binds (ps := ["walk", "number"]) fun _ _ _ _ _ _ us hl => match us, hl with | [_, _], _ => rfl) (PySem.W.mg_of X G g_told_of) F_told_of.kp
    have G_law_source_of : FnOk l.prog w K mg base CX0 1 a_law_source_of fd_law_source_of ["_law_cell"] spSrc := ok_src F_law_source_of TD
    have G_law_next : FnOk l.prog w K mg base CX0 1 a_law_next fd_law_next ["_law_source", "_law_many"] spNext := ok_next F_law_next TD
    have G_law_one : FnOk l.prog w K mg base CX0 2 a_law_one fd_law_one ["_law_source", "_law_some"] spOne := ok_one F_law_one TD F_law_next (F_law_next.binds (ps := ["_law_source", "_law_many"]) fun _ _ _ _ _ _ us hl => match us, hl with | [_, _], _ => rfl)
    have G_law_mixed : FnOk l.prog w K mg base CX0 2 a_law_mixed fd_law_mixed ["_law_source", "_law_some"] spMixed := ok_mixed F_law_mixed T G_law_next (F_law_next.binds (ps := ["_law_source", "_law_many"]) fun _ _ _ _ _ _ us hl => match us, hl with | [_, _], _ => rfl) (PySem.W.mg_of X G g_law_next) F_law_next.kp
    have G_law_operations : FnOk l.prog w K mg base CX0 3 a_law_operations fd_law_operations ["_law_source", "_law_many"] spDrawOps := ok_draw_ops F_law_operations T G_law_mixed (F_law_mixed.binds (ps := ["_law_source", "_law_some"]) fun _ _ _ _ _ _ us hl => match us, hl with | [_, _], _ => rfl) (PySem.W.mg_of X G g_law_mixed) F_law_mixed.kp G_law_one (F_law_one.binds (ps := ["_law_source", "_law_some"]) fun _ _ _ _ _ _ us hl => match us, hl with | [_, _], _ => rfl) (PySem.W.mg_of X G g_law_one) F_law_one.kp
    have G_law_rows : FnOk l.prog w K mg base CX0 3 a_law_rows fd_law_rows ["_law_source", "_law_operations_here", "_law_many"] spDrawRows := ok_draw_rows F_law_rows T (PySem.W.mg_none_of X G z_range) (PySem.W.mg_none_of X G z_sorted) G_law_next (F_law_next.binds (ps := ["_law_source", "_law_many"]) fun _ _ _ _ _ _ us hl => match us, hl with | [_, _], _ => rfl) (PySem.W.mg_of X G g_law_next) F_law_next.kp G_law_one (F_law_one.binds (ps := ["_law_source", "_law_some"]) fun _ _ _ _ _ _ us hl => match us, hl with | [_, _], _ => rfl) (PySem.W.mg_of X G g_law_one) F_law_one.kp
    have G_law_landed : FnOk l.prog w K mg base CX0 1 a_law_landed fd_law_landed ["_law_rows_here", "_law_at"] spLanded := ok_landed F_law_landed T (PySem.W.mg_none_of X G z_range)
    have G_law_steps : FnOk l.prog w K mg base CX0 2 a_law_steps fd_law_steps ["_law_rows_here", "_law_at"] spStepsL := ok_stepsL F_law_steps T G_law_landed (F_law_landed.binds (ps := ["_law_rows_here", "_law_at"]) fun _ _ _ _ _ _ us hl => match us, hl with | [_, _], _ => rfl) (PySem.W.mg_of X G g_law_landed) F_law_landed.kp
    have G_law_shows : FnOk l.prog w K mg base CX0 2 a_law_shows fd_law_shows ["_law_rows_here", "_law_at"] spShowsL := ok_showsL F_law_shows T G_law_landed (F_law_landed.binds (ps := ["_law_rows_here", "_law_at"]) fun _ _ _ _ _ _ us hl => match us, hl with | [_, _], _ => rfl) (PySem.W.mg_of X G g_law_landed) F_law_landed.kp
    have G_straying_place : FnOk l.prog w K mg base CX0 3 a_straying_place fd_straying_place ["walk"] (spStrayF CW CM) := ok_stray F_straying_place T TM TW (PySem.W.mg_none_of X G z_enumerate) G_both_shown (F_both_shown.binds (ps := ["one", "other", "pair"]) fun _ _ _ _ _ _ us hl => match us, hl with | [_, _, _], _ => rfl) (PySem.W.mg_of X G g_both_shown) F_both_shown.kp G_pairs_behind (F_pairs_behind.binds (ps := ["one", "other", "pair"]) fun _ _ _ _ _ _ us hl => match us, hl with | [_, _, _], _ => rfl) (PySem.W.mg_of X G g_pairs_behind) F_pairs_behind.kp GTk (FM_take.binds (ps := ["self", "pair", "number", "answer"]) fun _ _ _ _ _ _ us hl => match us, hl with | [_, _, _, _], _ => rfl) ⟨at_take, fn_take, FM_take.kp⟩
    have G_within : FnOk l.prog w K mg base CX0 4 a_within fd_within ["one", "other"] (spWithinF CB CM) := ok_within F_within G_walk_of (F_walk_of.binds (ps := ["one", "other"]) fun _ _ _ _ _ _ us hl => match us, hl with | [_, _], _ => rfl) (PySem.W.mg_of X G g_walk_of) F_walk_of.kp G_straying_place (F_straying_place.binds (ps := ["walk"]) fun _ _ _ _ _ _ us hl => match us, hl with | [_], _ => rfl) (PySem.W.mg_of X G g_straying_place) F_straying_place.kp G_told_of (F_told_of.binds (ps := ["walk", "number"]) fun _ _ _ _ _ _ us hl => match us, hl with | [_, _], _ => rfl) (PySem.W.mg_of X G g_told_of) F_told_of.kp
    have G_law_hung : FnOk l.prog w K mg base CX0 2 a_law_hung fd_law_hung ["_law_source", "_law_rows_here"] spHung := ok_hung F_law_hung T (PySem.W.mg_none_of X G z_range) G_law_next (F_law_next.binds (ps := ["_law_source", "_law_many"]) fun _ _ _ _ _ _ us hl => match us, hl with | [_, _], _ => rfl) (PySem.W.mg_of X G g_law_next) F_law_next.kp
    have G_law_due : FnOk l.prog w K mg base CX0 3 a_law_due fd_law_due ["_law_rows_here", "_law_others", "_law_begin", "_law_many"] spDue := ok_due F_law_due T (PySem.W.mg_none_of X G z_enumerate) (PySem.W.mg_none_of X G z_zip) G_law_shows (F_law_shows.binds (ps := ["_law_rows_here", "_law_at"]) fun _ _ _ _ _ _ us hl => match us, hl with | [_, _], _ => rfl) (PySem.W.mg_of X G g_law_shows) F_law_shows.kp G_law_steps (F_law_steps.binds (ps := ["_law_rows_here", "_law_at"]) fun _ _ _ _ _ _ us hl => match us, hl with | [_, _], _ => rfl) (PySem.W.mg_of X G g_law_steps) F_law_steps.kp
    exact ok_law F_law T (PySem.W.mg_none_of X G z_range) (PySem.W.mg_none_of X G z_enumerate) MB GB kB (PySem.W.mg_of X G gc_Body) G_law_source_of (F_law_source_of.binds (ps := ["_law_cell"]) fun _ _ _ _ _ _ us hl => match us, hl with | [_], _ => rfl) (PySem.W.mg_of X G g_law_source_of) F_law_source_of.kp G_law_next (F_law_next.binds (ps := ["_law_source", "_law_many"]) fun _ _ _ _ _ _ us hl => match us, hl with | [_, _], _ => rfl) (PySem.W.mg_of X G g_law_next) F_law_next.kp G_law_operations (F_law_operations.binds (ps := ["_law_source", "_law_many"]) fun _ _ _ _ _ _ us hl => match us, hl with | [_, _], _ => rfl) (PySem.W.mg_of X G g_law_operations) F_law_operations.kp G_law_rows (F_law_rows.binds (ps := ["_law_source", "_law_operations_here", "_law_many"]) fun _ _ _ _ _ _ us hl => match us, hl with | [_, _, _], _ => rfl) (PySem.W.mg_of X G g_law_rows) F_law_rows.kp G_law_hung (F_law_hung.binds (ps := ["_law_source", "_law_rows_here"]) fun _ _ _ _ _ _ us hl => match us, hl with | [_, _], _ => rfl) (PySem.W.mg_of X G g_law_hung) F_law_hung.kp G_law_due (F_law_due.binds (ps := ["_law_rows_here", "_law_others", "_law_begin", "_law_many"]) fun _ _ _ _ _ _ us hl => match us, hl with | [_, _, _, _], _ => rfl) (PySem.W.mg_of X G g_law_due) F_law_due.kp G_within (F_within.binds (ps := ["one", "other"]) fun _ _ _ _ _ _ us hl => match us, hl with | [_, _], _ => rfl) (PySem.W.mg_of X G g_within) F_within.kp G_parted (F_parted.binds (ps := ["one", "other"]) fun _ _ _ _ _ _ us hl => match us, hl with | [_, _], _ => rfl) (PySem.W.mg_of X G g_parted) F_parted.kp
end Mine

set_option maxRecDepth 100000
set_option maxHeartbeats 4000000
namespace Mine
open PySem PySem.Spec PyProof.Rows L2
theorem fun_of {K : PySem.W.Frag} {x q : Str} {st : Stmt} {f : Addr} {fd : FuncData} {kws : List (Str × V)} (F : FunD K x q (defArgs st) (defBody st) (defScope st) [] kws f fd) : Fun K x q st f fd := by
  obtain ⟨⟨oc, od, dV, kV, doc, pm, an, cdv, ct, osl, e, l, c, hd, hk⟩, kp⟩ := F
  have : dV = .none := hd.elim (·.2) fun z => absurd rfl z.1
  subst this
  exact ⟨⟨oc, od, kV, doc, pm, an, cdv, ct, osl, e, l, c⟩, kp⟩
theorem funC_of {K : PySem.W.Frag} {x q : Str} {st : Stmt} {p : Str × Option Str} {fd : FuncData} {kws : List (Str × V)} (F : FunD K x q (defArgs st) (defBody st) (defScope st) [] kws (He.fAd K p) fd) : LamB.FunC K x q st (He.fAd K p) fd (He.codeOf K p) := by
  obtain ⟨⟨oc, od, dV, kV, doc, pm, an, cdv, ct, osl, e, l, c, hd, hk⟩, kp⟩ := F
  have : dV = .none := hd.elim (·.2) fun z => absurd rfl z.1
  subst this
  obtain ⟨cc, rfl⟩ := He.codeIn_ref c
  have e2 : He.codeOf K p = cc := He.codeOf_eq l (by rw [e])
  rw [e2]
  exact ⟨⟨oc, od, kV, doc, pm, an, ct, osl, e, l, c⟩, kp⟩
theorem nsStr {K : PySem.W.Frag} {x z : Str} (c : (He.Fa.str x z).ok K = true) : ∃ t, PySem.W.nsIn K mainGlobals x = some (some (.str z t)) := by
  have c2 : (match PySem.W.nsIn K mainGlobals x with
    | some (some (.str y _)) => decide (y = z)
    | _ => false) = true := c
  split at c2
  · rename_i y t q
    rw [q, of_decide_eq_true c2]
    exact ⟨t, rfl⟩
  · cases c2
theorem nsInt {K : PySem.W.Frag} {x : Str} {i : Int} (c : (He.Fa.int x i).ok K = true) : ∃ t, PySem.W.nsIn K mainGlobals x = some (some (.int i t)) := by
  have c2 : (match PySem.W.nsIn K mainGlobals x with
    | some (some (.int j _)) => decide (j = i)
    | _ => false) = true := c
  split at c2
  · rename_i y t q
    rw [q, of_decide_eq_true c2]
    exact ⟨t, rfl⟩
  · cases c2
def rawX (K : PySem.W.Frag) (cA C : Addr) : Bool := match K.lookup C with
  | some ⟨.type t, _, .cls cd, sl⟩ => (match sl.toList with
    | [_, _, _, _, some (.builtin n), _] => decide (t = "type") && (decide (cd.mro = [.ref C, .ref cA, .type "ValueError", .type "Exception", .type "BaseException", .type "object"]) && (decide (n = "ValueError.__new__") && (cd.hasDict && !cd.hasDel)))
    | _ => false)
  | _ => false
theorem rawX_ok {K : PySem.W.Frag} {cA C : Addr} (q : rawX K cA C = true) : ∃ nm q N bs sn sub ab col dd m0 m1 m2 m3 m5, K.lookup C = some (excClassObj nm q C N bs [.ref cA, .type "ValueError", .type "Exception", .type "BaseException", .type "object"] true sn sub ab col dd m0 m1 m2 m3 m5 "ValueError.__new__") := by
  unfold rawX at q
  split at q
  · rename_i t dd cd sl ho
    split at q
    · rename_i k0 k1 k2 k3 n k5 hs
      simp only [Bool.and_eq_true, decide_eq_true_eq, Bool.not_eq_true'] at q
      obtain ⟨rfl, hm, rfl, hdi, hdel⟩ := q
      obtain ⟨nm, bs, mro, ns, qn, hd, sn, sub, ab, col, del⟩ := cd
      dsimp only at hm hdel hdi
      subst hm hdel hdi
      have hsl : sl = #[k0, k1, k2, k3, some (.builtin "ValueError.__new__"), k5] := by
        obtain ⟨l⟩ := sl
        simp only at hs
        rw [hs]
      subst hsl
      exact ⟨nm, qn, ns, bs, sn, sub, ab, col, dd, k0, k1, k2, k3, k5, ho⟩
    · cases q
  · cases q
def d_is_integer : He.DefD := ⟨("is_integer", none), "is_integer", "is_integer", defArgs s_is_integer, defBody s_is_integer, defScope s_is_integer, [], []⟩
def d_is_within : He.DefD := ⟨("is_within", none), "is_within", "is_within", defArgs s_is_within, defBody s_is_within, defScope s_is_within, [], []⟩
def d_is_index : He.DefD := ⟨("is_index", none), "is_index", "is_index", defArgs s_is_index, defBody s_is_index, defScope s_is_index, [], []⟩
def d_is_row : He.DefD := ⟨("is_row", none), "is_row", "is_row", defArgs s_is_row, defBody s_is_row, defScope s_is_row, [], []⟩
def d_is_name : He.DefD := ⟨("is_name", none), "is_name", "is_name", defArgs s_is_name, defBody s_is_name, defScope s_is_name, [], []⟩
def d_is_text_in : He.DefD := ⟨("is_text_in", none), "is_text_in", "is_text_in", defArgs s_is_text_in, defBody s_is_text_in, defScope s_is_text_in, [], []⟩
def d_are_counts : He.DefD := ⟨("are_counts", none), "are_counts", "are_counts", defArgs s_are_counts, defBody s_are_counts, defScope s_are_counts, [], []⟩
def d_are_operations : He.DefD := ⟨("are_operations", none), "are_operations", "are_operations", defArgs s_are_operations, defBody s_are_operations, defScope s_are_operations, [], []⟩
def d_in_order : He.DefD := ⟨("in_order", none), "in_order", "in_order", defArgs s_in_order, defBody s_in_order, defScope s_in_order, [], []⟩
def d_word_of : He.DefD := ⟨("word_of", none), "word_of", "word_of", defArgs s_word_of, defBody s_word_of, defScope s_word_of, [], []⟩
def d_are_nexts : He.DefD := ⟨("are_nexts", none), "are_nexts", "are_nexts", defArgs s_are_nexts, defBody s_are_nexts, defScope s_are_nexts, [], []⟩
def d_joined : He.DefD := ⟨("joined", none), "joined", "joined", defArgs s_joined, defBody s_joined, defScope s_joined, [], []⟩
def d_stops_of : He.DefD := ⟨("stops_of", none), "stops_of", "stops_of", defArgs s_stops_of, defBody s_stops_of, defScope s_stops_of, [], []⟩
def d_rest_of : He.DefD := ⟨("rest_of", none), "rest_of", "rest_of", defArgs s_rest_of, defBody s_rest_of, defScope s_rest_of, [], []⟩
def d_rests_from : He.DefD := ⟨("rests_from", none), "rests_from", "rests_from", defArgs s_rests_from, defBody s_rests_from, defScope s_rests_from, [], []⟩
def d_nexts_of : He.DefD := ⟨("nexts_of", none), "nexts_of", "nexts_of", defArgs s_nexts_of, defBody s_nexts_of, defScope s_nexts_of, [], []⟩
def d_shows_of : He.DefD := ⟨("shows_of", none), "shows_of", "shows_of", defArgs s_shows_of, defBody s_shows_of, defScope s_shows_of, [], []⟩
def d_firsts_of : He.DefD := ⟨("firsts_of", none), "firsts_of", "firsts_of", defArgs s_firsts_of, defBody s_firsts_of, defScope s_firsts_of, [], []⟩
def d_lines_read : He.DefD := ⟨("lines_read", none), "lines_read", "lines_read", defArgs s_lines_read, defBody s_lines_read, defScope s_lines_read, [], []⟩
def d_is_line : He.DefD := ⟨("is_line", none), "is_line", "is_line", defArgs s_is_line, defBody s_is_line, defScope s_is_line, [], []⟩
def d_line_of : He.DefD := ⟨("line_of", none), "line_of", "line_of", defArgs s_line_of, defBody s_line_of, defScope s_line_of, [], []⟩
def d_begin_of : He.DefD := ⟨("begin_of", none), "begin_of", "begin_of", defArgs s_begin_of, defBody s_begin_of, defScope s_begin_of, [], []⟩
def d_both_shown : He.DefD := ⟨("both_shown", none), "both_shown", "both_shown", defArgs s_both_shown, defBody s_both_shown, defScope s_both_shown, [], []⟩
def d_pairs_behind : He.DefD := ⟨("pairs_behind", none), "pairs_behind", "pairs_behind", defArgs s_pairs_behind, defBody s_pairs_behind, defScope s_pairs_behind, [], []⟩
def d_parting_place : He.DefD := ⟨("parting_place", none), "parting_place", "parting_place", defArgs s_parting_place, defBody s_parting_place, defScope s_parting_place, [], []⟩
def d_are_led_together : He.DefD := ⟨("are_led_together", none), "are_led_together", "are_led_together", defArgs s_are_led_together, defBody s_are_led_together, defScope s_are_led_together, [], []⟩
def d_leader_of : He.DefD := ⟨("leader_of", none), "leader_of", "leader_of", defArgs s_leader_of, defBody s_leader_of, defScope s_leader_of, [], []⟩
def d_straying_place : He.DefD := ⟨("straying_place", none), "straying_place", "straying_place", defArgs s_straying_place, defBody s_straying_place, defScope s_straying_place, [], []⟩
def d_told_of : He.DefD := ⟨("told_of", none), "told_of", "told_of", defArgs s_told_of, defBody s_told_of, defScope s_told_of, [], []⟩
def d_parted : He.DefD := ⟨("parted", none), "parted", "parted", defArgs s_parted, defBody s_parted, defScope s_parted, [], []⟩
def d_walk_of : He.DefD := ⟨("walk_of", none), "walk_of", "walk_of", defArgs s_walk_of, defBody s_walk_of, defScope s_walk_of, [], []⟩
def d_within : He.DefD := ⟨("within", none), "within", "within", defArgs s_within, defBody s_within, defScope s_within, [], []⟩
def d_law_source_of : He.DefD := ⟨("_law_source_of", none), "_law_source_of", "_law_source_of", defArgs sSrc, defBody sSrc, defScope sSrc, [], []⟩
def d_law_next : He.DefD := ⟨("_law_next", none), "_law_next", "_law_next", defArgs sNext, defBody sNext, defScope sNext, [], []⟩
def d_law_one : He.DefD := ⟨("_law_one", none), "_law_one", "_law_one", defArgs sOne, defBody sOne, defScope sOne, [], []⟩
def d_law_mixed : He.DefD := ⟨("_law_mixed", none), "_law_mixed", "_law_mixed", defArgs s_mixed, defBody s_mixed, defScope s_mixed, [], []⟩
def d_law_operations : He.DefD := ⟨("_law_operations", none), "_law_operations", "_law_operations", defArgs s_ops, defBody s_ops, defScope s_ops, [], []⟩
def d_law_rows : He.DefD := ⟨("_law_rows", none), "_law_rows", "_law_rows", defArgs s_rows, defBody s_rows, defScope s_rows, [], []⟩
def d_law_landed : He.DefD := ⟨("_law_landed", none), "_law_landed", "_law_landed", defArgs s_landed, defBody s_landed, defScope s_landed, [], []⟩
def d_law_shows : He.DefD := ⟨("_law_shows", none), "_law_shows", "_law_shows", defArgs s_showsL, defBody s_showsL, defScope s_showsL, [], []⟩
def d_law_steps : He.DefD := ⟨("_law_steps", none), "_law_steps", "_law_steps", defArgs s_stepsL, defBody s_stepsL, defScope s_stepsL, [], []⟩
def d_law_hung : He.DefD := ⟨("_law_hung", none), "_law_hung", "_law_hung", defArgs s_hung, defBody s_hung, defScope s_hung, [], []⟩
def d_law_due : He.DefD := ⟨("_law_due", none), "_law_due", "_law_due", defArgs s_due, defBody s_due, defScope s_due, [], []⟩
def d_law : He.DefD := ⟨("law", none), "law", "law", defArgs s_law, defBody s_law, defScope s_law, [], []⟩
def d_FIMachine : He.DefD := ⟨("Machine", some "__init__"), "__init__", "Machine.__init__", defArgs s_mach, defBody s_mach, defScope s_mach, [], []⟩
def d_FIWalk : He.DefD := ⟨("Walk", some "__init__"), "__init__", "Walk.__init__", defArgs s_walk_init, defBody s_walk_init, defScope s_walk_init, [], []⟩
def d_FM_take : He.DefD := ⟨("Walk", some "take"), "take", "Walk.take", defArgs s_walk_take, defBody s_walk_take, defScope s_walk_take, [], []⟩
def d_FIBody : He.DefD := ⟨("Body", some "__init__"), "__init__", "Body.__init__", defArgs s_body, defBody s_body, defScope s_body, [], [("start", .int 0)]⟩
def pfL : List He4.PropD := []
def fnL : List He.DefD := ([d_is_integer, d_is_within, d_is_index, d_is_row, d_is_name, d_is_text_in, d_are_counts, d_are_operations, d_in_order, d_word_of, d_are_nexts, d_joined, d_stops_of, d_rest_of, d_rests_from, d_nexts_of, d_shows_of, d_firsts_of, d_lines_read, d_is_line, d_line_of, d_begin_of, d_both_shown, d_pairs_behind, d_parting_place, d_are_led_together, d_leader_of, d_straying_place, d_told_of, d_parted] : List He.DefD) ++ ([d_walk_of, d_within, d_law_source_of, d_law_next, d_law_one, d_law_mixed, d_law_operations, d_law_rows, d_law_landed, d_law_shows, d_law_steps, d_law_hung, d_law_due, d_law, d_FIMachine, d_FIWalk, d_FM_take, d_FIBody] : List He.DefD)
def faL : List He.Fa := [.cls "Machine", .cls "Walk", .cls "Body", .str "LETTERS" lettersS, .int "LONGEST_NAME" 8, .int "MOST_OPERATIONS" 8, .int "MOST_ANSWERS" 6, .int "MOST_ROWS" 400]
def exs0 (K : PySem.W.Frag) : List Bool := [decide (PySem.W.nsIn K mainGlobals "is_integer" = some (some (.ref (He.ga K "is_integer")))),
  decide (PySem.W.nsIn K mainGlobals "is_within" = some (some (.ref (He.ga K "is_within")))),
  decide (PySem.W.nsIn K mainGlobals "is_index" = some (some (.ref (He.ga K "is_index")))),
  decide (PySem.W.nsIn K mainGlobals "is_row" = some (some (.ref (He.ga K "is_row")))),
  decide (PySem.W.nsIn K mainGlobals "is_name" = some (some (.ref (He.ga K "is_name")))),
  decide (PySem.W.nsIn K mainGlobals "is_text_in" = some (some (.ref (He.ga K "is_text_in")))),
  decide (PySem.W.nsIn K mainGlobals "are_counts" = some (some (.ref (He.ga K "are_counts")))),
  decide (PySem.W.nsIn K mainGlobals "are_operations" = some (some (.ref (He.ga K "are_operations")))),
  decide (PySem.W.nsIn K mainGlobals "in_order" = some (some (.ref (He.ga K "in_order")))),
  decide (PySem.W.nsIn K mainGlobals "word_of" = some (some (.ref (He.ga K "word_of")))),
  decide (PySem.W.nsIn K mainGlobals "are_nexts" = some (some (.ref (He.ga K "are_nexts")))),
  decide (PySem.W.nsIn K mainGlobals "joined" = some (some (.ref (He.ga K "joined")))),
  decide (PySem.W.nsIn K mainGlobals "stops_of" = some (some (.ref (He.ga K "stops_of")))),
  decide (PySem.W.nsIn K mainGlobals "rest_of" = some (some (.ref (He.ga K "rest_of")))),
  decide (PySem.W.nsIn K mainGlobals "rests_from" = some (some (.ref (He.ga K "rests_from")))),
  decide (PySem.W.nsIn K mainGlobals "nexts_of" = some (some (.ref (He.ga K "nexts_of")))),
  decide (PySem.W.nsIn K mainGlobals "shows_of" = some (some (.ref (He.ga K "shows_of")))),
  decide (PySem.W.nsIn K mainGlobals "firsts_of" = some (some (.ref (He.ga K "firsts_of")))),
  decide (PySem.W.nsIn K mainGlobals "lines_read" = some (some (.ref (He.ga K "lines_read")))),
  decide (PySem.W.nsIn K mainGlobals "is_line" = some (some (.ref (He.ga K "is_line")))),
  decide (PySem.W.nsIn K mainGlobals "line_of" = some (some (.ref (He.ga K "line_of")))),
  decide (PySem.W.nsIn K mainGlobals "begin_of" = some (some (.ref (He.ga K "begin_of")))),
  decide (PySem.W.nsIn K mainGlobals "both_shown" = some (some (.ref (He.ga K "both_shown")))),
  decide (PySem.W.nsIn K mainGlobals "pairs_behind" = some (some (.ref (He.ga K "pairs_behind")))),
  decide (PySem.W.nsIn K mainGlobals "parting_place" = some (some (.ref (He.ga K "parting_place"))))]
def exs1 (K : PySem.W.Frag) : List Bool := [decide (PySem.W.nsIn K mainGlobals "are_led_together" = some (some (.ref (He.ga K "are_led_together")))),
  decide (PySem.W.nsIn K mainGlobals "leader_of" = some (some (.ref (He.ga K "leader_of")))),
  decide (PySem.W.nsIn K mainGlobals "straying_place" = some (some (.ref (He.ga K "straying_place")))),
  decide (PySem.W.nsIn K mainGlobals "told_of" = some (some (.ref (He.ga K "told_of")))),
  decide (PySem.W.nsIn K mainGlobals "parted" = some (some (.ref (He.ga K "parted")))),
  decide (PySem.W.nsIn K mainGlobals "walk_of" = some (some (.ref (He.ga K "walk_of")))),
  decide (PySem.W.nsIn K mainGlobals "within" = some (some (.ref (He.ga K "within")))),
  decide (PySem.W.nsIn K mainGlobals "_law_source_of" = some (some (.ref (He.ga K "_law_source_of")))),
  decide (PySem.W.nsIn K mainGlobals "_law_next" = some (some (.ref (He.ga K "_law_next")))),
  decide (PySem.W.nsIn K mainGlobals "_law_one" = some (some (.ref (He.ga K "_law_one")))),
  decide (PySem.W.nsIn K mainGlobals "_law_mixed" = some (some (.ref (He.ga K "_law_mixed")))),
  decide (PySem.W.nsIn K mainGlobals "_law_operations" = some (some (.ref (He.ga K "_law_operations")))),
  decide (PySem.W.nsIn K mainGlobals "_law_rows" = some (some (.ref (He.ga K "_law_rows")))),
  decide (PySem.W.nsIn K mainGlobals "_law_landed" = some (some (.ref (He.ga K "_law_landed")))),
  decide (PySem.W.nsIn K mainGlobals "_law_shows" = some (some (.ref (He.ga K "_law_shows")))),
  decide (PySem.W.nsIn K mainGlobals "_law_steps" = some (some (.ref (He.ga K "_law_steps")))),
  decide (PySem.W.nsIn K mainGlobals "_law_hung" = some (some (.ref (He.ga K "_law_hung")))),
  decide (PySem.W.nsIn K mainGlobals "_law_due" = some (some (.ref (He.ga K "_law_due")))),
  decide (PySem.W.nsIn K mainGlobals "law" = some (some (.ref (He.ga K "law")))),
  decide (PySem.W.nsIn K mainGlobals "Machine" = some (some (.ref (He.ga K "Machine")))),
  PySem.W.makesIn K (He.ga K "Machine"),
  decide (PySem.W.findIn K (.ref (He.ga K "Machine")) "counts" = some none),
  decide (PySem.W.findIn K (.ref (He.ga K "Machine")) "lines" = some none),
  decide (PySem.W.findIn K (.ref (He.ga K "Machine")) "begin" = some none),
  decide (PySem.W.findIn K (.ref (He.ga K "Machine")) "stops" = some none)]
def exs2 (K : PySem.W.Frag) : List Bool := [decide (PySem.W.findIn K (.ref (He.ga K "Machine")) "asks" = some none),
  decide (PySem.W.findIn K (.ref (He.ga K "Machine")) "endings" = some none),
  decide (PySem.W.findIn K (.ref (He.ga K "Machine")) "endless" = some none),
  PySem.W.keepIn K (.ref (He.ga K "Machine")),
  decide (PySem.W.findIn K (.ref (He.ga K "Machine")) "__init__" = some (some (.ref (He.ma K (He.ga K "Machine") "__init__")))),
  PySem.W.isFn K (.ref (He.ma K (He.ga K "Machine") "__init__")),
  decide (PySem.W.nsIn K mainGlobals "Walk" = some (some (.ref (He.ga K "Walk")))),
  PySem.W.makesIn K (He.ga K "Walk"),
  decide (PySem.W.findIn K (.ref (He.ga K "Walk")) "one" = some none),
  decide (PySem.W.findIn K (.ref (He.ga K "Walk")) "other" = some none),
  decide (PySem.W.findIn K (.ref (He.ga K "Walk")) "met" = some none),
  decide (PySem.W.findIn K (.ref (He.ga K "Walk")) "origins" = some none),
  PySem.W.keepIn K (.ref (He.ga K "Walk")),
  decide (PySem.W.findIn K (.ref (He.ga K "Walk")) "__init__" = some (some (.ref (He.ma K (He.ga K "Walk") "__init__")))),
  PySem.W.isFn K (.ref (He.ma K (He.ga K "Walk") "__init__")),
  decide (PySem.W.findIn K (.ref (He.ga K "Walk")) "take" = some (some (.ref (He.ma K (He.ga K "Walk") "take")))),
  PySem.W.isFn K (.ref (He.ma K (He.ga K "Walk") "take")),
  decide (PySem.W.nsIn K mainGlobals "Body" = some (some (.ref (He.ga K "Body")))),
  PySem.W.makesIn K (He.ga K "Body"),
  decide (PySem.W.findIn K (.ref (He.ga K "Body")) "machine" = some none),
  PySem.W.keepIn K (.ref (He.ga K "Body")),
  decide (PySem.W.findIn K (.ref (He.ga K "Body")) "__init__" = some (some (.ref (He.ma K (He.ga K "Body") "__init__")))),
  PySem.W.isFn K (.ref (He.ma K (He.ga K "Body") "__init__")),
  decide (PySem.W.nsIn K mainGlobals "int" = some none),
  decide (PySem.W.nsIn K mainGlobals "isinstance" = some none)]
def exs3 (K : PySem.W.Frag) : List Bool := [decide (PySem.W.nsIn K mainGlobals "bool" = some none),
  decide (PySem.W.nsIn K mainGlobals "str" = some none),
  decide (PySem.W.nsIn K mainGlobals "list" = some none),
  decide (PySem.W.nsIn K mainGlobals "tuple" = some none),
  decide (PySem.W.nsIn K mainGlobals "dict" = some none),
  decide (PySem.W.nsIn K mainGlobals "len" = some none),
  decide (PySem.W.nsIn K mainGlobals "all" = some none),
  decide (PySem.W.nsIn K mainGlobals "range" = some none),
  decide (PySem.W.nsIn K mainGlobals "sorted" = some none),
  decide (PySem.W.nsIn K mainGlobals "min" = some none),
  decide (PySem.W.nsIn K mainGlobals "max" = some none),
  decide (PySem.W.nsIn K mainGlobals "enumerate" = some none),
  decide (PySem.W.nsIn K mainGlobals "zip" = some none)]
def exL (K : PySem.W.Frag) : List Bool := exs0 K ++ exs1 K ++ exs2 K ++ exs3 K
def exB (K : PySem.W.Frag) : Bool := (exL K).all id
def tfL : List He.Defn := []
abbrev Rw : PySem.W.OpenRow := PySem.W.OpenLaw.row PySem.Challenge.rw_askfurther_k25_whole_bodies_that_go_less
abbrev hkL : PySem.W.Hook := He4.hookP faL fnL pfL tfL exB
def obL (s : PySem.W.SharedT) : He4.AlP := He4.obsP faL fnL pfL tfL exB (HandSHeadRun.getT s)
theorem obL_eq (s : PySem.W.SharedT) : obL s = hkL.obs s.abs := He4.obsP_eq (HandSHeadRun.getT_eq s)
def looseL : List Str := (["_wall", "__name__", "AskError", "BadOperations", "BadBody", "BadStart", "NoRow", "Mismatch", "LETTERS", "LONGEST_NAME", "MOST_OPERATIONS", "MOST_ANSWERS", "is_integer", "is_within", "is_index", "is_row", "is_name", "is_text_in", "are_counts", "are_operations", "in_order", "word_of", "are_nexts", "joined", "Machine", "are_equal", "stops_of", "rest_of", "rests_from", "nexts_of"] : List Str) ++ (["shows_of", "firsts_of", "MOST_ROWS", "Body", "lines_read", "is_line", "line_of", "Walk", "begin_of", "both_shown", "pairs_behind", "parting_place", "are_led_together", "leader_of", "straying_place", "told_of", "parted", "walk_of", "within", "_law_source_of", "_law_next", "_law_one", "_law_mixed", "_law_operations", "_law_rows", "_law_landed", "_law_shows", "_law_steps", "_law_hung", "_law_due"] : List Str)
theorem allL {l : PySem.W.OpenLaw} {w : World} {K : PySem.W.Frag} {h : Heap} {mg : Str → Option Value} {fa : Addr} (X : K.In h) (G : h.Ns mainGlobals mg) (hfa : mg "law" = some (.ref fa)) (c : He4.SaysP faL fnL pfL tfL exB h K) : LamX.LawAtS l w K CX0 9 63 "_law_script" mg fa h := by
  have gx : ∀ (i : Nat) {b : Bool}, (exL K)[i]? = some b → b = true := fun i b e => List.all_eq_true.mp (show (exL K).all id = true from c.more) b (List.mem_of_getElem? e)
  obtain ⟨fd_is_integer, E_is_integer⟩ := c.d.def_ 0 (d := d_is_integer) rfl
  obtain ⟨fd_is_within, E_is_within⟩ := c.d.def_ 1 (d := d_is_within) rfl
  obtain ⟨fd_is_index, E_is_index⟩ := c.d.def_ 2 (d := d_is_index) rfl
  obtain ⟨fd_is_row, E_is_row⟩ := c.d.def_ 3 (d := d_is_row) rfl
  obtain ⟨fd_is_name, E_is_name⟩ := c.d.def_ 4 (d := d_is_name) rfl
  obtain ⟨fd_is_text_in, E_is_text_in⟩ := c.d.def_ 5 (d := d_is_text_in) rfl
  obtain ⟨fd_are_counts, E_are_counts⟩ := c.d.def_ 6 (d := d_are_counts) rfl
  obtain ⟨fd_are_operations, E_are_operations⟩ := c.d.def_ 7 (d := d_are_operations) rfl
  obtain ⟨fd_in_order, E_in_order⟩ := c.d.def_ 8 (d := d_in_order) rfl
  obtain ⟨fd_word_of, E_word_of⟩ := c.d.def_ 9 (d := d_word_of) rfl
  obtain ⟨fd_are_nexts, E_are_nexts⟩ := c.d.def_ 10 (d := d_are_nexts) rfl
  obtain ⟨fd_joined, E_joined⟩ := c.d.def_ 11 (d := d_joined) rfl
  obtain ⟨fd_stops_of, E_stops_of⟩ := c.d.def_ 12 (d := d_stops_of) rfl
  obtain ⟨fd_rest_of, E_rest_of⟩ := c.d.def_ 13 (d := d_rest_of) rfl
  obtain ⟨fd_rests_from, E_rests_from⟩ := c.d.def_ 14 (d := d_rests_from) rfl
  obtain ⟨fd_nexts_of, E_nexts_of⟩ := c.d.def_ 15 (d := d_nexts_of) rfl
  obtain ⟨fd_shows_of, E_shows_of⟩ := c.d.def_ 16 (d := d_shows_of) rfl
  obtain ⟨fd_firsts_of, E_firsts_of⟩ := c.d.def_ 17 (d := d_firsts_of) rfl
  obtain ⟨fd_lines_read, E_lines_read⟩ := c.d.def_ 18 (d := d_lines_read) rfl
  obtain ⟨fd_is_line, E_is_line⟩ := c.d.def_ 19 (d := d_is_line) rfl
  obtain ⟨fd_line_of, E_line_of⟩ := c.d.def_ 20 (d := d_line_of) rfl
  obtain ⟨fd_begin_of, E_begin_of⟩ := c.d.def_ 21 (d := d_begin_of) rfl
  obtain ⟨fd_both_shown, E_both_shown⟩ := c.d.def_ 22 (d := d_both_shown) rfl
  obtain ⟨fd_pairs_behind, E_pairs_behind⟩ := c.d.def_ 23 (d := d_pairs_behind) rfl
  obtain ⟨fd_parting_place, E_parting_place⟩ := c.d.def_ 24 (d := d_parting_place) rfl
  obtain ⟨fd_are_led_together, E_are_led_together⟩ := c.d.def_ 25 (d := d_are_led_together) rfl
  obtain ⟨fd_leader_of, E_leader_of⟩ := c.d.def_ 26 (d := d_leader_of) rfl
  obtain ⟨fd_straying_place, E_straying_place⟩ := c.d.def_ 27 (d := d_straying_place) rfl
  obtain ⟨fd_told_of, E_told_of⟩ := c.d.def_ 28 (d := d_told_of) rfl
  obtain ⟨fd_parted, E_parted⟩ := c.d.def_ 29 (d := d_parted) rfl
  obtain ⟨fd_walk_of, E_walk_of⟩ := c.d.def_ 30 (d := d_walk_of) rfl
  obtain ⟨fd_within, E_within⟩ := c.d.def_ 31 (d := d_within) rfl
  obtain ⟨fd_law_source_of, E_law_source_of⟩ := c.d.def_ 32 (d := d_law_source_of) rfl
  obtain ⟨fd_law_next, E_law_next⟩ := c.d.def_ 33 (d := d_law_next) rfl
  obtain ⟨fd_law_one, E_law_one⟩ := c.d.def_ 34 (d := d_law_one) rfl
  obtain ⟨fd_law_mixed, E_law_mixed⟩ := c.d.def_ 35 (d := d_law_mixed) rfl
  obtain ⟨fd_law_operations, E_law_operations⟩ := c.d.def_ 36 (d := d_law_operations) rfl
  obtain ⟨fd_law_rows, E_law_rows⟩ := c.d.def_ 37 (d := d_law_rows) rfl
  obtain ⟨fd_law_landed, E_law_landed⟩ := c.d.def_ 38 (d := d_law_landed) rfl
  obtain ⟨fd_law_shows, E_law_shows⟩ := c.d.def_ 39 (d := d_law_shows) rfl
  obtain ⟨fd_law_steps, E_law_steps⟩ := c.d.def_ 40 (d := d_law_steps) rfl
  obtain ⟨fd_law_hung, E_law_hung⟩ := c.d.def_ 41 (d := d_law_hung) rfl
  obtain ⟨fd_law_due, E_law_due⟩ := c.d.def_ 42 (d := d_law_due) rfl
  obtain ⟨fd_law, E_law⟩ := c.d.def_ 43 (d := d_law) rfl
  obtain ⟨fdM, E_FIMachine⟩ := c.d.def_ 44 (d := d_FIMachine) rfl
  obtain ⟨fdW, E_FIWalk⟩ := c.d.def_ 45 (d := d_FIWalk) rfl
  obtain ⟨fdm_take, E_FM_take⟩ := c.d.def_ 46 (d := d_FM_take) rfl
  obtain ⟨fdB, E_FIBody⟩ := c.d.def_ 47 (d := d_FIBody) rfl
  obtain ⟨tL, e_tL⟩ := nsStr (c.d.fact 3 (f := .str "LETTERS" lettersS) rfl)
  obtain ⟨t1, e_t1⟩ := nsInt (c.d.fact 4 (f := .int "LONGEST_NAME" 8) rfl)
  obtain ⟨t2, e_t2⟩ := nsInt (c.d.fact 5 (f := .int "MOST_OPERATIONS" 8) rfl)
  obtain ⟨t3, e_t3⟩ := nsInt (c.d.fact 6 (f := .int "MOST_ANSWERS" 6) rfl)
  obtain ⟨t4, e_t4⟩ := nsInt (c.d.fact 7 (f := .int "MOST_ROWS" 400) rfl)
  obtain ⟨⟨oc, od, dV, kV, doc, pm, an, cdv, ct, osl, eB, lB, cB, hdB, hkB⟩, kpB⟩ := id E_FIBody
  have zD : dV = .none := hdB.elim (·.2) fun z => absurd rfl z.1
  subst zD
  obtain ⟨DK, rfl, hst⟩ := hkB.resolve_left (fun z => nomatch z)
  obtain ⟨u, eD, tD, rfl⟩ := hst _ List.mem_cons_self
  exact all_mk X G hfa (show PySem.W.nsIn K mainGlobals "is_integer" = some (some (.ref (He.ga K "is_integer"))) from of_decide_eq_true (gx 0 rfl))
    (fun_of E_is_integer)
    (show PySem.W.nsIn K mainGlobals "is_within" = some (some (.ref (He.ga K "is_within"))) from of_decide_eq_true (gx 1 rfl))
    (fun_of E_is_within)
    (show PySem.W.nsIn K mainGlobals "is_index" = some (some (.ref (He.ga K "is_index"))) from of_decide_eq_true (gx 2 rfl))
    (fun_of E_is_index)
    (show PySem.W.nsIn K mainGlobals "is_row" = some (some (.ref (He.ga K "is_row"))) from of_decide_eq_true (gx 3 rfl))
    (fun_of E_is_row)
    (show PySem.W.nsIn K mainGlobals "is_name" = some (some (.ref (He.ga K "is_name"))) from of_decide_eq_true (gx 4 rfl))
    (fun_of E_is_name)
    (show PySem.W.nsIn K mainGlobals "is_text_in" = some (some (.ref (He.ga K "is_text_in"))) from of_decide_eq_true (gx 5 rfl))
    (fun_of E_is_text_in)
    (show PySem.W.nsIn K mainGlobals "are_counts" = some (some (.ref (He.ga K "are_counts"))) from of_decide_eq_true (gx 6 rfl))
    (fun_of E_are_counts)
    (show PySem.W.nsIn K mainGlobals "are_operations" = some (some (.ref (He.ga K "are_operations"))) from of_decide_eq_true (gx 7 rfl))
    (fun_of E_are_operations)
    (show PySem.W.nsIn K mainGlobals "in_order" = some (some (.ref (He.ga K "in_order"))) from of_decide_eq_true (gx 8 rfl))
    (fun_of E_in_order)
    (show PySem.W.nsIn K mainGlobals "word_of" = some (some (.ref (He.ga K "word_of"))) from of_decide_eq_true (gx 9 rfl))
    (fun_of E_word_of)
    (show PySem.W.nsIn K mainGlobals "are_nexts" = some (some (.ref (He.ga K "are_nexts"))) from of_decide_eq_true (gx 10 rfl))
    (fun_of E_are_nexts)
    (show PySem.W.nsIn K mainGlobals "joined" = some (some (.ref (He.ga K "joined"))) from of_decide_eq_true (gx 11 rfl))
    (fun_of E_joined)
    (show PySem.W.nsIn K mainGlobals "stops_of" = some (some (.ref (He.ga K "stops_of"))) from of_decide_eq_true (gx 12 rfl))
    (fun_of E_stops_of)
    (show PySem.W.nsIn K mainGlobals "rest_of" = some (some (.ref (He.ga K "rest_of"))) from of_decide_eq_true (gx 13 rfl))
    (fun_of E_rest_of)
    (show PySem.W.nsIn K mainGlobals "rests_from" = some (some (.ref (He.ga K "rests_from"))) from of_decide_eq_true (gx 14 rfl))
    (fun_of E_rests_from)
    (show PySem.W.nsIn K mainGlobals "nexts_of" = some (some (.ref (He.ga K "nexts_of"))) from of_decide_eq_true (gx 15 rfl))
    (fun_of E_nexts_of)
    (show PySem.W.nsIn K mainGlobals "shows_of" = some (some (.ref (He.ga K "shows_of"))) from of_decide_eq_true (gx 16 rfl))
    (fun_of E_shows_of)
    (show PySem.W.nsIn K mainGlobals "firsts_of" = some (some (.ref (He.ga K "firsts_of"))) from of_decide_eq_true (gx 17 rfl))
    (fun_of E_firsts_of)
    (show PySem.W.nsIn K mainGlobals "lines_read" = some (some (.ref (He.ga K "lines_read"))) from of_decide_eq_true (gx 18 rfl))
    (fun_of E_lines_read)
    (show PySem.W.nsIn K mainGlobals "is_line" = some (some (.ref (He.ga K "is_line"))) from of_decide_eq_true (gx 19 rfl))
    (fun_of E_is_line)
    (show PySem.W.nsIn K mainGlobals "line_of" = some (some (.ref (He.ga K "line_of"))) from of_decide_eq_true (gx 20 rfl))
    (fun_of E_line_of)
    (show PySem.W.nsIn K mainGlobals "begin_of" = some (some (.ref (He.ga K "begin_of"))) from of_decide_eq_true (gx 21 rfl))
    (fun_of E_begin_of)
    (show PySem.W.nsIn K mainGlobals "both_shown" = some (some (.ref (He.ga K "both_shown"))) from of_decide_eq_true (gx 22 rfl))
    (fun_of E_both_shown)
    (show PySem.W.nsIn K mainGlobals "pairs_behind" = some (some (.ref (He.ga K "pairs_behind"))) from of_decide_eq_true (gx 23 rfl))
    (fun_of E_pairs_behind)
    (show PySem.W.nsIn K mainGlobals "parting_place" = some (some (.ref (He.ga K "parting_place"))) from of_decide_eq_true (gx 24 rfl))
    (fun_of E_parting_place)
    (show PySem.W.nsIn K mainGlobals "are_led_together" = some (some (.ref (He.ga K "are_led_together"))) from of_decide_eq_true (gx 25 rfl))
    (fun_of E_are_led_together)
    (show PySem.W.nsIn K mainGlobals "leader_of" = some (some (.ref (He.ga K "leader_of"))) from of_decide_eq_true (gx 26 rfl))
    (fun_of E_leader_of)
    (show PySem.W.nsIn K mainGlobals "straying_place" = some (some (.ref (He.ga K "straying_place"))) from of_decide_eq_true (gx 27 rfl))
    (fun_of E_straying_place)
    (show PySem.W.nsIn K mainGlobals "told_of" = some (some (.ref (He.ga K "told_of"))) from of_decide_eq_true (gx 28 rfl))
    (fun_of E_told_of)
    (show PySem.W.nsIn K mainGlobals "parted" = some (some (.ref (He.ga K "parted"))) from of_decide_eq_true (gx 29 rfl))
    (fun_of E_parted)
    (show PySem.W.nsIn K mainGlobals "walk_of" = some (some (.ref (He.ga K "walk_of"))) from of_decide_eq_true (gx 30 rfl))
    (fun_of E_walk_of)
    (show PySem.W.nsIn K mainGlobals "within" = some (some (.ref (He.ga K "within"))) from of_decide_eq_true (gx 31 rfl))
    (fun_of E_within)
    (show PySem.W.nsIn K mainGlobals "_law_source_of" = some (some (.ref (He.ga K "_law_source_of"))) from of_decide_eq_true (gx 32 rfl))
    (fun_of E_law_source_of)
    (show PySem.W.nsIn K mainGlobals "_law_next" = some (some (.ref (He.ga K "_law_next"))) from of_decide_eq_true (gx 33 rfl))
    (fun_of E_law_next)
    (show PySem.W.nsIn K mainGlobals "_law_one" = some (some (.ref (He.ga K "_law_one"))) from of_decide_eq_true (gx 34 rfl))
    (fun_of E_law_one)
    (show PySem.W.nsIn K mainGlobals "_law_mixed" = some (some (.ref (He.ga K "_law_mixed"))) from of_decide_eq_true (gx 35 rfl))
    (fun_of E_law_mixed)
    (show PySem.W.nsIn K mainGlobals "_law_operations" = some (some (.ref (He.ga K "_law_operations"))) from of_decide_eq_true (gx 36 rfl))
    (fun_of E_law_operations)
    (show PySem.W.nsIn K mainGlobals "_law_rows" = some (some (.ref (He.ga K "_law_rows"))) from of_decide_eq_true (gx 37 rfl))
    (fun_of E_law_rows)
    (show PySem.W.nsIn K mainGlobals "_law_landed" = some (some (.ref (He.ga K "_law_landed"))) from of_decide_eq_true (gx 38 rfl))
    (fun_of E_law_landed)
    (show PySem.W.nsIn K mainGlobals "_law_shows" = some (some (.ref (He.ga K "_law_shows"))) from of_decide_eq_true (gx 39 rfl))
    (fun_of E_law_shows)
    (show PySem.W.nsIn K mainGlobals "_law_steps" = some (some (.ref (He.ga K "_law_steps"))) from of_decide_eq_true (gx 40 rfl))
    (fun_of E_law_steps)
    (show PySem.W.nsIn K mainGlobals "_law_hung" = some (some (.ref (He.ga K "_law_hung"))) from of_decide_eq_true (gx 41 rfl))
    (fun_of E_law_hung)
    (show PySem.W.nsIn K mainGlobals "_law_due" = some (some (.ref (He.ga K "_law_due"))) from of_decide_eq_true (gx 42 rfl))
    (fun_of E_law_due)
    (show PySem.W.nsIn K mainGlobals "law" = some (some (.ref (He.ga K "law"))) from of_decide_eq_true (gx 43 rfl))
    (fun_of E_law)
    (show PySem.W.nsIn K mainGlobals "Machine" = some (some (.ref (He.ga K "Machine"))) from of_decide_eq_true (gx 44 rfl))
    (He.cls_ok (c.d.fact 0 (f := .cls "Machine") rfl))
    (gx 45 rfl)
    (show PySem.W.findIn K (.ref (He.ga K "Machine")) "counts" = some none from of_decide_eq_true (gx 46 rfl))
    (show PySem.W.findIn K (.ref (He.ga K "Machine")) "lines" = some none from of_decide_eq_true (gx 47 rfl))
    (show PySem.W.findIn K (.ref (He.ga K "Machine")) "begin" = some none from of_decide_eq_true (gx 48 rfl))
    (show PySem.W.findIn K (.ref (He.ga K "Machine")) "stops" = some none from of_decide_eq_true (gx 49 rfl))
    (show PySem.W.findIn K (.ref (He.ga K "Machine")) "asks" = some none from of_decide_eq_true (gx 50 rfl))
    (show PySem.W.findIn K (.ref (He.ga K "Machine")) "endings" = some none from of_decide_eq_true (gx 51 rfl))
    (show PySem.W.findIn K (.ref (He.ga K "Machine")) "endless" = some none from of_decide_eq_true (gx 52 rfl))
    (gx 53 rfl)
    (show PySem.W.findIn K (.ref (He.ga K "Machine")) "__init__" = some (some (.ref (He.ma K (He.ga K "Machine") "__init__"))) from of_decide_eq_true (gx 54 rfl))
    (gx 55 rfl)
    (fun_of E_FIMachine)
    (show PySem.W.nsIn K mainGlobals "Walk" = some (some (.ref (He.ga K "Walk"))) from of_decide_eq_true (gx 56 rfl))
    (He.cls_ok (c.d.fact 1 (f := .cls "Walk") rfl))
    (gx 57 rfl)
    (show PySem.W.findIn K (.ref (He.ga K "Walk")) "one" = some none from of_decide_eq_true (gx 58 rfl))
    (show PySem.W.findIn K (.ref (He.ga K "Walk")) "other" = some none from of_decide_eq_true (gx 59 rfl))
    (show PySem.W.findIn K (.ref (He.ga K "Walk")) "met" = some none from of_decide_eq_true (gx 60 rfl))
    (show PySem.W.findIn K (.ref (He.ga K "Walk")) "origins" = some none from of_decide_eq_true (gx 61 rfl))
    (gx 62 rfl)
    (show PySem.W.findIn K (.ref (He.ga K "Walk")) "__init__" = some (some (.ref (He.ma K (He.ga K "Walk") "__init__"))) from of_decide_eq_true (gx 63 rfl))
    (gx 64 rfl)
    (fun_of E_FIWalk)
    (show PySem.W.findIn K (.ref (He.ga K "Walk")) "take" = some (some (.ref (He.ma K (He.ga K "Walk") "take"))) from of_decide_eq_true (gx 65 rfl))
    (gx 66 rfl)
    (fun_of E_FM_take)
    (show PySem.W.nsIn K mainGlobals "Body" = some (some (.ref (He.ga K "Body"))) from of_decide_eq_true (gx 67 rfl))
    (He.cls_ok (c.d.fact 2 (f := .cls "Body") rfl))
    (gx 68 rfl)
    (show PySem.W.findIn K (.ref (He.ga K "Body")) "machine" = some none from of_decide_eq_true (gx 69 rfl))
    (gx 70 rfl)
    (show PySem.W.findIn K (.ref (He.ga K "Body")) "__init__" = some (some (.ref (He.ma K (He.ga K "Body") "__init__"))) from of_decide_eq_true (gx 71 rfl))
    (gx 72 rfl)
    ⟨oc, od, doc, pm, an, cdv, ct, osl, eB, lB, cB⟩
    E_FIBody.kp
    eD
    (show PySem.W.nsIn K mainGlobals "int" = some none from of_decide_eq_true (gx 73 rfl))
    (show PySem.W.nsIn K mainGlobals "isinstance" = some none from of_decide_eq_true (gx 74 rfl))
    (show PySem.W.nsIn K mainGlobals "bool" = some none from of_decide_eq_true (gx 75 rfl))
    (show PySem.W.nsIn K mainGlobals "str" = some none from of_decide_eq_true (gx 76 rfl))
    (show PySem.W.nsIn K mainGlobals "list" = some none from of_decide_eq_true (gx 77 rfl))
    (show PySem.W.nsIn K mainGlobals "tuple" = some none from of_decide_eq_true (gx 78 rfl))
    (show PySem.W.nsIn K mainGlobals "dict" = some none from of_decide_eq_true (gx 79 rfl))
    (show PySem.W.nsIn K mainGlobals "len" = some none from of_decide_eq_true (gx 80 rfl))
    (show PySem.W.nsIn K mainGlobals "all" = some none from of_decide_eq_true (gx 81 rfl))
    (show PySem.W.nsIn K mainGlobals "range" = some none from of_decide_eq_true (gx 82 rfl))
    (show PySem.W.nsIn K mainGlobals "sorted" = some none from of_decide_eq_true (gx 83 rfl))
    (show PySem.W.nsIn K mainGlobals "min" = some none from of_decide_eq_true (gx 84 rfl))
    (show PySem.W.nsIn K mainGlobals "max" = some none from of_decide_eq_true (gx 85 rfl))
    (show PySem.W.nsIn K mainGlobals "enumerate" = some none from of_decide_eq_true (gx 86 rfl))
    (show PySem.W.nsIn K mainGlobals "zip" = some none from of_decide_eq_true (gx 87 rfl))
    e_tL
    e_t1
    e_t2
    e_t3
    e_t4
    
end Mine

set_option maxRecDepth 100000
set_option maxHeartbeats 4000000
namespace Mine
theorem runL (w : PySem.World) : HandSHeadRun.RunEq Rw (PySem.W.view Rw.prog [66]) hkL obL 9000 looseL w := by
  intro os
  kernel_rfl
end Mine
open PySem PySem.W PySem.Calls PyProof.Rows
set_option maxHeartbeats 0 in
theorem PySem.Challenge.cw_askfurther_k25_whole_bodies_that_go_less_holds : PySem.Challenge.rw_askfurther_k25_whole_bodies_that_go_less.Holds := by
  w_on; o_law
  refine HandSHeadRun.head_any (r := OpenLaw.row PySem.Challenge.rw_askfurther_k25_whole_bodies_that_go_less) (q := view (OpenLaw.row PySem.Challenge.rw_askfurther_k25_whole_bodies_that_go_less).prog [66]) (H := Mine.hkL) (ob := Mine.obL) (M := 9000) (loose := Mine.looseL) (d := HandSHeadRun.topDef (OpenLaw.row PySem.Challenge.rw_askfurther_k25_whole_bodies_that_go_less).prog 66) (kwd := []) Mine.obL_eq
    (by kernel_rfl) (fun s => by kernel_rfl) Mine.runL (by kernel_rfl) (by kernel_rfl) (by kernel_rfl) (by rfl) (by first | assumption | decide +kernel) (by decide +kernel) ⟨rfl, rfl, rfl, rfl, rfl, by decide +kernel⟩ ?hw ?hc
  case hw => w_witness2
  case hc =>
    refine LamX.walk_ofTsE (l := PySem.Challenge.rw_askfurther_k25_whole_bodies_that_go_less) (n := 63) (k := 9) (x := "_law_script") (CX := fun _ => L2.CX0) rfl (by decide) (by kernel_rfl) ⟨rfl, by decide, by decide⟩ ?F (fun _ _ _ _ _ z => z)
    intro w mg fa h Y G hmg0
    obtain ⟨K, KX, c⟩ := Y
    have hmg : mg ("law" : PySem.Str) = some (.ref fa) := by
      have e : (HandSHeadRun.topDef (OpenLaw.row PySem.Challenge.rw_askfurther_k25_whole_bodies_that_go_less).prog 66).name = ("law" : PySem.Str) := by kernel_rfl
      rw [← e]
      exact hmg0
    exact ⟨K, KX, Mine.allL KX G hmg c⟩
