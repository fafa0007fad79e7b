import PyProof.Rows.All
import Wide.All
import OpenK.AllK
import Wide.FinOn
import PyProof.EqAt
import PyProof.EqKinds
import PyProof.TupleCall
import PyProof.ReprRoads
import KE.KIsAll
import KE.KTryMore
import HandS.ForMost
import HandS.Exc
import HandS.ExcOwn
import HandS.ExcInit
import HandS.ExcIs
import HandS.ExcField
import HandS.ExcCtx
import HandS.HotCalls
import HandS.IsInst
import HandS.Wide
import HandS.WideMore
import HandS.HeadHook1
import HandS.HeadHook2
import HandS.Defaults
import HandS.OwnEq
import HandS.Evl
import HandS.ExcValue
import HandS.TupMul
import HandS.Walk
import KE.GoesMore
import HandS.DictComp
import HandS.TryOnly
import HandS.MakeKwOnly
import HandS.Property
import HandS.SortRule
import HandS.SortInts
import HandS.Conv
import HandS.Style
import HandS.MakeKw
import HandS.Head0
import HandS.Head1
import HandS.Head2
import HandS.HeadEnd
import PySem.Challenge.RW_looksleft_k04_runnings_deed_by_deed
set_option Elab.async false
set_option linter.all false
set_option maxRecDepth 100000
set_option maxHeartbeats 4000000
/-! Exceptions of own classes as plain values: what stands at them, isinstance, their attributes. -/
namespace LK
open PySem PySem.Spec PyProof.Rows L2
/-- at a: an exception of the class at C, whose own dict is d -/
def exV (a C : Addr) (d : Option Addr) : HO :=
  .ext fun h => ∃ (oe : Obj) (vs : Array Value), h.get? a = some oe ∧ oe.cls = .ref C ∧ oe.dict = d ∧ oe.data = .fields vs
theorem exV_ok {P : Program} {w : World} {H : Hp} {h : Heap} {a C : Addr} {d : Option Addr} {oe : Obj} {vs : Array Value}
    (e : h.get? a = some oe) (c : oe.cls = .ref C) (dd : oe.dict = d) (da : oe.data = .fields vs) : ObjOk P w H h a (exV a C d) :=
  ⟨⟨oe, vs, e, c, dd, da⟩, ⟨oe, e⟩, fun _ _ q k => by
    obtain ⟨o, v, q1, q2⟩ := q
    exact ⟨o, v, k o q1, q2⟩⟩
/-- the attributes that stand in the dict at d -/
def HasF (H : Hp) (d : Addr) (fs : List (Str × V)) : Prop := H d = some (exd d fs) ∨ H d = some (.xd fs)
/-- an exception at a, its class and its dict -/
structure IsEx (H : Hp) (a C : Addr) (d : Option Addr) : Prop where
  rd : Rd H a (exV a C d)
  dt : ∀ dd, d = some dd → ∃ fs, HasF H dd fs
section
variable {X : Cx} {pins : List (Addr × Obj)} {σ : L2.St} {H : Hp} {s : Shared} {a C : Addr} {d : Option Addr}
theorem HasF.get {dd : Addr} {fs : List (Str × V)} (I : Inv X pins σ H s) (h : HasF H dd fs) : ∃ mA, s.heap.Ns1 dd mA ∧ ∀ f, RelO (fs.lookup f) (mA f) := by
  rcases h with h | h
  · exact exd_at I.hok h
  · exact I.hok dd _ h
theorem IsEx.inst (I : Inv X pins σ H s) (h : IsEx H a C d) : ∃ oe od, PySem.W.InstAt s.heap a oe C od ∧ (d = none → od = none) ∧ ∀ dd, d = some dd → ∃ o, od = some o ∧ s.heap.get? dd = some o := by
  obtain ⟨oe, vs, e, c, q, da⟩ := (h.rd.ok I.hok).1
  have nc : PySem.W.notCls oe = true := by unfold PySem.W.notCls; rw [da] <;> rfl
  cases hd : d with
  | none => exact ⟨oe, none, ⟨e, c, nc, by rw [q, hd]; trivial⟩, fun _ => rfl, fun _ z => nomatch z⟩
  | some dd =>
    obtain ⟨fs, hf⟩ := h.dt dd hd
    obtain ⟨mA, ⟨o, es, ep, ho, _⟩, _⟩ := hf.get I
    refine ⟨oe, some o, ⟨e, c, nc, by rw [q, hd]; exact ho⟩, (fun z => by cases z), fun d2 z => ?_⟩
    cases z
    exact ⟨o, rfl, ho⟩
end
end LK
namespace PySem.W
open PySem PySem.Spec PySem.Calls PyProof.Rows
section
variable {prog : Program} {w : World} {A : Around} {E : Value → Shared → Prop} {s : Shared} {K : Frag} {x D : Addr} {ox : Obj} {od : Option Obj}
theorem lk_found {C : Addr} {n : Str} {a g : Value} (hc : (clsIn K C).isSome = true) (ha : findIn K (.ref C) n = some (some a)) (hg : specialIn K a "__get__" = some (some g))
    (ht : takesIn K a = some true) : findObj K C od n = some (.bind g a) := by
  obtain ⟨cd, hc⟩ := Option.isSome_iff_exists.mp hc
  unfold findObj
  rw [hc, Option.bind_some, ha, Option.bind_some]
  simp [hg, ht]
theorem lk_class {Q : Option Value → Shared → Prop} (c : L2.ExcC K D) (Y : K.In s.heap) (I : InstAt s.heap x ox D od) (h : Q (some (.ref D)) { s with toks := s.toks + 1 }) :
    wpAny (model prog w) A (getAttr? (.ref x) "__class__") Q E s := by
  have found : findObj K D od "__class__" = some (.bind (.builtin "getset_descriptor.__get__") (.builtin "object.__class__")) :=
    lk_found (by obtain ⟨cd, hc, _⟩ := any_some c.hd; rw [hc]; rfl) c.ha c.hn c.ht
  obtain ⟨hp, gs, dr, tk, os⟩ := s
  have T0 := I.type (M := model prog w)
  have T1 := looks_findIn (M := model prog w) Y c.hg
  have T2 := looks_findIn (M := model prog w) Y c.hk
  have T3 := looks_find (M := model prog w) Y I found
  have isB : Looks (model prog w) hp (isInstance (.ref x) (.type "BaseException")) true := T0.andThen (looks_subIn Y c.hs)
  have n0 : (false && onTheHeap (Value.builtin "BaseException.__getattribute__")) = false := rfl
  have n2 : (Value.builtin "BaseException.__getattribute__" == Value.builtin "object.__getattribute__") = false := by decide +kernel
  have n1 : (onTheHeap (Value.ref D) && Value.builtin "BaseException.__getattribute__" == Value.builtin "object.__getattribute__") = false := by rw [n2, Bool.and_false]
  unfold getAttr? getAttrBy? getAttrBy
  refine wpAny_bind (wpAny_mkText (wpAny_bind (wpAny_attempt (wpAny_holding (wpAny_bind (T0.at (wpAny_bind (T1.at ?_))))))))
  show wpAny _ _ (if (onTheHeap (Value.ref D) && Value.builtin "BaseException.__getattribute__" == Value.builtin "object.__getattribute__") = true then _ else _) _ _ _
  rw [n1, if_neg Bool.false_ne_true]
  unfold getAttrByItsOwn hookBefore
  refine wpAny_bind ?_
  rw [if_pos (show onTheHeap (Value.ref D) = true from rfl)]
  refine T2.at ?_
  refine wpAny_bind (wpAny_attempt (wpAny_holding ?_))
  unfold callGetattribute
  rw [n0, if_neg Bool.false_ne_true]
  unfold boundAndCalled
  rw [PySem.F.excAttr_ValueError.ga.bind (.ref x)]
  refine wpAny_bind (wpAny_pure ?_)
  show wpAny _ _ (call (.builtin "BaseException.__getattribute__") [.ref x, .str "__class__" tk]) _ _ _
  refine wpAny_call (codeAny_call_builtin PySem.F.excAttr_ValueError.ga.plain PySem.F.entry_bexc_ga ?_)
  refine @check_slot (model prog w) _ _ ⟨hp, gs, dr, tk + 1, os⟩ "BaseException.__getattribute__" "BaseException" "__getattribute__" (.ref x) [.str "__class__" tk] [] _ (by decide +kernel) (by decide +kernel) isB (PySem.F.args_bexc_ga (.ref x) (.str "__class__" tk)) ?_
  unfold Builtin.«object.__getattribute__»
  refine wpAny_bind (wpAny_of_eq (a := ((Value.ref x : Value), [Value.str "__class__" tk])) (by first | rfl | (simp only [slotArgs]; rfl)) ?_)
  refine wpAny_bind (wpAny_pure (wpAny_bind (T0.at (wpAny_bind (T3.at ?_)))))
  show wpAny _ _ (holding [Value.builtin "object.__class__"] (call (.builtin "getset_descriptor.__get__") [.builtin "object.__class__", .ref x, .ref D]) >>= ret) _ _ _
  refine wpAny_bind (wpAny_holding (wpAny_call (class_get (s := ⟨hp, gs, dr, tk + 1, os⟩) (ox := ox) (od := od) Y I c.hm ?_)))
  refine wpAny_pure ?_
  show wpAny _ _ (handedOut (.ref D)) _ _ _
  rw [handedOut_of (v := .ref D) rfl]
  first
    | exact wpAny_pure (wpAny_pure h)
    | exact wpAny_pure h
    | exact wpAny_pure (wpAny_bind (wpAny_pure (wpAny_pure h)))
theorem lk_kit (c : L2.ExcC K D) : KitX K (.ref x) (.ref D) (fun h => ∃ ox od, InstAt h x ox D od) where
  ty := fun _ _ _ ⟨_, _, I⟩ => I.type
  it := fun _ _ Y _ => by
    obtain ⟨cdD, hcD, _⟩ := any_some c.hd
    unfold clsIn at hcD
    split at hcD
    · rename_i c' d' cd' sl' ho
      intro A' Q' E' s' k q
      unfold isType loadHead
      exact wpAny_bind (wpAny_loadPart (k _ _ (Y _ _ ho)) (wpAny_pure q))
    · cases hcD
  ne := fun h tp dd its n sl Y htp => by
    obtain ⟨cdD, hcD, _⟩ := any_some c.hd
    refine Bool.eq_false_iff.mpr fun q => ?_
    have e : D = tp := Value.ref.inj (beq_iff_eq.mp q)
    subst e
    unfold clsIn at hcD
    split at hcD
    · rename_i c' d' cd' sl' ho
      have z := (Y _ _ ho).symm.trans htp
      cases z
    · cases hcD
  ca := fun Y ⟨_, _, I⟩ k => lk_class c Y I k
end
end PySem.W
namespace LK
open PySem PySem.Spec PyProof.Rows L2
section
variable {X : Cx}
/-- isinstance(e, C): e an exception of an own class -/
def rIsX (K : PySem.W.Frag) : List V → Hp → VK → Prop := fun xs H Q => ∃ (a D : Addr) (d : Option Addr) (c : V) (cv : Value) (b : Bool),
  xs = [.ref a, c] ∧ IsEx H a D d ∧ ExcC K D ∧ ClsV c cv ∧ PySem.W.kitOne K (.ref D) cv = some b ∧ Q (.bl b) H
/-- isinstance(e, (C1, C2, ..)) -/
def rIsXT (K : PySem.W.Frag) : List V → Hp → VK → Prop := fun xs H Q => ∃ (a D tp : Addr) (d : Option Addr) (cs : List V) (us : List Value) (b : Bool),
  xs = [.ref a, .ref tp] ∧ H tp = some (.tup cs) ∧ Paired ClsV cs us ∧ IsEx H a D d ∧ ExcC K D ∧ PySem.W.kitAny K (.ref D) us = some b ∧ Q (.bl b) H
theorem call_isX : CallR X (.builtin "isinstance") (rIsX X.K) := by
  intro pins s σ H xs us Q I r h
  obtain ⟨a, D, d, c, cv, b, rfl, hx, ec, k, e, q⟩ := h
  obtain ⟨u1, u2, rfl, r1, r2⟩ := vals2 r
  cases r1
  have e2 := k.eq r2
  subst e2
  obtain ⟨oe, od, J, _⟩ := hx.inst I
  exact PySem.W.kia_one (PySem.W.lk_kit ec) I.kIn ⟨oe, od, J⟩ e (fun z => nomatch z) fun tk => ⟨.bl b, H, I.tok tk, rfl, q⟩
theorem call_isXT : CallR X (.builtin "isinstance") (rIsXT X.K) := by
  intro pins s σ H xs us Q I r h
  obtain ⟨a, D, tp, d, cs, ws, b, rfl, hT, k, hx, ec, e, q⟩ := h
  obtain ⟨u1, u2, rfl, r1, r2⟩ := vals2 r
  cases r1
  cases (show u2 = Value.ref tp from r2)
  obtain ⟨oe, od, J, _⟩ := hx.inst I
  obtain ⟨_, its, rv, o, h1, h2, n, h3⟩ := (show ObjOk X.prog X.w H s.heap tp (.tup cs) from I.hok tp _ hT)
  have e3 := ClsV.all k rv
  subst e3
  obtain ⟨oc, odd, dt, sl⟩ := o
  simp only at h2 h3
  subst h2 h3
  exact PySem.W.kia_tup (PySem.W.lk_kit ec) I.kIn ⟨oe, od, J⟩ h1 e (fun z => nomatch z) fun tk => ⟨.bl b, H, I.tok tk, rfl, q⟩
/-- e.f, f an attribute of the exception's own -/
def tExF (K : PySem.W.Frag) (f : Str) (te : TE) : TE := fun σ H Q => te σ H fun x H1 => ∃ (a C dd : Addr) (fs : List (Str × V)) (v : V),
  x = .ref a ∧ IsEx H1 a C (some dd) ∧ HasF H1 dd fs ∧ XfC K C ∧ PySem.W.findIn K (.ref C) f = some none ∧ fs.lookup f = some v ∧ Q v H1
theorem pe_exf {e : Expr} {te : TE} {n : Str} {pos : Pos} (he : PE X e te) (hb : attributeBase e n X.env (eval e X.env) = eval e X.env := by rfl) :
    PE X (.Attribute e n pos) (tExF X.K n te) := by
  refine ⟨fun pins s σ H Q I h => ?_⟩
  refine attr_of hb (thn (he.run pins s σ H _ I h) fun u s1 hh => ?_)
  obtain ⟨x, H1, I1, rx, a, C, dd, fs, v, ex, hx, hf, T, hno, l, q⟩ := hh
  subst ex
  obtain rfl : u = Value.ref a := rx
  obtain ⟨oe, od, J, _, hd⟩ := hx.inst I1
  obtain ⟨o, rfl, ho⟩ := hd dd rfl
  obtain ⟨mA, hns, hr⟩ := hf.get I1
  obtain ⟨o2, ho2, hl⟩ := lookIn_ns hns
  rw [ho] at ho2
  cases ho2
  obtain ⟨u, hu, ru⟩ := RelO.some_of (v := v) (o := mA n) (by rw [← l]; exact hr n)
  exact HandSPX.exc_get I1.kIn J T.ga T.gg T.exC (PySem.W.findObj_own T.hdC hno rfl (by rw [hl, hu])) (handed_of ru) ⟨v, H1, I1.tok _, ru, q⟩
end
end LK

set_option maxHeartbeats 4000000
/-! An own exception class called with keywords too. -/
namespace PySem
namespace LKx
open PySem.W PySem.Calls PyProof.Rows PySem.HandSPX Builtin Builtin.ObjectAttr
section
variable {prog : Program} {w : World} {A : Around} {E : Value → Shared → Prop} {R : Result → Shared → Prop} {h : Heap} {g : Array GenState} {d : Drawn} {t : Nat} {os : OsState}
variable {nm q : Str} {C N : Addr} {bs bm bmB : List Value} {hdct : Bool} {sn : List Str} {sub : List Value} {ab : Bool} {col : Option Bool} {dd : Option Addr} {k0 k1 k2 k3 k5 : Option Value} {B newId initId : String}
theorem new_seen {M : Model} {kw : List (Str × Value)} (F : ExcBaseFacts B newId initId bmB) (tails : ∀ X : String, bm.contains (.type X) = bmB.contains (.type X)) {rest : List Value} {Q : Unit → Shared → Prop}
    (at_ : h.get? C = some (excClassObj nm q C N bs bm hdct sn sub ab col dd k0 k1 k2 k3 k5 newId)) (hq : Q () ⟨h, g, d, t, os⟩) :
    wpAny M A (checkBuiltinCall newId ⟨.ref C :: rest, kw⟩) Q E ⟨h, g, d, t, os⟩ := by
  have inB : (Value.ref C :: bm).contains (.type B) = true := by rw [List.contains_cons, tails, F.hasB, Bool.or_true]
  have star := F.noStar
  simp only [checkBuiltinCall, F.newKind, F.newSplit, F.newRow]
  repeat (first
    | refine wpAny_loadPart_at at_ ?_
    | (refine wpAny_isSubtype_exc at_ ?_; rw [inB])
    | refine wpAny_staticBase_exc at_ ?_
    | refine wpAny_madeBy_exc at_ ?_
    | simp only [bne_self_eq_false, Bool.false_eq_true, if_false]
    | wp_step)
  exact hq
theorem new_made {kw : List (Str × Value)} (F : ExcBaseFacts B newId initId bmB) (tails : ∀ X : String, bm.contains (.type X) = bmB.contains (.type X)) {rest : List Value}
    (at_ : h.get? C = some (excClassObj nm q C N bs bm hdct sn sub ab col dd k0 k1 k2 k3 k5 newId))
    (hq : R (.ok (.ret (.ref (h.objs.size + 1)))) ⟨(h.push (W.kdv_tup rest)).push (excO C h.objs.size), g, d, t, os⟩) (few : rest.length ≤ sizeLine) :
    codeAny (model prog w) A (.builtin newId ⟨.ref C :: rest, kw⟩) R ⟨h, g, d, t, os⟩ := by
  have ends := F.ends
  have inB : (Value.ref C :: bm).contains (.type B) = true := by rw [List.contains_cons, tails, F.hasB, Bool.or_true]
  have noA : (Value.ref C :: bm).contains (.type "AttributeError") = false := by
    rw [List.contains_cons, tails, F.noAttr]
    rfl
  have noN : (Value.ref C :: bm).contains (.type "NameError") = false := by
    rw [List.contains_cons, tails, F.noName]
    rfl
  refine codeAny_builtinAt F.entry ?_
  unfold Builtin.«BaseException.__new__»
  refine wpAt_bind ?_
  show wpAt _ _ _ (stack >>= _) _ _ _
  refine wpAt_bind (wpAt_stack fun p below => wpAt_of_wpAny ?_)
  wp_walk
  refine wpAt_of_wpAny ?_
  rw [F.owner]
  repeat (first
    | with_reducible refine wpAny_madeHere_exc F.canon at_ ?_
    | with_reducible refine wpAny_loadPart_at at_ ?_
    | (with_reducible refine wpAny_isSubtype_exc at_ ?_; first | rw [inB] | rw [noA] | rw [noN])
    | wp_step)
  show R _ _
  rw [Heap.size_push]
  exact hq
theorem type_called {kw : List (Str × Value)} (F : ExcBaseFacts B newId initId bmB) (tails : ∀ X : String, bm.contains (.type X) = bmB.contains (.type X)) {rest : List Value} {fI : Addr} {Q : Fin → Shared → Prop}
    (at_ : h.get? C = some (excClassObj nm q C N bs bm hdct sn sub ab col dd k0 k1 k2 k3 k5 newId))
    (hi : W.Looks (model prog w) h (typeLookup (.ref C) "__init__") (some (.ref fI))) (hb : ∀ self, W.Looks (model prog w) h (bindSpecial (.ref fI) self) (.ref fI, [self])) (few : rest.length ≤ sizeLine)
    (hq : codeAny (model prog w) A (.call (.ref fI) ⟨.ref (h.objs.size + 1) :: rest, kw⟩)
      (fun r s' => match r with | .ok (.ret v) => v = .none ∧ Q (.done (.ret (.ref (h.objs.size + 1)))) s' | .ok _ => False | .error e => E e s')
      ⟨(h.push (W.kdv_tup rest)).push (excO C h.objs.size), g, d, t, os⟩) :
    wpAny (model prog w) A (Builtin.«type.__call__» ⟨.ref C :: rest, kw⟩) Q E ⟨h, g, d, t, os⟩ := by
  repeat (first
    | with_reducible refine wpAny_loadPart_at at_ ?_
    | with_reducible refine wpAny_madeBy_exc at_ ?_
    | wp_step)
  refine codeAny_call_builtin_code (Code.quiet_builtin _ F.quiet) (new_seen F tails at_ ?_)
  refine new_made F tails at_ ?_ few
  show wpAny _ _ _ _ _ _
  have k : ∀ b o, h.get? b = some o → ((h.push (W.kdv_tup rest)).push (excO C h.objs.size)).get? b = some o := fun b o e => Heap.get?_push_of_some _ (Heap.get?_push_of_some _ e)
  have at1 := k _ _ at_
  have new1 : ((h.push (W.kdv_tup rest)).push (excO C h.objs.size)).get? (h.objs.size + 1) = some (excO C h.objs.size) := by heap_get
  have inC : (Value.ref C :: bm).contains (.ref C) = true := by simp
  have i1 := hi.keeps k
  have b1 := (hb (.ref (h.objs.size + 1))).keeps k
  unfold isInstance
  repeat (first
    | with_reducible refine wpAny_loadPart_at new1 ?_
    | (with_reducible refine wpAny_isSubtype_exc at1 ?_; rw [inC])
    | wp_step)
  show wpAny _ _ (typeLookup (.ref C) _) _ _ _
  refine i1.at ?_
  refine wpAny_holding (wpAny_bind (b1.at ?_))
  refine wpAny_bind (wpAny_call (codeAny_mono hq fun r s' z => ?_))
  rcases r with e | (v | _ | _ | _) <;> first | exact z | exact z.elim | skip
  obtain ⟨rfl, z⟩ := z
  first
    | exact wpAny_pure (wpAny_pure z)
    | (wp_walk; exact z)
theorem own_called {kw : List (Str × Value)} (F : ExcBaseFacts B newId initId bmB) (tails : ∀ X : String, bm.contains (.type X) = bmB.contains (.type X)) {rest : List Value} {fI : Addr}
    (at_ : h.get? C = some (excClassObj nm q C N bs bm hdct sn sub ab col dd k0 k1 k2 k3 k5 newId))
    (hi : W.Looks (model prog w) h (typeLookup (.ref C) "__init__") (some (.ref fI))) (hb : ∀ self, W.Looks (model prog w) h (bindSpecial (.ref fI) self) (.ref fI, [self])) (few : rest.length ≤ sizeLine)
    (hq : codeAny (model prog w) (A.under (.builtin "type.__call__" ⟨.ref C :: rest, kw⟩)) (.call (.ref fI) ⟨.ref (h.objs.size + 1) :: rest, kw⟩) (W.InitBack (h.objs.size + 1) R)
      ⟨(h.push (W.kdv_tup rest)).push (excO C h.objs.size), g, d, t, os⟩) :
    codeAny (model prog w) A (.call (.ref C) ⟨rest, kw⟩) R ⟨h, g, d, t, os⟩ := by
  have f1 := tc_lookup
  have f2 := tc_bind (.ref C)
  have isT : (⟨h, g, d, t, os⟩ : Shared).TypeIs (.ref C) "type" := ⟨_, at_, rfl⟩
  refine codeAny_of_tree ?_
  show wpAny _ _ (callAny (.ref C) _) _ _ _
  repeat (any_goals (first | assumption | with_reducible refine wpAny_loadPart_at at_ ?_ | wp_step))
  refine ⟨rfl, ?_⟩
  refine codeAny_call_builtin_at (Code.quiet_builtin _ (by decide +kernel)) entry_typeCall (wpAny_check_type_call_sub at_ (type_called F tails at_ hi hb few ?_))
  refine codeAny_mono hq fun r s' z => ?_
  rcases r with e | (v | _ | _ | _) <;> exact z
end
end LKx
end PySem

set_option maxHeartbeats 4000000
namespace LK
open PySem PySem.Spec PyProof.Rows L2
/-! ### a class of errors, by a look at the written part -/
abbrev veMro (C L : Addr) : List Value := [.ref C, .ref L, .type "ValueError", .type "Exception", .type "BaseException", .type "object"]
def clsB (K : PySem.W.Frag) (C L : Addr) : Bool := match K.lookup C with
  | some ⟨.type "type", _, .cls cd, sl⟩ => decide (cd.mro = veMro C L) && (!cd.hasDel && (cd.hasDict && (match sl.toList with
    | [_, _, _, _, some (.builtin n), _] => n == "ValueError.__new__"
    | _ => false)))
  | _ => false
theorem clsB_ok {K : PySem.W.Frag} {C L : Addr} (h : clsB K C L = true) :
    (∃ nm q N bs sn sub ab col dd k0 k1 k2 k3 k5, K.lookup C = some (excClassObj nm q C N bs [.ref L, .type "ValueError", .type "Exception", .type "BaseException", .type "object"] true sn sub ab col dd k0 k1 k2 k3 k5 "ValueError.__new__")) ∧
      ∃ cd, PySem.W.clsIn K C = some cd ∧ cd.mro = veMro C L := by
  unfold clsB at h
  split at h
  · rename_i dd cd sl ho
    obtain ⟨h1, h2⟩ := Bool.and_eq_true_iff.mp h
    obtain ⟨h3, h4⟩ := Bool.and_eq_true_iff.mp h2
    obtain ⟨h5, h6⟩ := Bool.and_eq_true_iff.mp h4
    have hm := of_decide_eq_true h1
    refine ⟨?_, cd, by unfold PySem.W.clsIn; rw [ho], hm⟩
    split at h6
    · rename_i k0 k1 k2 k3 n k5 hs
      obtain ⟨nm, bs, mro, ns, qn, hd, sn, sub, ab, col, del⟩ := cd
      dsimp only at hm h3 h5
      subst hm h5
      have hdel : del = false := by simpa using h3
      subst hdel
      have hn : n = "ValueError.__new__" := beq_iff_eq.mp h6
      subst hn
      have hsl : sl = #[k0, k1, k2, k3, some (.builtin "ValueError.__new__"), k5] := by
        obtain ⟨l⟩ := sl
        simp only at hs
        rw [hs]
      subst hsl
      exact ⟨nm, qn, ns, bs, sn, sub, ab, col, dd, k0, k1, k2, k3, k5, ho⟩
    · cases h6
  · cases h
/-- one of the error classes -/
structure EK (K : PySem.W.Frag) (C L : Addr) : Prop where
  mro : ∃ cd, PySem.W.clsIn K C = some cd ∧ cd.mro = veMro C L
  oex : OexC K C
  xf : XfC K C
  isc : ExcC K C
def ekB (K : PySem.W.Frag) (C L : Addr) : Bool :=
  clsB K C L && (He.eqO (PySem.W.findIn K (.ref C) "__setattr__") (some (some (.builtin "object.__setattr__"))) && (decide (PySem.W.subIn K (.ref C) (.type "BaseException") = some true) && (decide (PySem.W.typeIn K (.ref C) = some (.type "type")) &&
    (PySem.W.keepIn K (.ref C) && (xfB K C && (He.eqO (PySem.W.findIn K (.ref C) "__class__") (some (some (.builtin "object.__class__"))) &&
      (He.eqO (PySem.W.specialIn K (.builtin "object.__class__") "__get__") (some (some (.builtin "getset_descriptor.__get__"))) && (decide (PySem.W.takesIn K (.builtin "object.__class__") = some true) && decide (PySem.W.mroIn K C (.type "object") = some true)))))))))
theorem ekB_ok {K : PySem.W.Frag} {C L : Addr} (h : ekB K C L = true) : EK K C L := by
  unfold ekB at h
  simp only [Bool.and_eq_true] at h
  obtain ⟨h1, h2, h3, h4, h5, h6, h7, h8, h9, h10⟩ := h
  obtain ⟨⟨nm, q, N, bs, sn, sub, ab, col, dd, k0, k1, k2, k3, k5, e⟩, m⟩ := clsB_ok h1
  have x := xfB_ok h6
  exact ⟨m, ⟨⟨nm, q, N, bs, _, sn, sub, ab, col, dd, k0, k1, k2, k3, k5, e, by first | rfl | decide +kernel⟩, He.eqO_ok h2, of_decide_eq_true h3, of_decide_eq_true h4, h5⟩, x,
    ⟨x.ga, x.gg, x.exC, x.hdC, He.eqO_ok h7, He.eqO_ok h8, of_decide_eq_true h9, of_decide_eq_true h10⟩⟩
theorem EK.sub {K : PySem.W.Frag} {C L : Addr} (h : EK K C L) (v : Value) : PySem.W.subIn K (.ref C) v = some ((veMro C L).contains v) := by
  obtain ⟨cd, e, m⟩ := h.mro
  show PySem.W.mroIn K C v = _
  unfold PySem.W.mroIn
  rw [e, Option.bind_some, m]
  rfl
theorem EK.some {K : PySem.W.Frag} {C L : Addr} (h : EK K C L) : (PySem.W.clsIn K C).isSome = true := by
  obtain ⟨cd, e, m⟩ := h.mro
  rw [e]
  rfl
/-- isinstance between two of the classes -/
theorem EK.kit {K : PySem.W.Frag} {C D L : Addr} (h : EK K C L) (h' : EK K D L) (n : C ≠ L) (n' : D ≠ L) : PySem.W.kitOne K (.ref C) (.ref D) = Option.some (decide (C = D)) := by
  unfold PySem.W.kitOne
  by_cases e : C = D
  · subst e
    rw [if_pos (beq_self_eq_true _), decide_eq_true rfl]
  · have ne : ((Value.ref C) == (Value.ref D)) = false := beq_eq_false_iff_ne.mpr fun z => e (Value.ref.inj z)
    rw [if_neg (by rw [ne]; decide), decide_eq_false e]
    unfold PySem.W.kitCls
    have t : ((PySem.W.clsIn K D).isSome && PySem.W.typeIn K (.ref D) == Option.some (.type "type")) = true := by rw [h'.some, h'.oex.tyC]; rfl
    show (if ((PySem.W.clsIn K D).isSome && PySem.W.typeIn K (.ref D) == Option.some (.type "type")) = true then PySem.W.subIn K (.ref C) (.ref D) else none) = _
    rw [if_pos t, h.sub]
    have a : (Value.ref D == Value.ref C) = false := beq_eq_false_iff_ne.mpr fun z => e (Value.ref.inj z).symm
    have b : (Value.ref D == Value.ref L) = false := beq_eq_false_iff_ne.mpr fun z => n' (Value.ref.inj z)
    have e' : ¬ D = C := fun z => e z.symm
    simp [veMro, List.contains_cons, a, b, e', n']
theorem EK.kitL {K : PySem.W.Frag} {C L : Addr} (h : EK K C L) (n : C ≠ L) (hL : (PySem.W.clsIn K L).isSome = true) (tL : PySem.W.typeIn K (.ref L) = Option.some (.type "type")) : PySem.W.kitOne K (.ref C) (.ref L) = Option.some true := by
  unfold PySem.W.kitOne
  have ne : ((Value.ref C) == (Value.ref L)) = false := beq_eq_false_iff_ne.mpr fun z => n (Value.ref.inj z)
  rw [if_neg (by rw [ne]; decide)]
  unfold PySem.W.kitCls
  have t : ((PySem.W.clsIn K L).isSome && PySem.W.typeIn K (.ref L) == Option.some (.type "type")) = true := by rw [hL, tL]; rfl
  show (if ((PySem.W.clsIn K L).isSome && PySem.W.typeIn K (.ref L) == Option.some (.type "type")) = true then PySem.W.subIn K (.ref C) (.ref L) else none) = _
  rw [if_pos t, h.sub]
  simp [veMro]
theorem EK.kitV {K : PySem.W.Frag} {C L : Addr} (h : EK K C L) : PySem.W.kitOne K (.ref C) (.type "ValueError") = Option.some true := by
  unfold PySem.W.kitOne
  have ne : ((Value.ref C) == (Value.type "ValueError")) = false := rfl
  rw [if_neg (by rw [ne]; decide)]
  unfold PySem.W.kitCls
  show (if PySem.W.kitMeta "ValueError" = true then PySem.W.subIn K (.ref C) (.type "ValueError") else none) = _
  rw [if_pos (by decide +kernel), h.sub]
  simp [veMro]
/-! ### an error made as a value -/
/-- what an own __init__ of the errors does: each argument into an attribute of its name -/
def spIni (C : Addr) (fs : List Str) : Sp := fun vs H Q _ => ∃ (a : Addr) (ws : List V), vs = .ref a :: ws ∧ ws.length = fs.length ∧ H a = some (exo a C none) ∧
  ∀ dx, H dx = none → dx ≠ a → Q .non (upd (upd H dx (exd dx (fs.zip ws).reverse)) a (exo a C (some dx)))
/-- how arguments come to an own __init__: us ahead, the rest by the names ks -/
structure InitAt (P : Program) (w : World) (K : PySem.W.Frag) (mg : Str → Option Value) (base : Heap) (C : Addr) (fs : List Str) (fI : Addr) (fd : FuncData) : Prop where
  at_ : PySem.W.findIn K (.ref C) "__init__" = some (some (.ref fI))
  ty : PySem.W.typeIn K (.ref fI) = some (.type "function")
  ok : FnOk P w K mg base CX0 2 fI fd (("self" : Str) :: fs) (spIni C fs)
def tNewE (C : Addr) (fs : List Str) (ord : List V → List V) (ta : TA) : TE := fun σ H Q => ta σ H fun vs H1 => vs.length ≤ 1000 ∧ (ord vs).length = fs.length ∧
  ∀ a dx, H1 a = none → H1 dx = none → dx ≠ a → Q (.ref a) (upd (upd H1 dx (exd dx (fs.zip (ord vs)).reverse)) a (exV a C (some dx)))
section
variable {X : Cx}
/-- an exception that is known wholly is an exception -/
theorem loosen {pins : List (Addr × Obj)} {σ : L2.St} {H : Hp} {s : Shared} {a C : Addr} {d : Option Addr} (I : Inv X pins σ H s) (ha : H a = some (exo a C d)) : Inv X pins σ (upd H a (exV a C d)) s := by
  obtain ⟨t1, e⟩ := exo_at I.hok ha
  exact I.write (t' := s.toks) (x := a) (e := a) (o := exV a C d) (by rw [ha]; exact True.intro) (.inl rfl) (fun _ _ _ q => q) ⟨_, e⟩ (exV_ok e rfl rfl rfl)
/-- C(us, kw), its object laid, its __init__ run -/
theorem run_newE {C L fI : Addr} {fs : List Str} {fd : FuncData} {pins : List (Addr × Obj)} {σ : L2.St} {H : Hp} {s : Shared} {Q : VK} {us : List Value} {kw : List (Str × Value)} {ws : List V} {zs : List Value} (T : EK X.K C L)
    (F : InitAt X.prog X.w X.K X.mg X.base C fs fI fd) (hr : Room 3 X.A) (hb : ∀ (s : Shared) (self : Value), X.K.In s.heap → BindsTo s fd ⟨self :: us, kw⟩ ((("self" : Str) :: fs).zip (self :: zs))) (I : Inv X pins σ H s) (r : Vals ws zs) (hu : us.length ≤ sizeLine)
    (hl : ws.length = fs.length) (h : ∀ a dx, H a = none → H dx = none → dx ≠ a → Q (.ref a) (upd (upd H dx (exd dx (fs.zip ws).reverse)) a (exV a C (some dx)))) :
    wpAny (model X.prog X.w) X.A (call (.ref C) us kw) (EP X pins σ Q) X.xe s := by
  obtain ⟨nm, q, N, bs, bm, sn, sub, ab, col, dd, k0, k1, k2, k3, k5, hC, hbm⟩ := T.oex.cls
  obtain ⟨hp, g, dr, tk, os⟩ := s
  have hsz : hp.objs.size ≤ hp.objs.size + 1 := Nat.le_succ _
  have hn : H (hp.objs.size + 1) = none := I.hok.fresh hsz
  have kk : ∀ b o, hp.get? b = some o → ((hp.push (PySem.W.kdv_tup us)).push (PySem.HandSPX.excO C hp.objs.size)).get? b = some o := fun b o e => Heap.get?_push_of_some _ (Heap.get?_push_of_some _ e)
  have hget : ((hp.push (PySem.W.kdv_tup us)).push (PySem.HandSPX.excO C hp.objs.size)).get? (hp.objs.size + 1) = some (PySem.HandSPX.excO C hp.objs.size) := by heap_get
  have I2 : Inv X pins σ (upd H (hp.objs.size + 1) (exo (hp.objs.size + 1) C none)) ⟨(hp.push (PySem.W.kdv_tup us)).push (PySem.HandSPX.excO C hp.objs.size), g, dr, tk, os⟩ :=
    I.laid (t' := tk) (a := hp.objs.size + 1) (o := exo (hp.objs.size + 1) C none) (h' := (hp.push (PySem.W.kdv_tup us)).push (PySem.HandSPX.excO C hp.objs.size)) kk hsz (exo_ok hget)
  have r2 : Vals (V.ref (hp.objs.size + 1) :: ws) (Value.ref (hp.objs.size + 1) :: zs) := .cons rfl r
  have hq : spIni C fs (V.ref (hp.objs.size + 1) :: ws) (upd H (hp.objs.size + 1) (exo (hp.objs.size + 1) C none))
      (fun v H2 => v = .non ∧ ∃ dx, H dx = none ∧ dx ≠ hp.objs.size + 1 ∧ H2 = upd (upd (upd H (hp.objs.size + 1) (exo (hp.objs.size + 1) C none)) dx (exd dx (fs.zip ws).reverse)) (hp.objs.size + 1) (exo (hp.objs.size + 1) C (some dx))) (fun _ _ _ => False) :=
    ⟨_, ws, rfl, hl, upd_same, fun dx n ne => ⟨rfl, dx, by rw [upd_ne ne] at n; exact n, ne, rfl⟩⟩
  refine wpAny_call (PySem.LKx.own_called PySem.F.excBase_ValueError (fun Y => PySem.HandSPX.refsVE_contains Y bm hbm) (I.kIn _ _ hC) (PySem.W.looks_findIn I.kIn F.at_) (fun self => PySem.W.bind_fn I.kIn self F.ty) hu
    (codeAny_mono (F.ok.run _ X.stack _ _ ⟨Value.ref (hp.objs.size + 1) :: us, kw⟩ (Value.ref (hp.objs.size + 1) :: zs) _ _ (fun _ _ _ => False) (hr.make C us kw) (I2.env0.make C us kw) (hb _ _ I2.kIn) r2 hq) fun r s' hq' => ?_))
  cases r with
  | error er => exact False.elim hq'
  | ok fl =>
    cases fl with
    | ret u =>
      obtain ⟨v, H3, I3, rv, ev, dx, n1, n2, e3⟩ := I2.after hq'
      subst ev
      subst e3
      have J := loosen (a := hp.objs.size + 1) (C := C) (d := some dx) I3 upd_same
      refine ⟨rv, ⟨.ref (hp.objs.size + 1), _, J, rfl, ?_⟩⟩
      have eH : upd (upd (upd (upd H (hp.objs.size + 1) (exo (hp.objs.size + 1) C none)) dx (exd dx (fs.zip ws).reverse)) (hp.objs.size + 1) (exo (hp.objs.size + 1) C (some dx))) (hp.objs.size + 1) (exV (hp.objs.size + 1) C (some dx)) =
          upd (upd H dx (exd dx (fs.zip ws).reverse)) (hp.objs.size + 1) (exV (hp.objs.size + 1) C (some dx)) := by
        funext b
        by_cases e1 : b = hp.objs.size + 1
        · subst e1
          rw [upd_same, upd_same]
        · rw [upd_ne e1, upd_ne e1, upd_ne e1]
          by_cases e2 : b = dx
          · subst e2
            rw [upd_same, upd_same]
          · rw [upd_ne e2, upd_ne e2, upd_ne e1]
      rw [eH]
      exact h _ _ hn n1 n2
    | next => exact False.elim hq'
    | brk => exact False.elim hq'
    | cont => exact False.elim hq'
/-- C(e, ..) -/
theorem pe_newE {C L fI : Addr} {fs : List Str} {fd : FuncData} {x : Str} {p pos : Pos} {e : Expr} {es : List Expr} {ta : TA} (T : EK X.K C L) (F : InitAt X.prog X.w X.K X.mg X.base C fs fI fd) (hr : Room 3 X.A) (hb : Binds X.K fd (("self" : Str) :: fs) [])
    (hm : X.mg x = some (.ref C)) (ha : PA X (e :: es) ta) (hg : Gl X x := by rfl)
    (hdb : (x == ("__debug__" : Str)) = false := by decide) (he : starEach (e :: es) X.env = (false, eval e X.env) :: starEach es X.env := by rfl) (hpl : (backTo pos (starEach es X.env)).any (·.1) = false := by rfl) :
    PE X (.Call (.Name x p) (e :: es) [] pos) (tNewE C fs id ta) := by
  refine ⟨fun pins s σ H Q I h => ?_⟩
  refine wpAny_Call_Name_kw (ld_glob I hg hm ?_ hdb)
  refine PySem.W.callWith_K (h₀ := X.base) I.ok.mod.kin T.oex.kC (thn (ha.run pos pins s σ H _ I h) fun us s1 ⟨vs, H1, I1, r1, hz, hl, q1⟩ => ⟨I1.kIn, ?_⟩) he hpl
  have hl2 : us.length = fs.length := r1.length.symm.trans hl
  refine run_newE (us := us) T F hr (fun s self Y => ?_) I1 r1 (by rw [← r1.length, sizeLine_eq]; omega) hl q1
  have b := hb s (self :: us) Y (by simp [hl2])
  rw [List.append_nil] at b
  exact b
/-- C(k = e, ..), all by names; C(e, k = e2, ..) -/
theorem pe_newEK0 {C L fI : Addr} {fs ks : List Str} {fd : FuncData} {x : Str} {p pos : Pos} {kws : List Keyword} {ta : TA} {ord : List V → List V} {ordU : List Value → List Value} (T : EK X.K C L) (F : InitAt X.prog X.w X.K X.mg X.base C fs fI fd) (hr : Room 3 X.A)
    (hm : X.mg x = some (.ref C)) (hkw : PK X kws ta) (hks : (backToKw pos (keywordEach kws X.env)).filterMap (·.1) = ks := by rfl) (hn : ks.length = fs.length)
    (hb : ∀ (s : Shared) (self : Value) (us : List Value), X.K.In s.heap → us.length = ks.length → BindsTo s fd ⟨[self], ks.zip us⟩ ((("self" : Str) :: fs).zip (self :: ordU us)))
    (hv : ∀ (vs : List V) (us : List Value), vs.length = ks.length → Vals vs us → Vals (ord vs) (ordU us)) (ho : ∀ vs : List V, vs.length = ks.length → (ord vs).length = vs.length) (hg : Gl X x := by rfl)
    (hall : (backToKw pos (keywordEach kws X.env)).all (·.1.isSome) = true := by rfl) (hdb : (x == ("__debug__" : Str)) = false := by decide)
    (hpl : ((backTo pos (starEach [] X.env)).any (·.1) || (backToKw pos (keywordEach kws X.env)).any (·.1.isNone)) = false := by rfl) :
    PE X (.Call (.Name x p) [] kws pos) (fun σ H Q => ta σ H fun vs H1 => vs.length = ks.length ∧ ∀ a dx, H1 a = none → H1 dx = none → dx ≠ a → Q (.ref a) (upd (upd H1 dx (exd dx (fs.zip (ord vs)).reverse)) a (exV a C (some dx)))) := by
  refine ⟨fun pins s σ H Q I h => ?_⟩
  refine wpAny_Call_Name_kw (ld_glob I hg hm ?_ hdb)
  refine PySem.W.callWith_KW0 (h₀ := X.base) I.ok.mod.kin T.oex.kC hall (thn (hkw.run pos pins s σ H _ I h) fun us s1 ⟨vs, H1, I1, r1, hl, q1⟩ => ⟨I1.kIn, ?_⟩) hpl
  rw [hks]
  have hl2 : us.length = ks.length := r1.length.symm.trans hl
  exact run_newE (us := []) T F hr (fun s self Y => hb s self us Y hl2) I1 (hv vs us hl r1) (Nat.zero_le _) ((ho vs hl).trans (hl.trans hn)) q1
theorem pe_newEK {C L fI : Addr} {fs ks : List Str} {fd : FuncData} {x : Str} {p pos : Pos} {e : Expr} {kws : List Keyword} {te : TE} {ta : TA} {ord : List V → List V} {ordU : List Value → List Value} (T : EK X.K C L) (F : InitAt X.prog X.w X.K X.mg X.base C fs fI fd) (hr : Room 3 X.A)
    (hm : X.mg x = some (.ref C)) (he1 : PE X e te) (hkw : PK X kws ta) (hks : (backToKw pos (keywordEach kws X.env)).filterMap (·.1) = ks := by rfl) (hn : ks.length + 1 = fs.length)
    (hb : ∀ (s : Shared) (self u : Value) (us : List Value), X.K.In s.heap → us.length = ks.length → BindsTo s fd ⟨[self, u], ks.zip us⟩ ((("self" : Str) :: fs).zip (self :: u :: ordU us)))
    (hv : ∀ (vs : List V) (us : List Value), vs.length = ks.length → Vals vs us → Vals (ord vs) (ordU us)) (ho : ∀ vs : List V, vs.length = ks.length → (ord vs).length = vs.length) (hg : Gl X x := by rfl)
    (hall : (backToKw pos (keywordEach kws X.env)).all (·.1.isSome) = true := by rfl) (hdb : (x == ("__debug__" : Str)) = false := by decide) (hst : starEach [e] X.env = (false, eval e X.env) :: starEach [] X.env := by rfl)
    (hpl : ((backTo pos (starEach [e] X.env)).any (·.1) || (backToKw pos (keywordEach kws X.env)).any (·.1.isNone)) = false := by rfl) :
    PE X (.Call (.Name x p) [e] kws pos) (fun σ H Q => te σ H fun v H0 => ta σ H0 fun vs H1 => vs.length = ks.length ∧ ∀ a dx, H1 a = none → H1 dx = none → dx ≠ a → Q (.ref a) (upd (upd H1 dx (exd dx (fs.zip (v :: ord vs)).reverse)) a (exV a C (some dx)))) := by
  refine ⟨fun pins s σ H Q I h => ?_⟩
  refine wpAny_Call_Name_kw (ld_glob I hg hm ?_ hdb)
  have pa : PA X [e] (tCons te tNil) := pa_cons he1 pa_nil hst
  refine PySem.W.callWith_KW (h₀ := X.base) I.ok.mod.kin T.oex.kC hall (thn (pa.run pos pins s σ H (fun xs H0 => ∃ v, xs = [v] ∧ ta σ H0 fun vs H1 => vs.length = ks.length ∧ ∀ a dx, H1 a = none → H1 dx = none → dx ≠ a → Q (.ref a) (upd (upd H1 dx (exd dx (fs.zip (v :: ord vs)).reverse)) a (exV a C (some dx)))) I ?_) fun us s1 ⟨xs, H0, I0, r0, q0⟩ => ?_) hpl hst
  · unfold tCons tNil
    have mono : ∀ (te : TE) (Q1 Q2 : VK), (∀ v H, Q1 v H → Q2 v H) → te σ H Q1 → te σ H Q1 := fun _ _ _ _ z => z
    exact (show te σ H (fun x H1 => ∃ v, [x] = [v] ∧ _) from by
      have h' := h
      simpa using h')
  · obtain ⟨v, rfl, q0⟩ := q0
    obtain ⟨u, rfl, ru⟩ := vals1 r0
    refine thn (hkw.run pos pins s1 σ H0 _ I0 q0) fun ws s2 ⟨vs, H1, I1, r1, hl, q1⟩ => ⟨I1.kIn, ?_⟩
    rw [hks]
    have hl2 : ws.length = ks.length := r1.length.symm.trans hl
    refine run_newE (us := [u]) (ws := v :: ord vs) T F hr (fun s self Y => hb s self u ws Y hl2) I1 (.cons ru (hv vs ws hl r1)) (by rw [sizeLine_eq]; exact (by decide : 1 ≤ 16777216)) ?_ q1
    rw [List.length_cons, ho vs hl, hl]
    exact hn
end
end LK

set_option maxHeartbeats 4000000
namespace LK
open PySem PySem.Spec PyProof.Rows L2 L2H
/-! ### defs that promise something while an exception may be handled, defs that know that no text of a container is under way -/
/-- the exception that is handled, if any, is locked in the abstract heap and bears no context -/
def WarmA (A : Around) (H : Hp) : Prop :=
  A.handled = none ∨ ∃ (x : Addr) (oe : Obj) (u : HO) (vs : Array Value), A.handled = some (.ref x) ∧ H x = some (.frz oe u) ∧ oe.data = .fields vs ∧ vs[2]? = some .none
structure FnW (P : Program) (w : World) (K : PySem.W.Frag) (mg : Str → Option Value) (base : Heap) (k : Nat) (f : Addr) (fd : FuncData) (ps : List Str) (sp : Sp) : Prop where
  len : ∀ vs H Q E, sp vs H Q E → vs.length = ps.length
  run : ∀ (A : Around) (outer : List Env) (s : Shared) (H : Hp) (us : List Value) (vs : List V) (Q : VK), RoomH k A → WarmA A H → Env0 P w K mg base A outer s H → BindsTo s fd ⟨us, []⟩ (ps.zip us) → Vals vs us → sp vs H Q E0 →
    codeAny (model P w) A (.call (.ref f) ⟨us, []⟩) (CR CX0 outer P w H s Q E0) s
structure FnG (P : Program) (w : World) (K : PySem.W.Frag) (mg : Str → Option Value) (base : Heap) (k : Nat) (f : Addr) (fd : FuncData) (ps : List Str) (sp : Sp) : Prop where
  len : ∀ vs H Q E, sp vs H Q E → vs.length = ps.length
  run : ∀ (A : Around) (outer : List Env) (s : Shared) (H : Hp) (us : List Value) (vs : List V) (Q : VK), Room k A → A.guards = some [] → Env0 P w K mg base A outer s H → BindsTo s fd ⟨us, []⟩ (ps.zip us) → Vals vs us → sp vs H Q E0 →
    codeAny (model P w) A (.call (.ref f) ⟨us, []⟩) (CR CX0 outer P w H s Q E0) s
theorem FnW.mono {P : Program} {w : World} {K : PySem.W.Frag} {mg : Str → Option Value} {base : Heap} {j k : Nat} {f : Addr} {fd : FuncData} {ps : List Str} {sp : Sp} (F : FnW P w K mg base j f fd ps sp) (h : j ≤ k) : FnW P w K mg base k f fd ps sp :=
  ⟨F.len, fun A outer s H us vs Q hr => F.run A outer s H us vs Q (hr.mono h)⟩
section
variable {X : Cx} {pins : List (Addr × Obj)} {σ : L2.St} {H : Hp} {s : Shared}
/-- the same state read in a context with another surrounding -/
theorem recool (I : Inv X pins σ H s) (A' : Around) (hf : A'.frames = X.A.frames) (xe : Value → Shared → Prop) : Inv { X with A := A', calm := false, xe := xe } pins σ H s := by
  obtain ⟨m1, m2, m3, m4, m5, m6, m7, m8, m9, m10, m11, m12, m13, m14, m15, m16, m17, m18⟩ := I.ok
  exact ⟨⟨m1, m2, m3, m4, m5, m6, m7, m8, fun z => Bool.noConfusion (show false = true from z), hf.trans m10, m11, m12, m13, m14, m15, m16, m17, m18⟩,
    I.os, I.bare, I.base, I.loc, I.cell, I.free, I.freeC, I.pin, I.hok, I.len⟩
end
section
variable {P : Program} {w : World} {K : PySem.W.Frag} {mg : Str → Option Value} {base : Heap}
/-- the context of a body that may run while an exception is handled -/
abbrev cxW (P : Program) (w : World) (K : PySem.W.Frag) (mg : Str → Option Value) (base : Heap) (N : List Str) (qual : Str) (scope : Scope) (f : Addr) (cd : Value) (A : Around) (outer : List Env) (s : Shared) (H : Hp) : Cx :=
  { cxOf CX0 P w K mg base N qual scope f cd A outer s H E0 with calm := false, xe := fun _ _ => False }
/-- the machine's way into a def, up to its body -/
theorem enter_def {f : Addr} {x qual : Str} {st : Stmt} {fd : FuncData} {N ps : List Str} {A : Around} {outer : List Env} {s : Shared} {H : Hp} {us : List Value} {vs : List V} {Q : VK} (F : Fun K x qual st f fd) (S : FnScope N ps (defScope st)) (hd : A.depth < recursionLimit)
    (e0 : Env0 P w K mg base A outer s H) (hb : BindsTo s fd ⟨us, []⟩ (ps.zip us)) (hl : vs.length = ps.length) (r : Vals vs us)
    (body : ∀ (cdv : Value) (s1 : Shared), (∀ A' : Around, A'.frames = A.frames → A'.handled = none → Inv (cxOf CX0 P w K mg base N qual (defScope st) f cdv A' outer s H E0) [] (start N vs) H s1) →
      wpAny (model P w) (A.deeper (envOfC qual (defScope st) s.heap.objs.size f cdv)) (execs (defBody st) (envOfC qual (defScope st) s.heap.objs.size f cdv))
        (fun fl s' => (∃ u, fl = .ret u ∧ CE outer P w H s Q u s') ∨ (fl = .next ∧ CE outer P w H s Q .none s')) (fun _ _ => False) s1) :
    codeAny (model P w) A (.call (.ref f) ⟨us, []⟩) (CR CX0 outer P w H s Q E0) s := by
  obtain ⟨oc, od, kV, doc, pm, an, cdv, ct, osl, rfl, lk, hcd⟩ := F.ex
  have Y : K.In s.heap := e0.mod.kin.keeps fun b o e => (e0.bs b o e).1
  have lim : s.heap.NoLimit := e0.mod.nolimit.keeps fun b o e => (e0.bs b o e).1
  have kinds : ∀ y ∈ ps.zip us, (defScope st).names.lookup y.1 = some .local ∨ ((defScope st).names.lookup y.1 = some .cell ∧ ((cellsFrom (s.heap.objs.size + 1) (defScope st).names []).lookup y.1).isSome = true) := by
    rintro ⟨n, v⟩ hy
    rcases S.par n (List.of_mem_zip hy).1 with q | q
    · exact .inl q
    · exact .inr ⟨q, PySem.W.cellsFrom_some _ _ _ (.inl q)⟩
  refine codeAny_call_function hd (Y _ _ lk) rfl S.co S.gen rfl (PySem.W.codeRec_of Y hcd) (hb _ _ _ _ ?_)
  refine wpAny_newFunctionEnv_cells S.kind kinds fun env he s1 x => ?_
  subst he
  refine ⟨lim.keeps x.toInCall.keep, codeAny_func ?_⟩
  have inv : ∀ A' : Around, A'.frames = A.frames → A'.handled = none → Inv (cxOf CX0 P w K mg base N qual (defScope st) f cdv A' outer s H E0) [] (start N vs) H s1 := fun A' hf hh =>
    inv_start S hh ⟨hf.trans e0.frames, e0.mod, e0.bs, e0.bsz, e0.funs, e0.frf, e0.hok, e0.bare⟩ hl r x
  refine wpAny_mono (body cdv s1 inv) (fun fl s' hs => ?_) fun e s' hs => hs.elim
  rcases hs with ⟨u, rfl, h⟩ | ⟨rfl, h⟩
  · exact h
  · exact h
/-- what a body's run leaves, for its caller -/
theorem body_end {X : Cx} {outer : List Env} {s s' : Shared} {H : Hp} {Q : VK} {fl : Flow} (e1 : X.outer = outer) (e2 : X.s_0 = s) (e3 : X.H_0 = H) (e4 : X.prog = P) (e5 : X.w = w) (e6 : X.ex = [])
    (hs : SP X [] { nx := fun _ H' => Q .non H', rt := Q } fl s') : (∃ u, fl = .ret u ∧ CE outer P w H s Q u s') ∨ (fl = .next ∧ CE outer P w H s Q .none s') := by
  subst e1 e2 e3 e4 e5
  have fin : ∀ {σ' : L2.St} {H' : Hp} {v : V} {u : Value}, Inv X [] σ' H' s' → RelV v u → Q v H' → CE X.outer X.prog X.w X.H_0 X.s_0 Q u s' := fun {σ' H' v u} J rv q =>
    ⟨v, H', J.os, J.bare, by have b := J.base; rw [e6] at b; exact b, J.hok, rv, q⟩
  cases fl with
  | ret u =>
    obtain ⟨v, σ', H', J, rv, q⟩ := hs
    exact .inl ⟨u, rfl, fin J rv q⟩
  | next =>
    obtain ⟨σ', H', J, q⟩ := hs
    exact .inr ⟨rfl, fin (v := V.non) (u := Value.none) J rfl q⟩
  | brk =>
    obtain ⟨_, _, _, q⟩ := hs
    exact q.elim
  | cont =>
    obtain ⟨_, _, _, q⟩ := hs
    exact q.elim
/-- a def that may be called while an exception is handled -/
theorem fnW {f : Addr} {x qual : Str} {st : Stmt} {fd : FuncData} {N ps : List Str} {k : Nat} {sp : Sp} (F : Fun K x qual st f fd) (S : FnScope N ps (defScope st)) (len : ∀ vs H Q E, sp vs H Q E → vs.length = ps.length)
    (hbody : ∀ (cdv : Value) (A : Around) (outer : List Env) (s : Shared) (H : Hp) (vs : List V) (Q : VK), RoomH k (A.deeper (envOfC qual (defScope st) s.heap.objs.size f cdv)) → WarmA (A.deeper (envOfC qual (defScope st) s.heap.objs.size f cdv)) H → sp vs H Q E0 →
      ∃ t, PSs (cxW P w K mg base N qual (defScope st) f cdv A outer s H) (defBody st) t ∧ t { nx := fun _ H' => Q .non H', rt := Q } (start N vs) H) : FnW P w K mg base (k + 1) f fd ps sp := by
  refine ⟨len, fun A outer s H us vs Q hr wm e0 hb r hsp => ?_⟩
  refine enter_def F S hr.depth e0 hb (len _ _ _ _ hsp) r fun cdv s1 inv => ?_
  obtain ⟨t, ht, hq⟩ := hbody cdv A outer s H vs Q (hr.deeper _) wm hsp
  have I0 := inv { A with handled := none } rfl rfl
  have I : Inv (cxW P w K mg base N qual (defScope st) f cdv A outer s H) [] (start N vs) H s1 := recool I0 (A.deeper (envOfC qual (defScope st) s.heap.objs.size f cdv)) rfl (fun _ _ => False)
  exact wpAny_mono (ht.run [] s1 (start N vs) H _ I hq) (fun fl s' hs => body_end rfl rfl rfl rfl rfl rfl hs) fun _ _ z => z
/-- a def that is called only where no text of a container is under way -/
theorem fnG {f : Addr} {x qual : Str} {st : Stmt} {fd : FuncData} {N ps : List Str} {k : Nat} {sp : Sp} (F : Fun K x qual st f fd) (S : FnScope N ps (defScope st)) (len : ∀ vs H Q E, sp vs H Q E → vs.length = ps.length)
    (hbody : ∀ (cdv : Value) (A : Around) (outer : List Env) (s : Shared) (H : Hp) (vs : List V) (Q : VK), Room k (A.deeper (envOfC qual (defScope st) s.heap.objs.size f cdv)) → A.guards = some [] → sp vs H Q E0 →
      ∃ t, PSs (cxOf CX0 P w K mg base N qual (defScope st) f cdv A outer s H E0).nox (defBody st) t ∧ t { nx := fun _ H' => Q .non H', rt := Q } (start N vs) H) : FnG P w K mg base (k + 1) f fd ps sp := by
  refine ⟨len, fun A outer s H us vs Q hr hg e0 hb r hsp => ?_⟩
  refine enter_def F S hr.depth e0 hb (len _ _ _ _ hsp) r fun cdv s1 inv => ?_
  obtain ⟨t, ht, hq⟩ := hbody cdv A outer s H vs Q (hr.deeper _) hg hsp
  have I0 := inv A rfl hr.hd
  have I := Inv.wish (X := cxOf CX0 P w K mg base N qual (defScope st) f cdv A outer s H E0) I0 (fun _ _ => False)
  exact wpAny_mono (ht.run [] s1 (start N vs) H _ I hq) (fun fl s' hs => body_end rfl rfl rfl rfl rfl rfl hs) fun _ _ z => z
end
section
variable {X : Cx} {k : Nat} {f : Addr} {fd : FuncData} {ps : List Str} {sp : Sp} {x : Str} {p pos : Pos} {e : Expr} {es : List Expr} {t : TA}
/-- the context of a body that may run warm -/
def Warm (X : Cx) : Prop := WarmA X.A X.H_0
theorem Warm.at {pins : List (Addr × Obj)} {σ : L2.St} {H : Hp} {s : Shared} (h : Warm X) (I : Inv X pins σ H s) : WarmA X.A H := by
  rcases h with h | ⟨x, oe, u, vs, h1, h2, h3, h4⟩
  · exact .inl h
  · exact .inr ⟨x, oe, u, vs, h1, I.base.frzs _ _ _ h2, h3, h4⟩
theorem after_call {pins : List (Addr × Obj)} {σ : L2.St} {H : Hp} {s s' : Shared} {Q : VK} {r : Result} {P : Prop} (I : Inv X pins σ H s) (h : CR CX0 X.stack X.prog X.w H s Q E0 r s') (k : ∀ u, r = .ok (.ret u) → EP X pins σ Q u s' → P) : P := by
  cases r with
  | error e => exact False.elim h
  | ok fl =>
    cases fl with
    | ret u => exact k u rfl (I.after h)
    | next => exact False.elim h
    | brk => exact False.elim h
    | cont => exact False.elim h
theorem pe_callW (F : FnW X.prog X.w X.K X.mg X.base k f fd ps sp) (hr : RoomH k X.A) (wm : Warm X) (hm : X.mg x = some (.ref f)) (hk : PySem.W.keepIn X.K (.ref f) = true) (hb : Binds X.K fd ps []) (ha : PA X (e :: es) t) (hg : Gl X x := by rfl)
    (hdb : (x == ("__debug__" : Str)) = false := by decide) (he : starEach (e :: es) X.env = (false, eval e X.env) :: starEach es X.env := by rfl) (hpl : (backTo pos (starEach es X.env)).any (·.1) = false := by rfl) :
    PE X (.Call (.Name x p) (e :: es) [] pos) (tCall sp [] E0 t) := by
  refine ⟨fun pins s σ H Q I h => ?_⟩
  refine wpAny_Call_Name_kw (ld_glob I hg hm ?_ hdb)
  refine PySem.W.callWith_K (h₀ := X.base) I.ok.mod.kin hk (thn (ha.run pos pins s σ H _ I h) fun us s1 ⟨vs, H1, I1, r, q⟩ => ⟨I1.kIn, ?_⟩) he hpl
  have q' : sp vs H1 Q E0 := by simpa using q
  have hl : us.length = ps.length := by rw [← r.length]; exact F.len _ _ _ _ q'
  have b := hb s1 us I1.kIn (by rw [List.append_nil]; exact hl)
  rw [List.append_nil] at b
  exact wpAny_call (codeAny_mono (F.run X.A X.stack s1 H1 us vs Q hr (wm.at I1) I1.env0 b r q') fun r s' hq => after_call I1 hq fun u e z => by subst e; exact z)
theorem pe_callG (F : FnG X.prog X.w X.K X.mg X.base k f fd ps sp) (hr : Room k X.A) (gd : X.A.guards = some []) (hm : X.mg x = some (.ref f)) (hk : PySem.W.keepIn X.K (.ref f) = true) (hb : Binds X.K fd ps []) (ha : PA X (e :: es) t) (hg : Gl X x := by rfl)
    (hdb : (x == ("__debug__" : Str)) = false := by decide) (he : starEach (e :: es) X.env = (false, eval e X.env) :: starEach es X.env := by rfl) (hpl : (backTo pos (starEach es X.env)).any (·.1) = false := by rfl) :
    PE X (.Call (.Name x p) (e :: es) [] pos) (tCall sp [] E0 t) := by
  refine ⟨fun pins s σ H Q I h => ?_⟩
  refine wpAny_Call_Name_kw (ld_glob I hg hm ?_ hdb)
  refine PySem.W.callWith_K (h₀ := X.base) I.ok.mod.kin hk (thn (ha.run pos pins s σ H _ I h) fun us s1 ⟨vs, H1, I1, r, q⟩ => ⟨I1.kIn, ?_⟩) he hpl
  have q' : sp vs H1 Q E0 := by simpa using q
  have hl : us.length = ps.length := by rw [← r.length]; exact F.len _ _ _ _ q'
  have b := hb s1 us I1.kIn (by rw [List.append_nil]; exact hl)
  rw [List.append_nil] at b
  exact wpAny_call (codeAny_mono (F.run X.A X.stack s1 H1 us vs Q hr gd I1.env0 b r q') fun r s' hq => after_call I1 hq fun u e z => by subst e; exact z)
end
end LK

set_option maxHeartbeats 4000000
namespace LK
open PySem PySem.Spec PyProof.Rows L2 L2H
/-! ### repr of data at any depth, dicts too -/
def keyD : Key → PyData
  | .inl i => .int i
  | .inr x => .str x
mutual
inductive Dq (H : Hp) : V → PyData → Prop
  | non : Dq H .non .none
  | bl (b : Bool) : Dq H (.bl b) (.bool b)
  | int (i : Int) : Dq H (.int i) (.int i)
  | str (x : Str) : Dq H (.str x) (.str x)
  | lst {a : Addr} {xs : List V} {ds : List PyData} : H a = some (.lst xs) → DqAll H xs ds → Dq H (.ref a) (.list ds)
  | tup {a : Addr} {xs : List V} {ds : List PyData} : H a = some (.tup xs) → DqAll H xs ds → Dq H (.ref a) (.tuple ds)
  | dct {a : Addr} {kvs : List (Key × V)} {ds : List (PyData × PyData)} : H a = some (.dK kvs) → DqKv H kvs ds → Dq H (.ref a) (.dict ds)
inductive DqAll (H : Hp) : List V → List PyData → Prop
  | nil : DqAll H [] []
  | cons {v : V} {vs : List V} {d : PyData} {ds : List PyData} : Dq H v d → DqAll H vs ds → DqAll H (v :: vs) (d :: ds)
inductive DqKv (H : Hp) : List (Key × V) → List (PyData × PyData) → Prop
  | nil : DqKv H [] []
  | cons {k : Key} {v : V} {d : PyData} {r : List (Key × V)} {s : List (PyData × PyData)} : Dq H v d → DqKv H r s → DqKv H ((k, v) :: r) ((keyD k, d) :: s)
end
section
variable {X : Cx} {pins : List (Addr × Obj)} {σ : L2.St} {H : Hp} {s : Shared}
mutual
theorem Dq.reads (I : Inv X pins σ H s) : ∀ {v : V} {d : PyData} {u : Value}, Dq H v d → RelV v u → ∃ as, Reads s.heap u d as ∧ ∀ b ∈ as, ∃ o, H b = some o
  | _, _, _, .non, r => by
    cases r
    exact ⟨_, Reads.none, fun b z => nomatch z⟩
  | _, _, _, .bl b, r => by
    cases r
    exact ⟨_, Reads.bool b, fun b z => nomatch z⟩
  | _, _, _, .int i, r => by
    obtain ⟨t, rfl⟩ := r
    exact ⟨_, Reads.int i t, fun b z => nomatch z⟩
  | _, _, _, .str x, r => by
    obtain ⟨t, rfl⟩ := r
    exact ⟨_, Reads.str x t, fun b z => nomatch z⟩
  | _, _, _, .lst ha hs, r => by
    cases r
    obtain ⟨_, its, n, rv, e⟩ := I.hok _ _ ha
    obtain ⟨as, h1, h2⟩ := DqAll.reads I hs rv
    refine ⟨_, Reads.list e rfl rfl h1, fun b hb => ?_⟩
    rcases List.mem_cons.mp hb with e | hb
    · rw [e]
      exact ⟨_, ha⟩
    · exact h2 b hb
  | _, _, _, .tup ha hs, r => by
    cases r
    obtain ⟨_, its, rv, o, e1, e2, n, e3⟩ := I.hok _ _ ha
    obtain ⟨as, h1, h2⟩ := DqAll.reads I hs rv
    exact ⟨_, Reads.tuple e1 e2 e3 h1, h2⟩
  | _, _, _, .dct ha hs, r => by
    cases r
    obtain ⟨_, _, vs, rv, o, es, ep, e1, e2, e3, _, e4, _⟩ := I.hok _ _ ha
    obtain ⟨as, bs, h1, h2, h3, h4⟩ := DqKv.reads I hs rv e4
    refine ⟨_, Reads.dict e1 e2.1 e3 h1 h2, fun b hb => ?_⟩
    rcases List.mem_cons.mp hb with e | hb
    · rw [e]
      exact ⟨_, ha⟩
    · rcases List.mem_append.mp hb with hb | hb
      · exact h3 b hb
      · exact h4 b hb
theorem DqAll.reads (I : Inv X pins σ H s) : ∀ {vs : List V} {ds : List PyData} {us : List Value}, DqAll H vs ds → Vals vs us → ∃ as, ReadsAll s.heap us ds as ∧ ∀ b ∈ as, ∃ o, H b = some o
  | _, _, _, .nil, r => by
    cases r
    exact ⟨_, ReadsAll.nil, fun b z => nomatch z⟩
  | _, _, _, .cons h t, r => by
    cases r with
    | cons r1 r2 =>
      obtain ⟨as, q1, q2⟩ := Dq.reads I h r1
      obtain ⟨bs, q3, q4⟩ := DqAll.reads I t r2
      exact ⟨_, ReadsAll.cons q1 q3, fun b hb => (List.mem_append.mp hb).elim (q2 b) (q4 b)⟩
theorem DqKv.reads (I : Inv X pins σ H s) : ∀ {kvs : List (Key × V)} {ds : List (PyData × PyData)} {vs : List (Key × Value)} {es : List DictEntry}, DqKv H kvs ds → KV kvs vs → Pairs (mixKind X.prog X.w) es vs →
    ∃ as bs, ReadsAll s.heap (es.map (·.key)) (ds.map (·.1)) as ∧ ReadsAll s.heap (es.map (·.val)) (ds.map (·.2)) bs ∧ (∀ b ∈ as, ∃ o, H b = some o) ∧ ∀ b ∈ bs, ∃ o, H b = some o
  | _, _, _, _, .nil, r, p => by
    cases r
    cases p
    exact ⟨_, _, ReadsAll.nil, ReadsAll.nil, (fun b z => nomatch z), fun b z => nomatch z⟩
  | _, _, _, _, .cons (k := k) h t, r, p => by
    cases r with
    | @cons _ b _ kvr r1 r2 =>
      cases p with
      | @cons es' _ esr _ hk hv p2 =>
        obtain ⟨as, bs, q1, q2, q3, q4⟩ := DqKv.reads I t r2 p2
        obtain ⟨k', v'⟩ := b
        obtain ⟨e1, r1⟩ := r1
        have e1' : k = k' := e1
        subst e1'
        have hv' : es'.val = v' := hv
        obtain ⟨as1, q5, q6⟩ := Dq.reads I h (u := es'.val) (by rw [hv']; exact r1)
        have hk' : keyIs k es'.key = true := hk
        have q7 : Reads s.heap es'.key (keyD k) [] := by
          rcases keyIs_shape hk' with ⟨i, t, rfl, e⟩ | ⟨x, t, rfl, e⟩
          · rw [e]
            exact Reads.int i t
          · rw [e]
            exact Reads.str x t
        exact ⟨_, _, ReadsAll.cons q7 q1, ReadsAll.cons q5 q2, q3, fun b hb => (List.mem_append.mp hb).elim (q6 b) (q4 b)⟩
end
end
mutual
theorem Dq.mono {H H' : Hp} (e : Same H H') : ∀ {v : V} {d : PyData}, Dq H v d → Dq H' v d
  | _, _, .non => .non
  | _, _, .bl b => .bl b
  | _, _, .int i => .int i
  | _, _, .str x => .str x
  | _, _, .lst h t => .lst (e _ _ h) (DqAll.mono e t)
  | _, _, .tup h t => .tup (e _ _ h) (DqAll.mono e t)
  | _, _, .dct h t => .dct (e _ _ h) (DqKv.mono e t)
theorem DqAll.mono {H H' : Hp} (e : Same H H') : ∀ {v : List V} {d : List PyData}, DqAll H v d → DqAll H' v d
  | _, _, .nil => .nil
  | _, _, .cons h t => .cons (Dq.mono e h) (DqAll.mono e t)
theorem DqKv.mono {H H' : Hp} (e : Same H H') : ∀ {v : List (Key × V)} {d : List (PyData × PyData)}, DqKv H v d → DqKv H' v d
  | _, _, .nil => .nil
  | _, _, .cons h t => .cons (Dq.mono e h) (DqKv.mono e t)
end
section
variable {X : Cx}
/-- repr(v) -/
def rRepr : List V → Hp → VK → Prop := fun xs H Q => ∃ (v : V) (d : PyData), xs = [v] ∧ Dq H v d ∧ d.showable = true ∧ d.depth ≤ 60 ∧ d.shown.length ≤ sizeLine ∧ Q (.str d.shown) H
theorem call_repr (sm : ∃ o, X.K.lookup sysModules = some o) (hu : X.A.units + 64 < cLine) (gd : X.A.guards = some []) : CallR X (.builtin "repr") rRepr := by
  intro pins s σ H xs us Q I r h
  obtain ⟨v, d, rfl, hd, hs, hp, hz, q⟩ := h
  obtain ⟨u, rfl, rv⟩ := vals1 r
  obtain ⟨as, hr, ha⟩ := Dq.reads I hd rv
  have no : sysModules ∉ as := fun z => by
    obtain ⟨o, e⟩ := ha _ z
    obtain ⟨o', e'⟩ := sm
    have z2 := (I.bs _ _ (I.ok.mod.kin _ _ e')).2
    rw [e] at z2
    cases z2
  cases hd with
  | non =>
    cases rv
    exact PySem.P.repr_of_none ⟨.str _, H, I.tok _, ⟨_, rfl⟩, q⟩
  | bl b =>
    cases rv
    refine PySem.P.repr_of_bool ⟨.str _, H, I.tok _, ⟨_, rfl⟩, ?_⟩
    cases b <;> exact q
  | int i =>
    obtain ⟨t, rfl⟩ := rv
    have hs' : i.natAbs.log2 < 1920 := by simpa [PyData.showable] using hs
    exact PySem.P.repr_of_int hs' ⟨.str _, H, I.tok _, ⟨_, rfl⟩, q⟩
  | str x =>
    obtain ⟨t, rfl⟩ := rv
    exact PySem.P.repr_of_str ⟨.str _, H, I.tok _, ⟨_, rfl⟩, q⟩ hz
  | lst h1 h2 =>
    cases rv
    exact repr_of_reads' hr hs (fun _ => no) gd (by omega) (fun _ _ e => e) (fun h' u tk k => ⟨.str _, H, I.kept (t' := tk) k, ⟨u, rfl⟩, q⟩) hz
  | tup h1 h2 =>
    cases rv
    exact repr_of_reads' hr hs (fun _ => no) gd (by omega) (fun _ _ e => e) (fun h' u tk k => ⟨.str _, H, I.kept (t' := tk) k, ⟨u, rfl⟩, q⟩) hz
  | dct h1 h2 =>
    cases rv
    exact repr_of_reads' hr hs (fun _ => no) gd (by omega) (fun _ _ e => e) (fun h' u tk k => ⟨.str _, H, I.kept (t' := tk) k, ⟨u, rfl⟩, q⟩) hz
end
end LK

set_option maxHeartbeats 4000000
namespace LK
open PySem PySem.Spec PyProof.Rows L2
/-! ### `in`, `not in` by an own __contains__; len by an own __len__ -/
section
variable {X : Cx} {CX : CXT} {C f : Addr} {fd : FuncData} {ps : List Str} {sp : Sp} {E : XK} {n : Nat}
/-- what x in c asks: the promise of the class's own def, at c and x -/
def rInO (neg : Bool) (C : Addr) (sp : Sp) (E : XK) : R2 := fun x y H Q => ∃ b dx fs, y = .ref b ∧ H b = some (.ins C dx fs) ∧ sp [y, x] H (fun v H' => ∃ k, v = .bl k ∧ Q (.bl (if neg then !k else k)) H') E
/-- an own def called at some values, from what the state is -/
theorem own_run {A : Around} {pins : List (Addr × Obj)} {σ : L2.St} {H : Hp} {s : Shared} {vs : List V} {us : List Value} {Q : VK} {Qm : Value → Shared → Prop} (F : FnOk X.prog X.w X.K X.mg X.base CX n f fd ps sp) (hr : Room n A) (fr : A.frames = X.A.frames) (hb : Binds X.K fd ps []) (hx : Passes CX X E)
    (I : Inv X pins σ H s) (r : Vals vs us) (q : sp vs H Q E) (k : ∀ v u H' s', Inv X pins σ H' s' → RelV v u → Q v H' → Qm u s') : wpAny (model X.prog X.w) A (call (.ref f) us) Qm X.xe s := by
  have e := I.env0
  have e0 : Env0 X.prog X.w X.K X.mg X.base A X.stack s H := ⟨by rw [fr]; exact e.frames, e.mod, e.bs, e.bsz, e.funs, e.frf, e.hok, e.bare⟩
  have hl := F.len _ _ _ _ q
  have b := hb s us I.kIn (by rw [List.append_nil, ← r.length]; exact hl)
  rw [List.append_nil] at b
  refine wpAny_call (codeAny_mono (F.run A X.stack s H ⟨us, []⟩ us vs _ E hr e0 b r q) fun r' s' hq => ?_)
  cases r' with
  | error er => exact hx pins σ H s er s' I hq
  | ok fl =>
    cases fl with
    | ret u =>
      obtain ⟨v, H', I', rv, q'⟩ := I.after hq
      exact k v u H' s' I' rv q'
    | next => exact False.elim hq
    | brk => exact False.elim hq
    | cont => exact False.elim hq
theorem op_inOwn (F : FnOk X.prog X.w X.K X.mg X.base CX n f fd ps sp) (hr : Room n X.A) (hb : Binds X.K fd ps []) (hx : Passes CX X E) (hs : PySem.W.findIn X.K (.ref C) "__contains__" = some (some (.ref f))) (hf : PySem.W.isFn X.K (.ref f) = true) :
    OpR X (compareOp .In) (rInO false C sp E) := by
  intro pins s σ H x y v u Q I rx ry h
  obtain ⟨b, dx, fs, rfl, hi, q⟩ := h
  cases ry
  obtain ⟨m, hF⟩ := I.fr
  obtain ⟨mA, J, _⟩ := ins_get I.hok hi
  obtain ⟨od, J, _⟩ := J.look
  refine PySem.W.in_K hF I.ok.mod.kin J hs hf (own_run (vs := [.ref b, x]) F hr rfl hb hx I (.cons rfl (.cons rx .nil)) q fun w u' H' s' I' rw' q' => ?_)
  obtain ⟨k, rfl, q2⟩ := q'
  cases rw'
  show wpAny _ _ (pure k) _ _ _
  exact wpAny_pure ⟨.bl k, H', I', rfl, q2⟩
theorem op_notInOwn (F : FnOk X.prog X.w X.K X.mg X.base CX n f fd ps sp) (hr : Room n X.A) (hb : Binds X.K fd ps []) (hx : Passes CX X E) (hs : PySem.W.findIn X.K (.ref C) "__contains__" = some (some (.ref f))) (hf : PySem.W.isFn X.K (.ref f) = true) :
    OpR X (compareOp .NotIn) (rInO true C sp E) := by
  intro pins s σ H x y v u Q I rx ry h
  obtain ⟨b, dx, fs, rfl, hi, q⟩ := h
  cases ry
  obtain ⟨m, hF⟩ := I.fr
  obtain ⟨mA, J, _⟩ := ins_get I.hok hi
  obtain ⟨od, J, _⟩ := J.look
  refine PySem.W.notIn_K hF I.ok.mod.kin J hs hf (own_run (vs := [.ref b, x]) F hr rfl hb hx I (.cons rfl (.cons rx .nil)) q fun w u' H' s' I' rw' q' => ?_)
  obtain ⟨k, rfl, q2⟩ := q'
  cases rw'
  show wpAny _ _ (pure k) _ _ _
  exact wpAny_pure ⟨.bl (!k), H', I', rfl, q2⟩
def rLenO (C : Addr) (sp : Sp) (E : XK) : List V → Hp → VK → Prop := fun xs H Q => ∃ b dx fs, xs = [.ref b] ∧ H b = some (.ins C dx fs) ∧ sp [.ref b] H (fun v H' => ∃ k : Int, v = .int k ∧ 0 ≤ k ∧ k < 2 ^ 63 ∧ Q (.int k) H') E
theorem call_lenOwn (F : FnOk X.prog X.w X.K X.mg X.base CX n f fd ps sp) (hr : Room (n + 1) X.A) (hb : Binds X.K fd ps []) (hx : Passes CX X E) (hs : PySem.W.findIn X.K (.ref C) "__len__" = some (some (.ref f))) (hf : PySem.W.isFn X.K (.ref f) = true) :
    CallR X (.builtin "len") (rLenO C sp E) := by
  intro pins s σ H xs us Q I r h
  obtain ⟨b, dx, fs, rfl, hi, q⟩ := h
  obtain ⟨u, rfl, ru⟩ := vals1 r
  cases ru
  obtain ⟨m, hF⟩ := I.fr
  obtain ⟨mA, J, _⟩ := ins_get I.hok hi
  obtain ⟨od, J, _⟩ := J.look
  refine PySem.W.len_K hF I.ok.mod.kin J hs hf (own_run (vs := [.ref b]) F hr.in1 rfl hb hx I (.cons rfl .nil) q fun w u' H' s' I' rw' q' => ?_)
  obtain ⟨k, rfl, k0, k1, q2⟩ := q'
  obtain ⟨t, rfl⟩ := rw'
  exact ⟨⟨k0, k1⟩, .int k, H', I'.tok _, ⟨_, rfl⟩, q2⟩
end
end LK

set_option maxHeartbeats 4000000
/-! ### looksleft.checks: what the defs promise (any law's row: k04_runnings_deed_by_deed) -/
namespace Tr
open PySem PySem.Spec PyProof.Rows L2 LK Evl
def top (i : Nat) : Stmt := PySem.Challenge.pw_looksleft_k04_runnings_deed_by_deed.main.body.getD i (.Pass ⟨0, 0, 0, 0⟩)
abbrev FnP (K : PySem.W.Frag) (x : Str) (st : Stmt) (f : Addr) (fd : FuncData) : Prop := FunD K x x (defArgs st) (defBody st) (defScope st) [] [] f fd
structure Kd (K : PySem.W.Frag) (mg : Str → Option Value) (x : Str) (ps : List Str) (f : Addr) (fd : FuncData) : Prop where
  m : mg x = some (.ref f)
  k : PySem.W.keepIn K (.ref f) = true
  b : Binds K fd ps []
theorem ev_callP {σ : L2.St} {H : Hp} {sp : Sp} {t : TA} {vs : List V} {v : V} (h : EvA t σ H vs) (hc : ∀ H1, Ex H H1 → ∀ Q, RetV v H1 Q → sp (vs ++ []) H1 Q E0) : Ev (tCall sp [] E0 t) σ H v := fun H1 e Q q =>
  h H1 e _ fun H2 e2 => hc H2 (e.trans e2) Q fun H3 e3 => q H3 (e2.trans e3)
/-! values by what they are -/
def tyD : PyData → String
  | .none => "NoneType"
  | .bool _ => "bool"
  | .int _ => "int"
  | .str _ => "str"
  | .list _ => "list"
  | .tuple _ => "tuple"
  | .dict _ => "dict"
theorem dq_ty {K : PySem.W.Frag} {H : Hp} {v : V} {d : PyData} (h : Dq H v d) : TyX K H v (.type (tyD d)) := by
  cases h with
  | non => exact .base .non
  | bl b => exact .base (.bl b)
  | int i => exact .base (.int i)
  | str x => exact .base (.str x)
  | lst h _ => exact .base (.lst h)
  | tup h _ => exact .base (.tup h)
  | dct h _ => exact .base (.dK h)
def wholeD : PyData → Option Int
  | .int i => some i
  | _ => none
def btwD (lo hi : Int) (d : PyData) : Bool := match wholeD d with
  | some i => decide (lo ≤ i) && decide (i ≤ hi)
  | none => false
def listD : PyData → Option (List PyData)
  | .list ds => some ds
  | .tuple ds => some ds
  | _ => none
def areD (lo hi : Int) (d : PyData) : Bool := match listD d with
  | some ds => ds.all (btwD lo hi)
  | none => false
section
variable {K : PySem.W.Frag} {σ : L2.St} {H : Hp} {te : TE} {v : V} {d : PyData}
/-- isinstance(v, T), T a built-in type; (T, U) -/
theorem ev_isB {n : String} {b : Bool} (h : Ev te σ H v) (hd : Dq H v d) (e : kitB (tyD d) n = some b) : Ev (tCB (rIsi K) (tCons te (tCons (tC (.ty n)) tNil))) σ H (.bl b) := fun H1 e1 Q q =>
  h H1 e1 _ fun H2 e2 => ⟨v, .ty n, _, _, b, rfl, .ty n, dq_ty (Dq.mono (e1.trans e2) hd), kit_ty e, q H2 e2⟩
theorem ev_isB2 {m n : String} {b c : Bool} (h : Ev te σ H v) (hd : Dq H v d) (e : kitB (tyD d) m = some b) (e' : kitB (tyD d) n = some c) : Ev (tCB (rIsiT K) (tCons te (tCons (tTup (tCons (tC (.ty m)) (tCons (tC (.ty n)) tNil))) tNil))) σ H (.bl (b || c)) := fun H1 e1 Q q =>
  h H1 e1 _ fun H2 e2 => ⟨sz_of (by show 2 ≤ 100000; decide), fun p hp => ⟨v, p, _, _, _, b || c, rfl, upd_same, .cons (.ty m) (.cons (.ty n) .nil), dq_ty (Dq.mono ((e1.trans e2).trans (Ex.new hp)) hd), kitAny_cons (kit_ty e) (fun z => kitAny_cons (kit_ty e') (fun z' => by rw [z, z']; rfl) (fun z' => by rw [z, z']; rfl)) (fun z => by rw [z]; rfl), q _ (e2.trans (Ex.new hp))⟩⟩
end
section
variable {X : Cx} {tg iter : Expr} {w1 w2 : TI}
def iOr (a b : TI) : TI := fun σ H R => a σ H R ∨ b σ H R
theorem pi_or (h : PI X tg iter w1) (k : PI X tg iter w2) : PI X tg iter (iOr w1 w2) := ⟨fun pins s σ H R I q => q.elim (h.run pins s σ H R I) (k.run pins s σ H R I)⟩
end
/-- [e for x in v]: v a list or a tuple of known items -/
theorem el_lcS {K : PySem.W.Frag} {σ : L2.St} {H : Hp} {a : Addr} {xs : List V} {tl te : TE} {j : Nat} {vs : List Nat} (g : Nat → V) (h : Ev tl σ H (.ref a)) (hx : SqL K H a xs ∨ SqT K H a xs) (hz : xs.length ≤ 40000) (hw : ∀ x, wipe ((wipe σ vs).set j (some x)) vs = wipe σ vs)
    (he : ∀ (i : Nat) (x : V) H1, Ex H H1 → xs[i]? = some x → Ev te ((wipe σ vs).set j (some x)) H1 (g i)) : EvL (tLc (iOr (iList K tl) (iTup K tl)) (gName j) tYes te vs) σ H ((List.range xs.length).map g) := fun H0 e Q q => by
  have turn : ∀ (H1 : Hp) (Dl : Addr), Ex H H1 → H1 Dl = none → ∀ (i : Nat) (x : V) (H' : Hp), xs[i]? = some x → (Ex H1 H' ∧ H' Dl = some (.lst ((List.range i).map g))) → wipe ((wipe σ vs).set j (some x)) vs = wipe σ vs ∧
      te ((wipe σ vs).set j (some x)) H' fun y H4 => ∃ acc, H4 Dl = some (.lst acc) ∧ acc.length < sizeLine ∧ (Ex H1 (upd H4 Dl (.lst (acc ++ [y]))) ∧ upd H4 Dl (.lst (acc ++ [y])) Dl = some (.lst ((List.range (i + 1)).map g))) := fun H1 Dl e1 hD i x H' hi p => by
    refine ⟨hw x, he i x H' (e1.trans p.1) hi H' (Ex.refl H') _ fun H4 e4 => ⟨_, e4 _ _ p.2, sz_lt ?_, Ex.mut (p.1.trans e4) hD, ?_⟩⟩
    · have := (List.getElem?_eq_some_iff.mp hi).1
      rw [List.length_map, List.length_range]
      omega
    · rw [upd_same, List.range_succ, List.map_append]
      rfl
  rcases hx with hx | hx
  · refine .inl (h H0 e _ fun H1 e1 => ⟨a, rfl, ⟨xs, ex_l (e.trans e1) hx⟩, fun Dl hD => lc_list (xs := xs) (fun i H' => Ex H1 H' ∧ H' Dl = some (.lst ((List.range i).map g))) ⟨Ex.new hD, upd_same⟩ (fun i H' _ p => ex_l ((e.trans e1).trans p.1) hx) (fun i x H' hi p => turn H1 Dl (e.trans e1) hD i x H' hi p) fun H' p => q Dl H' (fresh_back e1 hD) (e1.trans p.1) p.2⟩)
  · refine .inr (h H0 e _ fun H1 e1 => ⟨a, rfl, ⟨xs, ex_t (e.trans e1) hx⟩, fun Dl hD => lc_tup (xs := xs) (fun i H' => Ex H1 H' ∧ H' Dl = some (.lst ((List.range i).map g))) ⟨Ex.new hD, upd_same⟩ (fun i H' _ p => ex_t ((e.trans e1).trans p.1) hx) (fun i x H' hi p => turn H1 Dl (e.trans e1) hD i x H' hi p) fun H' p => q Dl H' (fresh_back e1 hD) (e1.trans p.1) p.2⟩)
theorem ev_all {K : PySem.W.Frag} {σ : L2.St} {H : Hp} {te : TE} {bs : List Bool} (h : EvL te σ H (bs.map V.bl)) : Ev (tCB (rAll K) (tCons te tNil)) σ H (.bl (bs.all id)) := fun H1 e Q q =>
  h H1 e _ fun p H2 np e2 hp => ⟨p, bs, rfl, .inl (.inl hp), q H2 e2⟩
/-! the defs -/
abbrev sWhole : Stmt := top 2
abbrev sBtw : Stmt := top 3
abbrev sIsL : Stmt := top 4
abbrev sAre : Stmt := top 5
theorem scWhole : FnScope ["value"] ["value"] (defScope sWhole) := ⟨rfl, rfl, rfl, by decide +kernel, rfl, by decide +kernel, by decide +kernel⟩
theorem scBtw : FnScope ["value", "low", "high"] ["value", "low", "high"] (defScope sBtw) := ⟨rfl, rfl, rfl, by decide +kernel, rfl, by decide +kernel, by decide +kernel⟩
theorem scIsL : FnScope ["value"] ["value"] (defScope sIsL) := ⟨rfl, rfl, rfl, by decide +kernel, rfl, by decide +kernel, by decide +kernel⟩
theorem scAre : FnScope ["value", "low", "high", "item"] ["value", "low", "high"] (defScope sAre) := ⟨rfl, rfl, rfl, by decide +kernel, rfl, by decide +kernel, by decide +kernel⟩
def spWhole : Sp := fun vs H Q _ => ∃ (v : V) (d : PyData), vs = [v] ∧ Dq H v d ∧ RetV (.bl (wholeD d).isSome) H Q
def spBtw : Sp := fun vs H Q _ => ∃ (v : V) (d : PyData) (lo hi : Int), vs = [v, .int lo, .int hi] ∧ Dq H v d ∧ RetV (.bl (btwD lo hi d)) H Q
def spIsL : Sp := fun vs H Q _ => ∃ (v : V) (d : PyData), vs = [v] ∧ Dq H v d ∧ RetV (.bl (listD d).isSome) H Q
def spAre : Sp := fun vs H Q _ => ∃ (v : V) (d : PyData) (lo hi : Int), vs = [v, .int lo, .int hi] ∧ Dq H v d ∧ (∀ ds, listD d = some ds → ds.length ≤ 40000) ∧ RetV (.bl (areD lo hi d)) H Q
section
variable {P : Program} {w : World} {K : PySem.W.Frag} {mg : Str → Option Value} {base : Heap} {f f1 f2 : Addr} {fd d1 d2 : FuncData}
theorem ok_whole (F : FnP K "is_whole" sWhole f fd) (mi : mg "isinstance" = none) (mt : mg "int" = none) (mb : mg "bool" = none) : FnOk P w K mg base CX0 1 f fd ["value"] spWhole := by
  refine F.ok scWhole (fun vs H Q E h => ?_) fun cdv A outer s H0 vs Q E hr h => ⟨_, PSs.nox (pss_one (ps_ret (pe_and (pe_callB call_isi (by rfl) mi (by decide +kernel) (pa_cons (pv 0) (pa_cons (pe_bltn (v := .ty "int") (by rfl) mt (by decide +kernel : bootBuiltins "int" = some (.type "int")) rfl) pa_nil)))
    (pe_one (pe_not (pe_callB call_isi (by rfl) mi (by decide +kernel) (pa_cons (pv 0) (pa_cons (pe_bltn (v := .ty "bool") (by rfl) mb (by decide +kernel : bootBuiltins "bool" = some (.type "bool")) rfl) pa_nil)))))))), ?_⟩
  · obtain ⟨v, d, rfl, _⟩ := h
    rfl
  · obtain ⟨v, d, rfl, hd, hQ⟩ := h
    have go : ∀ (a b : Bool), kitB (tyD d) "int" = some a → kitB (tyD d) "bool" = some b → (wholeD d).isSome = (a && !b) → tRet (tAndV (tCB (rIsi K) (tCons (tVar 0) (tCons (tC (.ty "int")) tNil))) (tNotV (tCB (rIsi K) (tCons (tVar 0) (tCons (tC (.ty "bool")) tNil))))) { nx := fun _ H' => Q .non H', rt := Q } (start ["value"] [v]) H0 := fun a b ha hb e =>
      s_ret (v := .bl (wholeD d).isSome) (by rw [e]; exact ev_andV (ev_isB (ev_var rfl) hd ha) fun _ => ev_notV (ev_isB (ev_var rfl) hd hb)) fun H1 e1 => hQ H1 e1
    cases d with
    | none => exact go false false (by dsimp only [tyD]; decide +kernel) (by dsimp only [tyD]; decide +kernel) rfl
    | bool b => exact go true true (by dsimp only [tyD]; decide +kernel) (by dsimp only [tyD]; decide +kernel) rfl
    | int i => exact go true false (by dsimp only [tyD]; decide +kernel) (by dsimp only [tyD]; decide +kernel) rfl
    | str x => exact go false false (by dsimp only [tyD]; decide +kernel) (by dsimp only [tyD]; decide +kernel) rfl
    | list ds => exact go false false (by dsimp only [tyD]; decide +kernel) (by dsimp only [tyD]; decide +kernel) rfl
    | tuple ds => exact go false false (by dsimp only [tyD]; decide +kernel) (by dsimp only [tyD]; decide +kernel) rfl
    | dict ds => exact go false false (by dsimp only [tyD]; decide +kernel) (by dsimp only [tyD]; decide +kernel) rfl
theorem ok_btw (F : FnP K "is_between" sBtw f fd) (G : FnOk P w K mg base CX0 1 f1 d1 ["value"] spWhole) (k1 : Kd K mg "is_whole" ["value"] f1 d1) : FnOk P w K mg base CX0 2 f fd ["value", "low", "high"] spBtw := by
  refine F.ok scBtw (fun vs H Q E h => ?_) fun cdv A outer s H0 vs Q E hr h => ⟨_, PSs.nox (pss_one (ps_ret (pe_and (pe_call G hr (by rfl) k1.m k1.k k1.b .nil pass0 (pa_cons (pv 0) pa_nil)) (pe_one (pe_chain op_le op_le (pv 1) (pv 0) (pv 2)))))), ?_⟩
  · obtain ⟨v, d, lo, hi, rfl, _⟩ := h
    rfl
  · obtain ⟨v, d, lo, hi, rfl, hd, hQ⟩ := h
    refine s_ret (v := .bl (btwD lo hi d)) ?_ fun H1 e1 => hQ H1 e1
    unfold btwD
    cases hw : wholeD d with
    | none => exact ev_andV (a := false) (b := false) (ev_callP (ea_cons (ev_var rfl) ea_nil) fun H1 e1 Q q => ⟨v, d, rfl, Dq.mono e1 hd, by rw [hw]; exact q⟩) fun z => nomatch z
    | some i =>
      have hv : v = .int i := by
        cases hd <;> first | (cases hw; rfl) | cases hw
      subst hv
      refine ev_andV (a := true) (b := decide (lo ≤ i) && decide (i ≤ hi)) (ev_callP (ea_cons (ev_var rfl) ea_nil) fun H1 e1 Q q => ⟨_, d, rfl, Dq.mono e1 hd, by rw [hw]; exact q⟩) fun _ => ?_
      intro H1 e1 Q q
      refine ⟨_, rfl, _, rfl, lo, i, rfl, rfl, _, rfl, ?_⟩
      by_cases c : lo ≤ i
      · rw [if_pos (decide_eq_true c)]
        refine ⟨_, rfl, i, hi, rfl, rfl, ?_⟩
        have z := q H1 (Ex.refl H1)
        rw [decide_eq_true c, Bool.true_and] at z
        exact z
      · rw [if_neg (by rw [decide_eq_false c]; exact Bool.false_ne_true)]
        have z := q H1 (Ex.refl H1)
        rw [decide_eq_false c, Bool.false_and] at z
        exact z
theorem ok_isL (F : FnP K "is_list" sIsL f fd) (mi : mg "isinstance" = none) (ml : mg "list" = none) (mt : mg "tuple" = none) : FnOk P w K mg base CX0 1 f fd ["value"] spIsL := by
  refine F.ok scIsL (fun vs H Q E h => ?_) fun cdv A outer s H0 vs Q E hr h => ⟨_, PSs.nox (pss_one (ps_ret (pe_callB call_isiT (by rfl) mi (by decide +kernel) (pa_cons (pv 0) (pa_cons (pe_tup (pa_cons (pe_bltn (v := .ty "list") (by rfl) ml (by decide +kernel : bootBuiltins "list" = some (.type "list")) rfl) (pa_cons (pe_bltn (v := .ty "tuple") (by rfl) mt (by decide +kernel : bootBuiltins "tuple" = some (.type "tuple")) rfl) pa_nil))) pa_nil))))), ?_⟩
  · obtain ⟨v, d, rfl, _⟩ := h
    rfl
  · obtain ⟨v, d, rfl, hd, hQ⟩ := h
    have go : ∀ (a b : Bool), kitB (tyD d) "list" = some a → kitB (tyD d) "tuple" = some b → (listD d).isSome = (a || b) → tRet (tCB (rIsiT K) (tCons (tVar 0) (tCons (tTup (tCons (tC (.ty "list")) (tCons (tC (.ty "tuple")) tNil))) tNil))) { nx := fun _ H' => Q .non H', rt := Q } (start ["value"] [v]) H0 := fun a b ha hb e =>
      s_ret (v := .bl (listD d).isSome) (by rw [e]; exact ev_isB2 (ev_var rfl) hd ha hb) fun H1 e1 => hQ H1 e1
    cases d with
    | none => exact go false false (by dsimp only [tyD]; decide +kernel) (by dsimp only [tyD]; decide +kernel) rfl
    | bool b => exact go false false (by dsimp only [tyD]; decide +kernel) (by dsimp only [tyD]; decide +kernel) rfl
    | int i => exact go false false (by dsimp only [tyD]; decide +kernel) (by dsimp only [tyD]; decide +kernel) rfl
    | str x => exact go false false (by dsimp only [tyD]; decide +kernel) (by dsimp only [tyD]; decide +kernel) rfl
    | list ds => exact go true false (by dsimp only [tyD]; decide +kernel) (by dsimp only [tyD]; decide +kernel) rfl
    | tuple ds => exact go false true (by dsimp only [tyD]; decide +kernel) (by dsimp only [tyD]; decide +kernel) rfl
    | dict ds => exact go false false (by dsimp only [tyD]; decide +kernel) (by dsimp only [tyD]; decide +kernel) rfl
theorem dq_seq {H : Hp} {v : V} {d : PyData} {ds : List PyData} (h : Dq H v d) (e : listD d = some ds) : ∃ a xs, v = .ref a ∧ (SqL K H a xs ∨ SqT K H a xs) ∧ DqAll H xs ds := by
  cases h with
  | lst h1 h2 =>
    cases e
    exact ⟨_, _, rfl, .inl (sq_of h1), h2⟩
  | tup h1 h2 =>
    cases e
    exact ⟨_, _, rfl, .inr (st_of h1), h2⟩
  | _ => cases e
theorem dq_len : ∀ {H : Hp} {vs : List V} {ds : List PyData}, DqAll H vs ds → vs.length = ds.length
  | _, _, _, .nil => rfl
  | _, _, _, .cons _ t => congrArg Nat.succ (dq_len t)
theorem dq_get : ∀ {H : Hp} {vs : List V} {ds : List PyData}, DqAll H vs ds → ∀ (i : Nat) (v : V), vs[i]? = some v → ∃ d, ds[i]? = some d ∧ Dq H v d
  | _, _, _, .nil, _, _, e => by cases e
  | _, _, _, .cons h t, 0, _, e => by
    cases e
    exact ⟨_, rfl, h⟩
  | _, _, _, .cons h t, i + 1, _, e => dq_get t i _ e
theorem all_get (p : PyData → Bool) (ds : List PyData) : ((List.range ds.length).map fun i => p (ds.getD i .none)) = ds.map p := by
  refine List.ext_getElem (by simp) fun i h1 h2 => ?_
  have h3 : i < ds.length := by simpa using h1
  simp [h3]
theorem ok_are (F : FnP K "are_between" sAre f fd) (G : FnOk P w K mg base CX0 1 f1 d1 ["value"] spIsL) (k1 : Kd K mg "is_list" ["value"] f1 d1) (G2 : FnOk P w K mg base CX0 2 f2 d2 ["value", "low", "high"] spBtw) (k2 : Kd K mg "is_between" ["value", "low", "high"] f2 d2) (ma : mg "all" = none) :
    FnOk P w K mg base CX0 3 f fd ["value", "low", "high"] spAre := by
  refine F.ok scAre (fun vs H Q E h => ?_) fun cdv A outer s H0 vs Q E hr h => ⟨_, PSs.nox (pss_one (ps_ret (pe_and (pe_call G (hr.mono (by decide)) (by rfl) k1.m k1.k k1.b .nil pass0 (pa_cons (pv 0) pa_nil)) (pe_one (pe_callB (cr_all rfl) (by rfl) ma (by decide +kernel) (pa_cons
    (pe_lc (own := [("item", 3)]) (g := gName 3) (tt := tYes) rfl scAre.nd (pi_or (pi_list (pv 0)) (pi_tup (pv 0))) (blkOk_by (N := ["value", "low", "high", "item"]) (sc := defScope sAre) (by decide +kernel)) (fun _ _ _ _ _ => pg_name (i := 3) scAre.nd rfl (.inl rfl)) (fun _ _ _ _ _ => pts_nil)
      (fun _ _ _ _ _ => pe_call G2 hr (by rfl) k2.m k2.k k2.b .nil pass0 (pa_cons (pv 3) (pa_cons (pv 1) (pa_cons (pv 2) pa_nil))))) pa_nil)))))), ?_⟩
  · obtain ⟨v, d, lo, hi, rfl, _⟩ := h
    rfl
  · obtain ⟨v, d, lo, hi, rfl, hd, hz, hQ⟩ := h
    refine s_ret (v := .bl (areD lo hi d)) ?_ fun H1 e1 => hQ H1 e1
    unfold areD
    cases hl : listD d with
    | none => exact ev_andV (a := false) (b := false) (ev_callP (ea_cons (ev_var rfl) ea_nil) fun H1 e1 Q q => ⟨v, d, rfl, Dq.mono e1 hd, by rw [hl]; exact q⟩) fun z => nomatch z
    | some ds =>
      obtain ⟨a, xs, rfl, hs, hall⟩ := dq_seq (K := K) hd hl
      have hlen := dq_len hall
      have hz2 : xs.length ≤ 40000 := by rw [hlen]; exact hz ds hl
      refine ev_andV (a := true) (b := ds.all (btwD lo hi)) (ev_callP (ea_cons (ev_var rfl) ea_nil) fun H1 e1 Q q => ⟨_, d, rfl, Dq.mono e1 hd, by rw [hl]; exact q⟩) fun _ => ?_
      have key := el_lcS (K := K) (σ := start ["value", "low", "high", "item"] [.ref a, .int lo, .int hi]) (H := H0) (a := a) (xs := xs) (tl := tVar 0) (te := tCall spBtw [] E0 (tCons (tVar 3) (tCons (tVar 1) (tCons (tVar 2) tNil)))) (j := 3) (vs := [3]) (fun i => .bl (btwD lo hi (ds.getD i .none))) (ev_var rfl) hs hz2 (fun _ => rfl)
        fun i x H1 e1 hi' => by
          obtain ⟨dd, h1, h2⟩ := dq_get hall i x hi'
          have e : ds.getD i .none = dd := by rw [List.getD_eq_getElem?_getD, h1]; rfl
          rw [e]
          exact ev_callP (ea_cons (ev_var rfl) (ea_cons (ev_var rfl) (ea_cons (ev_var rfl) ea_nil))) fun H2 e2 Q q => ⟨x, dd, lo, hi, rfl, Dq.mono (e1.trans e2) h2, q⟩
      have z := congrArg (List.map V.bl) (all_get (btwD lo hi) ds)
      rw [List.map_map] at z
      have z2 : (ds.map (btwD lo hi)).all id = ds.all (btwD lo hi) := by rw [List.all_map]; rfl
      rw [← z2]
      refine ev_all ?_
      rw [← z, ← hlen]
      exact key
end
end Tr

/-! The search of looksleft/trees.py as plain mathematics: from a target, each house that is reached is told its step. -/
namespace Dfs
/-- a house that is reached -/
def Vis (st : List (Option Nat)) (h : Nat) : Prop := ∃ p, st[h]? = some (some p)
theorem Vis.set {st : List (Option Nat)} {h u p : Nat} (v : Vis st h) : Vis (st.set u (some p)) h := by
  obtain ⟨q, e⟩ := v
  by_cases c : u = h
  · subst c
    have hl := (List.getElem?_eq_some_iff.mp e).1
    exact ⟨p, by rw [List.getElem?_set_self hl]⟩
  · exact ⟨q, by rw [List.getElem?_set_ne c]; exact e⟩
/-- the houses on the steps from h to t -/
inductive Walk (st : List (Option Nat)) (t : Nat) : Nat → List Nat → Prop
  | here : Walk st t t [t]
  | on {h p : Nat} {w : List Nat} : h ≠ t → st[h]? = some (some p) → Walk st t p w → Walk st t h (h :: w)
theorem Walk.set {st : List (Option Nat)} {t u q : Nat} (n : st[u]? = some none) : ∀ {h : Nat} {w : List Nat}, Walk st t h w → Walk (st.set u (some q)) t h w
  | _, _, .here => .here
  | _, _, .on ne e k => .on ne (by rw [List.getElem?_set_ne (fun z => by rw [z, e] at n; cases n)]; exact e) (k.set n)
theorem Walk.fn {st : List (Option Nat)} {t : Nat} : ∀ {h : Nat} {w v : List Nat}, Walk st t h w → Walk st t h v → w = v
  | _, _, _, .here, .here => rfl
  | _, _, _, .here, .on n _ _ => absurd rfl n
  | _, _, _, .on n _ _, .here => absurd rfl n
  | _, _, _, .on _ e k, .on _ f l => by
    rw [e] at f
    cases f
    rw [k.fn l]
theorem Walk.sub {st : List (Option Nat)} {t : Nat} : ∀ {h x : Nat} {w : List Nat}, Walk st t h w → x ∈ w → ∃ v, Walk st t x v ∧ v.length ≤ w.length
  | _, _, _, .here, m => by
    rw [List.mem_singleton.mp m]
    exact ⟨_, .here, Nat.le_refl _⟩
  | _, x, _, .on (h := h) n e k, m => by
    rcases List.mem_cons.mp m with z | z
    · rw [z]
      exact ⟨_, .on n e k, Nat.le_refl _⟩
    · obtain ⟨v, a, b⟩ := k.sub z
      exact ⟨v, a, by rw [List.length_cons]; omega⟩
theorem Walk.nodup {st : List (Option Nat)} {t : Nat} : ∀ {h : Nat} {w : List Nat}, Walk st t h w → w.Nodup
  | _, _, .here => by simp
  | _, _, .on n e k => by
    refine List.nodup_cons.mpr ⟨fun m => ?_, k.nodup⟩
    obtain ⟨v, a, b⟩ := k.sub m
    have z := (Walk.on n e k).fn a
    rw [← z, List.length_cons] at b
    omega
theorem Walk.first {st : List (Option Nat)} {t h : Nat} {w : List Nat} (k : Walk st t h w) : w[0]? = some h := by
  cases k <;> rfl
theorem Walk.last {st : List (Option Nat)} {t : Nat} : ∀ {h : Nat} {w : List Nat}, Walk st t h w → w[w.length - 1]? = some t
  | _, _, .here => rfl
  | _, _, .on (w := w) n e k => by
    have z := k.last
    have l : 0 < w.length := by cases k <;> simp
    rw [List.length_cons, Nat.add_sub_cancel]
    have e2 : w.length = (w.length - 1) + 1 := by omega
    rw [e2, List.getElem?_cons_succ]
    exact z
theorem few : ∀ (n : Nat) (l : List Nat), l.Nodup → (∀ x ∈ l, x < n) → l.length ≤ n
  | 0, l, _, h => by
    cases l with
    | nil => exact Nat.le_refl _
    | cons a r => exact absurd (h a (.head _)) (Nat.not_lt_zero _)
  | n + 1, l, nd, h => by
    have k := few n (l.filter (fun x => x != n)) (nd.sublist List.filter_sublist) (fun x m => by
      obtain ⟨a, b⟩ := List.mem_filter.mp m
      have := h x a
      have : x ≠ n := by simpa using b
      omega)
    have c : List.countP (fun x => x == n) l ≤ 1 := List.nodup_iff_count.mp nd n
    have e := List.length_eq_countP_add_countP (fun x => x != n) (l := l)
    have e2 : List.countP (fun a => decide ¬(a != n) = true) l = List.countP (fun x => x == n) l := by
      congr 1
      funext x
      by_cases q : x = n <;> simp [q]
    rw [e2, List.countP_eq_length_filter] at e
    omega
structure Core (adj : List (List Nat)) (t : Nat) (st : List (Option Nat)) : Prop where
  len : st.length = adj.length
  tgt : st[t]? = some (some t)
  par : ∀ h p, st[h]? = some (some p) → h = t ∨ (h ∈ adj.getD p [] ∧ Vis st p)
  wlk : ∀ h, Vis st h → ∃ w, Walk st t h w
theorem Core.inside {adj : List (List Nat)} {t : Nat} {st : List (Option Nat)} (c : Core adj t st) : ∀ {h : Nat} {w : List Nat}, Walk st t h w → ∀ x ∈ w, x < adj.length
  | _, _, .here, x, m => by
    rw [List.mem_singleton.mp m, ← c.len]
    exact (List.getElem?_eq_some_iff.mp c.tgt).1
  | _, _, .on n e k, x, m => by
    rcases List.mem_cons.mp m with z | z
    · rw [z, ← c.len]
      exact (List.getElem?_eq_some_iff.mp e).1
    · exact c.inside k x z
theorem Core.short {adj : List (List Nat)} {t : Nat} {st : List (Option Nat)} (c : Core adj t st) {h : Nat} {w : List Nat} (k : Walk st t h w) : w.length ≤ adj.length := few _ _ k.nodup (c.inside k)
/-- between two turns of the outer loop -/
structure Out (adj : List (List Nat)) (t : Nat) (st : List (Option Nat)) (stk : List Nat) : Prop extends Core adj t st where
  stv : ∀ h ∈ stk, Vis st h
  opn : ∀ h, Vis st h → h ∉ stk → ∀ u ∈ adj.getD h [], Vis st u
  fst : (stk = [t] ∧ ∀ h, Vis st h → h = t) ∨ (t ∉ stk ∧ ∀ u ∈ adj.getD t [], u ≠ t → st[u]? = some (some t))
/-- within the inner loop, house popped, i of its neighbours looked at -/
structure Mid (adj : List (List Nat)) (t : Nat) (st : List (Option Nat)) (stk : List Nat) (house i : Nat) : Prop extends Core adj t st where
  stv : ∀ h ∈ stk, Vis st h
  hou : Vis st house
  opn : ∀ h, Vis st h → h ∉ stk → h ≠ house → ∀ u ∈ adj.getD h [], Vis st u
  got : ∀ u ∈ (adj.getD house []).take i, Vis st u
  fst : (house = t ∧ t ∉ stk ∧ (∀ h, Vis st h → h ≠ t → st[h]? = some (some t))) ∨ (t ∉ stk ∧ ∀ u ∈ adj.getD t [], u ≠ t → st[u]? = some (some t))
section
variable {adj : List (List Nat)} {t : Nat} {st : List (Option Nat)} {stk : List Nat} {house i u : Nat}
theorem start (ht : t < adj.length) : Out adj t ((List.replicate adj.length none).set t (some t)) [t] := by
  have hl : t < (List.replicate adj.length (none : Option Nat)).length := by rw [List.length_replicate]; exact ht
  have only : ∀ h p, ((List.replicate adj.length (none : Option Nat)).set t (some t))[h]? = some (some p) → h = t := fun h p e => by
    by_cases c : t = h
    · exact c.symm
    · rw [List.getElem?_set_ne c, List.getElem?_replicate] at e
      split at e <;> simp at e
  have tg : ((List.replicate adj.length (none : Option Nat)).set t (some t))[t]? = some (some t) := by rw [List.getElem?_set_self hl]
  refine ⟨⟨by rw [List.length_set, List.length_replicate], tg, fun h p e => .inl (only h p e), fun h ⟨p, e⟩ => ⟨[t], by rw [only h p e]; exact .here⟩⟩, fun h hh => ?_, fun h v n => ?_, .inl ⟨rfl, fun h ⟨p, e⟩ => only h p e⟩⟩
  · rw [List.mem_singleton.mp hh]
    exact ⟨t, tg⟩
  · obtain ⟨p, e⟩ := v
    exact absurd (List.mem_singleton.mpr (only h p e)) n
/-- house = stack.pop() -/
theorem pop (h : Out adj t st (stk ++ [house])) (nd : house ∉ stk) : Mid adj t st stk house 0 := by
  refine ⟨h.toCore, fun x hx => h.stv x (List.mem_append_left _ hx), h.stv house (List.mem_append_right _ (.head _)), fun x v n1 n2 => h.opn x v fun z => ?_, fun x hx => by simp at hx, ?_⟩
  · rcases List.mem_append.mp z with z | z
    · exact n1 z
    · exact n2 (List.mem_singleton.mp z)
  · rcases h.fst with ⟨e, only⟩ | ⟨n, k⟩
    · have e1 : stk = [] ∧ house = t := by
        cases stk with
        | nil => exact ⟨rfl, by simpa using e⟩
        | cons a r => simp at e
      exact .inl ⟨e1.2, by rw [e1.1]; exact List.not_mem_nil, fun x v n => absurd (only x v) n⟩
    · exact .inr ⟨fun z => n (List.mem_append_left _ z), k⟩
/-- a neighbour that was reached before -/
theorem skip (h : Mid adj t st stk house i) (hu : (adj.getD house [])[i]? = some u) (v : Vis st u) : Mid adj t st stk house (i + 1) := by
  refine ⟨h.toCore, h.stv, h.hou, h.opn, fun x hx => ?_, h.fst⟩
  rw [List.take_add_one, hu] at hx
  rcases List.mem_append.mp hx with z | z
  · exact h.got x z
  · have e : x = u := by simpa using z
    rw [e]
    exact v
/-- a neighbour that is reached now -/
theorem step (h : Mid adj t st stk house i) (hu : (adj.getD house [])[i]? = some u) (lt : u < adj.length) (nv : st[u]? = some none) : Mid adj t (st.set u (some house)) (stk ++ [u]) house (i + 1) := by
  have ul : u < st.length := by rw [h.len]; exact lt
  have here : (st.set u (some house))[u]? = some (some house) := by rw [List.getElem?_set_self ul]
  have ne : ∀ x, Vis st x → u ≠ x := fun x ⟨p, e⟩ z => by rw [z, e] at nv; cases nv
  have old : ∀ x, u ≠ x → (st.set u (some house))[x]? = st[x]? := fun x n => List.getElem?_set_ne n
  have back : ∀ x, Vis (st.set u (some house)) x → x ≠ u → Vis st x := fun x ⟨p, e⟩ n => ⟨p, by rw [old x (Ne.symm n)] at e; exact e⟩
  have tu : u ≠ t := ne t ⟨t, h.tgt⟩
  have mem : u ∈ adj.getD house [] := List.mem_of_getElem? hu
  refine ⟨⟨by rw [List.length_set]; exact h.len, by rw [old t tu]; exact h.tgt, fun x p e => ?_, fun x v => ?_⟩, fun x hx => ?_, h.hou.set, fun x v n1 n2 y hy => ?_, fun x hx => ?_, ?_⟩
  · by_cases c : u = x
    · subst c
      rw [here] at e
      have e2 : house = p := Option.some.inj (Option.some.inj e)
      subst e2
      exact .inr ⟨mem, h.hou.set⟩
    · rw [old x c] at e
      exact (h.par x p e).imp id fun q => ⟨q.1, q.2.set⟩
  · by_cases c : x = u
    · subst c
      obtain ⟨w, k⟩ := h.wlk house h.hou
      exact ⟨x :: w, .on tu here (k.set nv)⟩
    · obtain ⟨w, k⟩ := h.wlk x (back x v c)
      exact ⟨w, k.set nv⟩
  · rcases List.mem_append.mp hx with z | z
    · exact (h.stv x z).set
    · rw [List.mem_singleton.mp z]
      exact ⟨house, here⟩
  · have nu : x ≠ u := fun z => n1 (List.mem_append_right _ (by rw [z]; exact .head _))
    exact (h.opn x (back x v nu) (fun z => n1 (List.mem_append_left _ z)) n2 y hy).set
  · rw [List.take_add_one, hu] at hx
    rcases List.mem_append.mp hx with z | z
    · exact (h.got x z).set
    · have e : x = u := by simpa using z
      rw [e]
      exact ⟨house, here⟩
  · rcases h.fst with ⟨e, n, k⟩ | ⟨n, k⟩
    · refine .inl ⟨e, fun z => ?_, fun x v nx => ?_⟩
      · rcases List.mem_append.mp z with z | z
        · exact n z
        · exact tu (List.mem_singleton.mp z).symm
      · by_cases c : u = x
        · subst c
          rw [here, e]
        · rw [old x c]
          exact k x (back x v (Ne.symm c)) nx
    · refine .inr ⟨fun z => ?_, fun x hx nx => ?_⟩
      · rcases List.mem_append.mp z with z | z
        · exact n z
        · exact tu (List.mem_singleton.mp z).symm
      · have e := k x hx nx
        rw [old x (ne x ⟨t, e⟩)]
        exact e
/-- all neighbours looked at -/
theorem close (h : Mid adj t st stk house (adj.getD house []).length) : Out adj t st stk := by
  have g := h.got
  rw [List.take_length] at g
  refine ⟨h.toCore, h.stv, fun x v n u hu => ?_, .inr ?_⟩
  · by_cases c : x = house
    · rw [c] at hu
      exact g u hu
    · exact h.opn x v n c u hu
  · rcases h.fst with ⟨e, n, k⟩ | q
    · refine ⟨n, fun u hu nu => k u (g u (by rw [e]; exact hu)) nu⟩
    · exact q
/-- what is left when nothing is open -/
structure Done (adj : List (List Nat)) (t : Nat) (st : List (Option Nat)) : Prop extends Core adj t st where
  cls : ∀ h, Vis st h → ∀ u ∈ adj.getD h [], Vis st u
  nxt : ∀ u ∈ adj.getD t [], u ≠ t → st[u]? = some (some t)
theorem done (h : Out adj t st []) : Done adj t st := by
  refine ⟨h.toCore, fun x v u hu => h.opn x v List.not_mem_nil u hu, ?_⟩
  rcases h.fst with ⟨e, _⟩ | ⟨_, k⟩
  · cases e
  · exact k
/-- the step toward t from u is t just if u is t or a neighbour of t -/
theorem Done.at_target (h : Done adj t st) {u : Nat} (n : u ≠ t) : st[u]? = some (some t) ↔ u ∈ adj.getD t [] := by
  constructor
  · intro e
    rcases h.par u t e with z | z
    · exact absurd z n
    · exact z.1
  · exact fun m => h.nxt u m n
/-- what can be gone to from t is reached -/
inductive Can (adj : List (List Nat)) (t : Nat) : Nat → Prop
  | here : Can adj t t
  | on {h u : Nat} : Can adj t h → u ∈ adj.getD h [] → Can adj t u
theorem Done.all (h : Done adj t st) : ∀ {u : Nat}, Can adj t u → Vis st u
  | _, .here => ⟨t, h.tgt⟩
  | _, .on c m => h.cls _ (h.all c) _ m
end
end Dfs

set_option maxHeartbeats 4000000
/-! ### looksleft.trees: the search (any law's row: k04_runnings_deed_by_deed) -/
namespace Tr
open PySem PySem.Spec PyProof.Rows L2 LK Evl
def optV : Option Nat → V
  | none => .non
  | some p => .int (p : Int)
def natV (n : Nat) : V := .int (n : Int)
/-- a list of lists of houses -/
def Rows (K : PySem.W.Frag) (H : Hp) (a : Addr) (adj : List (List Nat)) : Prop := ∃ rs : List Addr, SqL K H a (rs.map V.ref) ∧ rs.length = adj.length ∧ ∀ (i : Nat) (r : Addr) (row : List Nat), rs[i]? = some r → adj[i]? = some row → SqL K H r (row.map natV)
theorem Rows.mono {K : PySem.W.Frag} {H H' : Hp} {a : Addr} {adj : List (List Nat)} (e : Ex H H') (h : Rows K H a adj) : Rows K H' a adj := by
  obtain ⟨rs, h1, h2, h3⟩ := h
  exact ⟨rs, ex_l e h1, h2, fun i r row x y => ex_l e (h3 i r row x y)⟩
abbrev sSteps : Stmt := top 25
theorem scSteps : FnScope ["near", "target", "steps", "reached", "house", "further"] ["near", "target"] (defScope sSteps) := ⟨rfl, rfl, rfl, by decide +kernel, rfl, by decide +kernel, by decide +kernel⟩
def spSteps (K : PySem.W.Frag) : Sp := fun vs H Q _ => ∃ (a : Addr) (adj : List (List Nat)) (t : Nat), vs = [.ref a, .int (t : Int)] ∧ Rows K H a adj ∧ t < adj.length ∧ adj.length ≤ 100 ∧ (∀ row ∈ adj, row.length ≤ 1000 ∧ ∀ u ∈ row, u < adj.length) ∧
  ∀ p st H2, H p = none → Ex H H2 → H2 p = some (.lst (st.map optV)) → Dfs.Done adj t st → Q (.ref p) H2
/-- how many are not reached yet -/
def unv (st : List (Option Nat)) : Nat := (st.filter Option.isNone).length
theorem unv_set : ∀ {st : List (Option Nat)} {u p : Nat}, st[u]? = some none → unv (st.set u (some p)) + 1 = unv st
  | [], _, _, e => by cases e
  | x :: r, 0, p, e => by
    cases e
    rfl
  | x :: r, u + 1, p, e => by
    have z := unv_set (st := r) (u := u) (p := p) e
    unfold unv at z ⊢
    cases x with
    | none =>
      show ((none :: r.set u (some p)).filter Option.isNone).length + 1 = ((none :: r).filter Option.isNone).length
      rw [List.filter_cons_of_pos (by rfl), List.filter_cons_of_pos (by rfl), List.length_cons, List.length_cons]
      omega
    | some q =>
      show ((some q :: r.set u (some p)).filter Option.isNone).length + 1 = ((some q :: r).filter Option.isNone).length
      rw [List.filter_cons_of_neg (by simp), List.filter_cons_of_neg (by simp)]
      exact z
theorem el_rep {σ : L2.St} {H : Hp} {ta tb : TE} {x : V} {n : Nat} (h : EvL ta σ H [x]) (k : Ev tb σ H (.int (n : Int))) (hn : n ≤ 1000) : EvL (tOp rRep ta tb) σ H (List.replicate n x) := fun H1 e Q q =>
  h H1 e _ fun l H2 nl e2 hl => k H2 (e.trans e2) _ fun H3 e3 => ⟨l, (n : Int), [x], rfl, rfl, e3 _ _ hl, by omega, by omega, by show 1 * n ≤ sizeLine; exact sz_of (by omega), fun p hp => by
    refine q p _ (fresh_back (e2.trans e3) hp) ((e2.trans e3).trans (Ex.new hp)) ?_
    rw [upd_same]
    show some (HO.lst (List.replicate n [x]).flatten) = _
    rw [List.flatten_replicate_singleton]⟩
section
variable {P : Program} {w : World} {K : PySem.W.Frag} {mg : Str → Option Value} {base : Heap} {f f1 f2 : Addr} {fd d1 d2 : FuncData}
theorem ok_steps (F : FnP K "_steps_to" sSteps f fd) (ml : mg "len" = none) : FnOk P w K mg base CX0 1 f fd ["near", "target"] (spSteps K) := by
  refine F.ok scSteps (fun vs H Q E h => ?_) fun cdv A outer s H0 vs Q E hr h => ⟨_, PSs.nox (
    pss_cons (ps_set (i := 2) scSteps.nd rfl (.inl rfl) (pe_op op_rep (pe_lst (pa_cons pe_non pa_nil)) (pe_callB call_len_seq (by rfl) ml PySem.boot_len (pa_cons (pv 0) pa_nil))))
    (pss_cons (ps_asg (pv 1) (pg_sub (pv 2) (pv 1) set_list))
    (pss_cons (ps_set (i := 3) scSteps.nd rfl (.inl rfl) (pe_lst (pa_cons (pv 1) pa_nil)))
    (pss_cons (ps_while PassesOwn.never (pt_truth (pv 3) (fun _ => rfl))
      (pss_cons (ps_set (i := 4) scSteps.nd rfl (.inl rfl) (pe_bm0 PySem.F.plainAttrs_list PySem.F.slot_list_pop PySem.F.type_list_pop mt_pop (pv 3)))
      (pss_one (ps_for PassesOwn.never rfl (pi_list (pe_ix ix_list (pv 0) (pv 4) (fun _ _ => rfl))) (pg_name (i := 5) scSteps.nd rfl (.inl rfl))
        (pss_one (ps_if (pt_cmpR op_isN (pe_ix ix_list (pv 2) (pv 5) (fun _ _ => rfl)) pe_non (nomark _))
          (pss_cons (ps_asg (pv 4) (pg_sub (pv 2) (pv 5) set_list)) (pss_one (ps_expr (pe_bm PySem.F.plainAttrs_list PySem.F.slot_list_append PySem.F.type_list_append mt_append (pv 3) (pa_cons (pv 5) pa_nil))))) pss_nil))))))
    (pss_one (ps_ret (pv 2))))))), ?_⟩
  · obtain ⟨a, adj, t, rfl, _⟩ := h
    rfl
  · obtain ⟨a, adj, t, rfl, hN, ht, hl, hrow, hQ⟩ := h
    have hn0 : ((adj.length : Nat) : Int) = (adj.length : Int) := rfl
    obtain ⟨rs, hA, hlen, hR⟩ := id hN
    have lenA : ((rs.map V.ref).length : Int) = (adj.length : Int) := by rw [List.length_map, hlen]
    refine q_asgL (xs := List.replicate adj.length V.non) (el_rep (x := .non) (el_lst (ea_cons ev_c ea_nil) (by show 1 ≤ 100000; decide)) (by rw [← lenA]; exact ev_len (ev_var rfl) hA) (by omega)) fun sp H1 nsp e1 hsp => ?_
    refine q_setL (j := t) hsp (ev_var rfl) (ev_var rfl) (ev_var rfl) (by rw [List.length_replicate]; exact ht) fun H2 e2 => ?_
    have st0 : (List.replicate adj.length V.non).set t (.int (t : Int)) = (((List.replicate adj.length none).set t (some t)).map optV) := by
      rw [List.map_set, List.map_replicate]
      rfl
    rw [st0]
    have hE2 : Ex H0 (upd H2 sp (.lst (((List.replicate adj.length none).set t (some t)).map optV))) := Ex.mut (e1.trans e2) nsp
    have hs2 : upd H2 sp (.lst (((List.replicate adj.length none).set t (some t)).map optV)) sp = some (.lst (((List.replicate adj.length none).set t (some t)).map optV)) := upd_same
    generalize upd H2 sp (.lst (((List.replicate adj.length none).set t (some t)).map optV)) = H3 at hE2 hs2 ⊢
    clear e1 e2 hsp
    refine q_asgL (el_lst (ea_cons (ev_var rfl) ea_nil) (by show 1 ≤ 100000; decide)) fun rp H4 nrp e4 hrp => ?_
    have nrp0 : H0 rp = none := fresh_back hE2 nrp
    have hsr : rp ≠ sp := fun z => by
      rw [z, hs2] at nrp
      cases nrp
    have hu0 : 2 * unv ((List.replicate adj.length none).set t (some t)) + 1 ≤ 300 := by
      have z := List.length_filter_le Option.isNone ((List.replicate adj.length (none : Option Nat)).set t (some t))
      rw [List.length_set, List.length_replicate] at z
      unfold unv
      omega
    refine q_while (fun (m : Nat) (σ' : L2.St) (H' : Hp) => ∃ (st : List (Option Nat)) (stk : List Nat) (u v : Option V), σ' = [some (.ref a), some (.int (t : Int)), some (.ref sp), some (.ref rp), u, v] ∧ Ex H0 H' ∧ H' sp = some (.lst (st.map optV)) ∧ H' rp = some (.lst (stk.map natV)) ∧
      Dfs.Out adj t st stk ∧ stk.Nodup ∧ (∀ x ∈ stk, x < adj.length) ∧ m = 2 * unv st + stk.length ∧ m ≤ 300) (2 * unv ((List.replicate adj.length none).set t (some t)) + 1)
      ⟨_, [t], _, _, rfl, hE2.trans e4, e4 _ _ hs2, hrp, Dfs.start ht, by simp, fun x hx => by rw [List.mem_singleton.mp hx]; exact ht, rfl, hu0⟩ fun m σ' H' hW => ?_
    obtain ⟨st, stk, u, v, rfl, hE, hs, hr', hO, nd, bd, rfl, hm3⟩ := hW
    refine ⟨!(stk.map natV).isEmpty, fun H5 e5 Q q => ⟨_, rfl, _, .inl ⟨_, sq_of (e5 _ _ hr'), rfl⟩, q H5 (Ex.refl H5)⟩, fun hb H5 e5 => ?_, fun hb H5 e5 => ?_⟩
    · rcases List.eq_nil_or_concat stk with z | ⟨stk0, house, z⟩
      · rw [z] at hb
        cases hb
      · rw [List.concat_eq_append] at z
        subst z
        have hh : house < adj.length := bd house (List.mem_append_right _ (.head _))
        have nd2 := List.nodup_append.mp nd
        have nh : house ∉ stk0 := fun q => nd2.2.2 house q house (.head _) rfl
        refine ⟨fun (σ2 : L2.St) (H2 : Hp) => ∃ m', m' < 2 * unv st + (stk0 ++ [house]).length ∧ ∃ (st : List (Option Nat)) (stk : List Nat) (u v : Option V), σ2 = [some (.ref a), some (.int (t : Int)), some (.ref sp), some (.ref rp), u, v] ∧ Ex H0 H2 ∧ H2 sp = some (.lst (st.map optV)) ∧ H2 rp = some (.lst (stk.map natV)) ∧
          Dfs.Out adj t st stk ∧ stk.Nodup ∧ (∀ x ∈ stk, x < adj.length) ∧ m' = 2 * unv st + stk.length ∧ m' ≤ 300, fun σ2 H2 z => z, ?_⟩
        have hr5 := e5 _ _ hr'
        refine ⟨_, rfl, .inl ⟨rfl, _, sq_of hr5⟩, rp, _, natV house, rfl, rfl, hr5, by simp, ?_⟩
        have hdrop : ((stk0 ++ [house]).map natV).dropLast = stk0.map natV := by rw [List.map_append]; exact List.dropLast_concat
        rw [hdrop]
        have hE6 : Ex H0 (upd H5 rp (.lst (stk0.map natV))) := Ex.mut (hE.trans e5) nrp0
        have hs6 : upd H5 rp (.lst (stk0.map natV)) sp = some (.lst (st.map optV)) := (upd_ne (Ne.symm hsr)).trans (e5 _ _ hs)
        have hr6 : upd H5 rp (.lst (stk0.map natV)) rp = some (.lst (stk0.map natV)) := upd_same
        generalize upd H5 rp (.lst (stk0.map natV)) = H6 at hE6 hs6 hr6 ⊢
        have hrs : house < rs.length := by rw [hlen]; exact hh
        have hr1 : rs[house]? = some rs[house] := List.getElem?_eq_getElem hrs
        generalize rs[house] = r at hr1
        have ha1 : adj[house]? = some adj[house] := List.getElem?_eq_getElem hh
        have hgd : adj.getD house [] = adj[house] := by rw [List.getD_eq_getElem?_getD, ha1]; rfl
        generalize adj[house] = row at ha1 hgd
        have hrow2 := hrow row (List.mem_of_getElem? ha1)
        have hR1 := hR house r row hr1 ha1
        refine s_forLn (xs := row.map natV) (ev_op (ev_var rfl) (ev_var rfl) (rv_ixL (ex_l hE6 hA) (atI_nat (v := V.ref r) (by rw [List.getElem?_map, hr1]; rfl)))) (ex_l hE6 hR1)
          (fun (i : Nat) (σ' : L2.St) (H' : Hp) => ∃ (st' : List (Option Nat)) (stk' : List Nat) (v : Option V), σ' = [some (.ref a), some (.int (t : Int)), some (.ref sp), some (.ref rp), some (natV house), v] ∧ Ex H0 H' ∧ H' sp = some (.lst (st'.map optV)) ∧ H' rp = some (.lst (stk'.map natV)) ∧
            Dfs.Mid adj t st' stk' house i ∧ stk'.Nodup ∧ (∀ x ∈ stk', x < adj.length) ∧ 2 * unv st' + stk'.length ≤ 2 * unv st + stk0.length)
          (fun H7 e7 => ?_) (fun i σ' H' hi p => ?_) (fun i x σ' H' hx p => ?_) fun σ' H' p => ?_
        · exact ⟨st, stk0, _, rfl, hE6.trans e7, e7 _ _ hs6, e7 _ _ hr6, Dfs.pop hO nh, nd2.1, fun x hx => bd x (List.mem_append_left _ hx), Nat.le_refl _⟩
        · obtain ⟨_, _, _, _, hE', _⟩ := p
          exact ex_l hE' hR1
        · obtain ⟨st', stk', v, rfl, hE', hs', hr'', hM, nd', bd', hm⟩ := p
          rw [List.getElem?_map] at hx
          obtain ⟨u, hu, rfl⟩ := Option.map_eq_some_iff.mp hx
          have hul : u < adj.length := hrow2.2 u (List.mem_of_getElem? hu)
          have hul2 : u < st'.length := by rw [hM.len]; exact hul
          have hg2 : (adj.getD house [])[i]? = some u := by rw [hgd]; exact hu
          have hst : st'[u]? = some st'[u] := List.getElem?_eq_getElem hul2
          generalize st'[u] = o at hst
          have rvn : ∀ (y : V) (H : Hp), RV (fun x y H Q => y = .non ∧ Q (.bl (decide (x = .non))) H) y .non H (.bl (decide (y = .non))) := fun y H H1 _ Q q => ⟨rfl, q H1 (Ex.refl H1)⟩
          rw [List.length_append, List.length_singleton] at hm3
          refine s_when (b := decide (optV o = .non)) (et_test (ev_op (ev_op (ev_var rfl) (ev_var rfl) (rv_ixL (v := optV o) (sq_of hs') (atI_nat (v := optV o) (by rw [List.getElem?_map, hst]; rfl)))) ev_c (rvn _ _))) (fun hb H7 e7 => ?_) fun hb H7 e7 => ?_
          · cases o with
            | some p => exact absurd (of_decide_eq_true hb) (fun z => by cases z)
            | none =>
              refine q_setL (j := u) (e7 _ _ hs') (ev_var rfl) (ev_var rfl) (ev_var rfl) (by rw [List.length_map]; exact hul2) fun H8 e8 => ?_
              have est : (st'.map optV).set u (natV house) = (st'.set u (some house)).map optV := by rw [List.map_set]; rfl
              rw [est]
              have hr8 : upd H8 sp (.lst ((st'.set u (some house)).map optV)) rp = some (.lst (stk'.map natV)) := (upd_ne hsr).trans (e8 _ _ (e7 _ _ hr''))
              have hE8 : Ex H0 (upd H8 sp (.lst ((st'.set u (some house)).map optV))) := Ex.mut ((hE'.trans e7).trans e8) nsp
              have hs8 : upd H8 sp (.lst ((st'.set u (some house)).map optV)) sp = some (.lst ((st'.set u (some house)).map optV)) := upd_same
              generalize upd H8 sp (.lst ((st'.set u (some house)).map optV)) = H9 at hr8 hE8 hs8 ⊢
              have hun := unv_set (p := house) hst
              refine s_app hr8 (ev_var rfl) (ev_var rfl) (by rw [List.length_map]; omega) fun H10 e10 => ?_
              have nu : u ∉ stk' := fun q => by
                obtain ⟨p, z⟩ := hM.stv u q
                rw [hst] at z
                cases z
              refine ⟨st'.set u (some house), stk' ++ [u], _, rfl, Ex.mut (hE8.trans e10) nrp0, (upd_ne (Ne.symm hsr)).trans (e10 _ _ hs8), ?_, Dfs.step hM hg2 hul hst, ?_, ?_, ?_⟩
              · rw [upd_same, List.map_append]
                rfl
              · exact List.nodup_append.mpr ⟨nd', by simp, fun x hx y hy z => nu (by rw [← List.mem_singleton.mp hy, ← z]; exact hx)⟩
              · intro x hx
                rcases List.mem_append.mp hx with q | q
                · exact bd' x q
                · rw [List.mem_singleton.mp q]
                  exact hul
              · rw [List.length_append, List.length_singleton]
                omega
          · cases o with
            | none => exact absurd rfl (of_decide_eq_false hb)
            | some p => exact ⟨st', stk', _, rfl, hE'.trans e7, e7 _ _ hs', e7 _ _ hr'', Dfs.skip hM hg2 ⟨p, hst⟩, nd', bd', hm⟩
        · obtain ⟨st', stk', v, rfl, hE', hs', hr'', hM, nd', bd', hm⟩ := p
          have hM2 : Dfs.Out adj t st' stk' := Dfs.close (by rw [hgd]; rw [List.length_map] at hM; exact hM)
          refine ⟨2 * unv st' + stk'.length, by rw [List.length_append, List.length_singleton]; omega, st', stk', _, _, rfl, hE', hs', hr'', hM2, nd', bd', rfl, ?_⟩
          rw [List.length_append, List.length_singleton] at hm3
          omega
    · have z : stk = [] := by
        cases stk with
        | nil => rfl
        | cons _ _ => cases hb
      subst z
      exact s_ret (ev_var rfl) fun H6 e6 => hQ sp st H6 nsp (hE.trans (e5.trans e6)) (e6 _ _ (e5 _ _ hs)) (Dfs.done hO)
end
end Tr

set_option maxHeartbeats 4000000
/-! ### looksleft.trees: all searches (any law's row: k04_runnings_deed_by_deed) -/
namespace Tr
open PySem PySem.Spec PyProof.Rows L2 LK Evl
/-- each house's neighbours, in the order in which the roads tell them -/
def addR (adj : List (List Nat)) (p : Nat × Nat) : List (List Nat) := (adj.modify p.1 (· ++ [p.2])).modify p.2 (· ++ [p.1])
def adjOf (n : Nat) (ps : List (Nat × Nat)) : List (List Nat) := ps.foldl addR (List.replicate n [])
theorem addR_len {adj : List (List Nat)} {p : Nat × Nat} : (addR adj p).length = adj.length := by
  unfold addR
  rw [List.length_modify, List.length_modify]
theorem adjOf_len {n : Nat} {ps : List (Nat × Nat)} : (adjOf n ps).length = n := by
  unfold adjOf
  have : ∀ (ps : List (Nat × Nat)) (a : List (List Nat)), (ps.foldl addR a).length = a.length := by
    intro ps
    induction ps with
    | nil => intro a; rfl
    | cons p r ih => intro a; rw [List.foldl_cons, ih, addR_len]
  rw [this, List.length_replicate]
/-- rows that are all told: each object of its own -/
def Own (H : Hp) (rs : List Addr) (adj : List (List Nat)) : Prop := rs.Nodup ∧ rs.length = adj.length ∧ ∀ (i : Nat) (r : Addr) (row : List Nat), rs[i]? = some r → adj[i]? = some row → H r = some (.lst (row.map natV))
theorem Own.app {H H' : Hp} {rs : List Addr} {adj : List (List Nat)} {i : Nat} {r : Addr} {row : List Nat} {v : Nat} (h : Own H rs adj) (e : Ex H H') (hr : rs[i]? = some r) (ha : adj[i]? = some row) :
    Own (upd H' r (.lst (row.map natV ++ [natV v]))) rs (adj.modify i (· ++ [v])) := by
  refine ⟨h.1, by rw [List.length_modify]; exact h.2.1, fun j q row' hq ha' => ?_⟩
  rw [List.getElem?_modify] at ha'
  by_cases c : i = j
  · subst c
    rw [hr] at hq
    cases hq
    rw [ha] at ha'
    have e2 : row ++ [v] = row' := by simpa using ha'
    rw [upd_same, ← e2, List.map_append]
    rfl
  · have n : q ≠ r := fun z => by
      subst z
      have l1 := (List.getElem?_eq_some_iff.mp hr)
      have l2 := (List.getElem?_eq_some_iff.mp hq)
      exact c ((List.getElem_inj h.1).mp (l1.2.trans l2.2.symm))
    rw [upd_ne n]
    have e3 : adj[j]? = some row' := by
      cases z : adj[j]? with
      | none => rw [z] at ha'; cases ha'
      | some x =>
        rw [z] at ha'
        have e4 : x = row' := by simpa [c] using ha'
        rw [e4]
    exact e _ _ (h.2.2 j q row' hq e3)
/-! all but one object -/
def hid (p : Addr) (H : Hp) : Hp := fun a => if a = p then none else H a
theorem hid_ne {p a : Addr} {H : Hp} (h : a ≠ p) : hid p H a = H a := if_neg h
theorem hid_some {p a : Addr} {H : Hp} {o : HO} (h : hid p H a = some o) : a ≠ p ∧ H a = some o := by
  unfold hid at h
  split at h
  · cases h
  · rename_i n
    exact ⟨n, h⟩
theorem hid_ex {p : Addr} {H H' : Hp} (e : Ex H H') : Ex (hid p H) (hid p H') := fun a o h => by
  obtain ⟨n, h⟩ := hid_some h
  rw [hid_ne n]
  exact e a o h
theorem hid_upd {p : Addr} {H : Hp} {o : HO} : hid p (upd H p o) = hid p H := by
  funext a
  unfold hid
  by_cases e : a = p
  · rw [if_pos e, if_pos e]
  · rw [if_neg e, if_neg e, upd_ne e]
theorem hid_le {p : Addr} {H : Hp} : Ex (hid p H) H := fun a o h => (hid_some h).2
/-- [e for k in range(n)], what is made told by PP as it grows -/
def EvG (te : TE) (σ : L2.St) (H : Hp) (n : Nat) (PP : Nat → List V → Hp → Prop) : Prop := ∀ H1, Ex H H1 → ∀ Q : VK, (∀ l us H2, H1 l = none → Ex H1 H2 → H2 l = some (.lst us) → us.length = n → PP n us H2 → Q (.ref l) H2) → te σ H1 Q
theorem eg_lc {σ : L2.St} {H : Hp} {a : TA} {te : TE} {n j : Nat} {vs : List Nat} (PP : Nat → List V → Hp → Prop) (mono : ∀ k us H H', Ex H H' → PP k us H → PP k us H') (h : EvA a σ H [.int (n : Int)]) (hn : n ≤ 40000) (hw : ∀ x, wipe ((wipe σ vs).set j (some x)) vs = wipe σ vs) (h0 : ∀ H, PP 0 [] H)
    (he : ∀ (k : Nat) (p : Addr) H1 (us : List V), k < n → Ex H H1 → (∃ xs, H1 p = some (.lst xs)) → H p = none → PP k us (hid p H1) → ∀ Q : VK, (∀ v H2, Ex H1 H2 → PP (k + 1) (us ++ [v]) (hid p H2) → Q v H2) → te ((wipe σ vs).set j (some (.int (k : Int)))) H1 Q) :
    EvG (tLc (iRng1 a) (gName j) tYes te vs) σ H n PP := fun H0 e Q q =>
  h H0 e _ fun H1 e1 => ⟨(n : Int), rfl, by omega, by omega, fun Dl hD =>
    lc_range (lo := 0) (n := (n : Int).toNat) (fun m H' => Ex H1 H' ∧ ∃ us, H' Dl = some (.lst us) ∧ us.length = m ∧ PP m us (hid Dl H')) ⟨Ex.new hD, [], upd_same, rfl, h0 _⟩ (fun m H' hm p => by
      obtain ⟨e2, us, hl, hz, hF⟩ := p
      have hm2 : m < n := by omega
      have e0 : (0 : Int) + (m : Int) = (m : Int) := Int.zero_add _
      show wipe ((wipe σ vs).set j (some (.int ((0 : Int) + (m : Int))))) vs = wipe σ vs ∧ te ((wipe σ vs).set j (some (.int ((0 : Int) + (m : Int))))) H' _
      rw [e0]
      refine ⟨hw _, he m Dl H' us hm2 ((e.trans e1).trans e2) ⟨us, hl⟩ (fresh_back (e.trans e1) hD) hF _ fun v H4 e4 hv => ⟨us, e4 _ _ hl, sz_lt (by omega), Ex.mut (e2.trans e4) hD, us ++ [v], upd_same, by rw [List.length_append, hz]; rfl, ?_⟩⟩
      rw [hid_upd]
      exact hv) fun H' p => by
      obtain ⟨e2, us, hl, hz, hF⟩ := p
      exact q Dl us H' (fresh_back e1 hD) (e1.trans e2) hl (by rw [hz]; rfl) (mono _ _ _ _ hid_le hF)⟩
theorem q_asgG {σ : L2.St} {H : Hp} {te : TE} {n i : Nat} {PP : Nat → List V → Hp → Prop} {D : Ends} {tz : TS} (h : EvG te σ H n PP) (k : ∀ l us H1, H l = none → Ex H H1 → H1 l = some (.lst us) → us.length = n → PP n us H1 → tz D (σ.set i (some (.ref l))) H1) : tSeq (tAsg te (gName i)) tz D σ H := h H (Ex.refl H) _ k
/-- rows are short, and of houses -/
def Fine (n b : Nat) (adj : List (List Nat)) : Prop := ∀ row ∈ adj, row.length ≤ b ∧ ∀ u ∈ row, u < n
theorem Fine.mod {n b k v : Nat} {adj : List (List Nat)} (h : Fine n b adj) (hv : v < n) : Fine n (b + 1) (adj.modify k (· ++ [v])) := fun row hr => by
  obtain ⟨j, hj⟩ := List.mem_iff_getElem?.mp hr
  rw [List.getElem?_modify] at hj
  cases z : adj[j]? with
  | none => rw [z] at hj; cases hj
  | some x =>
    have hx := h x (List.mem_of_getElem? z)
    rw [z] at hj
    by_cases c : k = j
    · have e : x ++ [v] = row := by simpa [c] using hj
      rw [← e]
      refine ⟨by rw [List.length_append, List.length_singleton]; omega, fun u hu => ?_⟩
      rcases List.mem_append.mp hu with q | q
      · exact hx.2 u q
      · rw [List.mem_singleton.mp q]
        exact hv
    · have e : x = row := by simpa [c] using hj
      rw [← e]
      exact ⟨by omega, hx.2⟩
/-! the def -/
abbrev sAll : Stmt := top 24
abbrev nAll : List Str := ["houses", "roads", "near", "u", "v", "_", "target"]
theorem scAll : FnScope nAll ["houses", "roads"] (defScope sAll) := ⟨rfl, rfl, rfl, by decide +kernel, rfl, by decide +kernel, by decide +kernel⟩
/-- roads: a list or tuple of pairs of houses -/
def Roads (K : PySem.W.Frag) (H : Hp) (a : Addr) (ps : List (Nat × Nat)) : Prop := ∃ ts : List Addr, (SqL K H a (ts.map V.ref) ∨ SqT K H a (ts.map V.ref)) ∧ ts.length = ps.length ∧ ∀ (i : Nat) (t : Addr) (p : Nat × Nat), ts[i]? = some t → ps[i]? = some p → SqT K H t [natV p.1, natV p.2]
/-- a list of all houses' steps -/
def Found (H : Hp) (adj : List (List Nat)) (n : Nat) (us : List V) : Prop := us.length = n ∧ ∀ (i : Nat) (v : V), us[i]? = some v → ∃ q st, v = .ref q ∧ H q = some (.lst (st.map optV)) ∧ Dfs.Done adj i st
def spAll (K : PySem.W.Frag) : Sp := fun vs H Q _ => ∃ (n : Nat) (a : Addr) (ps : List (Nat × Nat)), vs = [.int (n : Int), .ref a] ∧ Roads K H a ps ∧ n ≤ 100 ∧ ps.length ≤ 400 ∧ (∀ p ∈ ps, p.1 < n ∧ p.2 < n) ∧
  ∀ l us H2, H l = none → Ex H H2 → H2 l = some (.lst us) → Found H2 (adjOf n ps) n us → Q (.ref l) H2
section
variable {P : Program} {w : World} {K : PySem.W.Frag} {mg : Str → Option Value} {base : Heap} {f f1 f2 : Addr} {fd d1 d2 : FuncData}
theorem ok_all (F : FnP K "_all_steps" sAll f fd) (G : FnOk P w K mg base CX0 1 f1 d1 ["near", "target"] (spSteps K)) (k1 : Kd K mg "_steps_to" ["near", "target"] f1 d1) (mr : mg "range" = none) : FnOk P w K mg base CX0 2 f fd ["houses", "roads"] (spAll K) := by
  refine F.ok scAll (fun vs H Q E h => ?_) fun cdv A outer s H0 vs Q E hr h => ⟨_, PSs.nox (
    pss_cons (ps_set (i := 2) scAll.nd rfl (.inr rfl) (pe_lc (own := [("_", 5)]) (g := gName 5) (tt := tYes) rfl scAll.nd (pi_range1 (by rfl) mr (pa_cons (pv 0) pa_nil)) (blkOk_by (N := nAll) (sc := defScope sAll) (by decide +kernel)) (fun _ _ _ _ _ => pg_name (i := 5) scAll.nd rfl (.inl rfl)) (fun _ _ _ _ _ => pts_nil) (fun _ _ _ _ _ => pe_lst pa_nil)))
    (pss_cons (ps_for PassesOwn.never rfl (pi_or (pi_list (pv 1)) (pi_tup (pv 1))) (pg_tup rfl (pgs_cons (pg_name (i := 3) scAll.nd rfl (.inl rfl)) (pgs_cons (pg_name (i := 4) scAll.nd rfl (.inl rfl)) pgs_nil)))
      (pss_cons (ps_expr (pe_bm PySem.F.plainAttrs_list PySem.F.slot_list_append PySem.F.type_list_append mt_append (pe_ix ix_list (pv 2) (pv 3) (fun _ _ => rfl)) (pa_cons (pv 4) pa_nil)))
      (pss_one (ps_expr (pe_bm PySem.F.plainAttrs_list PySem.F.slot_list_append PySem.F.type_list_append mt_append (pe_ix ix_list (pv 2) (pv 4) (fun _ _ => rfl)) (pa_cons (pv 3) pa_nil))))))
    (pss_one (ps_ret (pe_lc (own := [("target", 6)]) (g := gName 6) (tt := tYes) rfl scAll.nd (pi_range1 (by rfl) mr (pa_cons (pv 0) pa_nil)) (blkOk_by (N := nAll) (sc := defScope sAll) (by decide +kernel)) (fun _ _ _ _ _ => pg_name (i := 6) scAll.nd rfl (.inl rfl)) (fun _ _ _ _ _ => pts_nil)
      (fun _ _ _ _ _ => pe_call G hr (by rfl) k1.m k1.k k1.b .nil pass0 (pa_cons (pv 2) (pa_cons (pv 6) pa_nil)))))))), ?_⟩
  · obtain ⟨n, a, ps, rfl, _⟩ := h
    rfl
  · obtain ⟨n, a, ps, rfl, hR, hn, hps, hlt, hQ⟩ := h
    have hs0 : EvG (tLc (iRng1 (tCons (tVar 0) tNil)) (gName 5) tYes (tLst tNil) [5]) (start nAll [.int (n : Int), .ref a]) H0 n (fun k us H => ∃ rs : List Addr, us = rs.map V.ref ∧ Own H rs (List.replicate k []) ∧ ∀ r ∈ rs, H0 r = none) :=
      eg_lc _ (fun k us H H' e h => by
        obtain ⟨rs, h1, h2, h3⟩ := h
        exact ⟨rs, h1, ⟨h2.1, h2.2.1, fun i r row x y => e _ _ (h2.2.2 i r row x y)⟩, h3⟩) (ea_cons (ev_var rfl) ea_nil) (by omega) (fun _ => rfl) (fun H => ⟨[], rfl, ⟨List.nodup_nil, rfl, fun i r row x => by cases x⟩, fun r hr => by cases hr⟩) (fun k p H1 us hk e1 hp np h Q q => by
        obtain ⟨rs, rfl, h2, h3⟩ := h
        obtain ⟨xs, hp⟩ := hp
        refine ⟨Nat.zero_le _, fun r nr => q (.ref r) _ (Ex.new nr) ⟨rs ++ [r], by rw [List.map_append]; rfl, ⟨?_, by rw [List.length_append, List.length_replicate, h2.2.1, List.length_replicate]; rfl, fun i q row x y => ?_⟩, fun x hx => ?_⟩⟩
        · refine List.nodup_append.mpr ⟨h2.1, by simp, fun x hx y hy z => ?_⟩
          rw [List.mem_singleton.mp hy] at z
          subst z
          obtain ⟨i, hi⟩ := List.mem_iff_getElem?.mp hx
          have il : i < k := by
            have := (List.getElem?_eq_some_iff.mp hi).1
            rw [h2.2.1, List.length_replicate] at this
            exact this
          have z2 := (hid_some (h2.2.2 i x [] hi (by rw [List.getElem?_replicate, if_pos il]))).2
          rw [nr] at z2
          cases z2
        · have nrp : r ≠ p := fun z => by
            rw [z, hp] at nr
            cases nr
          have er : row = [] := by
            rw [List.getElem?_replicate] at y
            split at y
            · exact (Option.some.inj y).symm
            · cases y
          subst er
          by_cases c : i < rs.length
          · rw [List.getElem?_append_left c] at x
            have il : i < k := by
              rw [h2.2.1, List.length_replicate] at c
              exact c
            exact hid_ex (Ex.new nr) _ _ (h2.2.2 i q [] x (by rw [List.getElem?_replicate, if_pos il]))
          · have ci : i = rs.length := by
              have := (List.getElem?_eq_some_iff.mp x).1
              rw [List.length_append, List.length_singleton] at this
              omega
            rw [ci, List.getElem?_append_right (Nat.le_refl _), Nat.sub_self] at x
            have e2 : r = q := Option.some.inj x
            rw [← e2, hid_ne nrp]
            exact upd_same
        · rcases List.mem_append.mp hx with z | z
          · exact h3 x z
          · rw [List.mem_singleton.mp z]
            exact fresh_back e1 nr)
    refine q_asgG hs0 fun nb us H1 nnb e1 hnb hlen hP => ?_
    obtain ⟨rs, rfl, hO, hfr⟩ := hP
    have hrl : rs.length = n := by rw [hO.2.1, List.length_replicate]
    have nin : nb ∉ rs := fun z => by
      obtain ⟨i, hi⟩ := List.mem_iff_getElem?.mp z
      have il : i < n := by
        have := (List.getElem?_eq_some_iff.mp hi).1
        omega
      have z2 := hO.2.2 i nb [] hi (by rw [List.getElem?_replicate, if_pos il])
      rw [hnb] at z2
      have z3 : rs.map V.ref = [] := HO.lst.inj (Option.some.inj z2)
      rw [List.map_eq_nil_iff.mp z3] at z
      cases z
    obtain ⟨ts, hT, htl, hTT⟩ := id hR
    have hstep : ∀ i p, ps[i]? = some p → (ps.take (i + 1)).foldl addR (List.replicate n []) = addR ((ps.take i).foldl addR (List.replicate n [])) p := fun i p e => by
      rw [List.take_add_one, e, List.foldl_append]
      rfl
    let Pv : Nat → L2.St → Hp → Prop := fun i σ' H' => ∃ x y : Option V, σ' = [some (.int (n : Int)), some (.ref a), some (.ref nb), x, y, none, none] ∧ Ex H0 H' ∧ H' nb = some (.lst (rs.map V.ref)) ∧ Own H' rs ((ps.take i).foldl addR (List.replicate n [])) ∧ Fine n (2 * i) ((ps.take i).foldl addR (List.replicate n []))
    have turn : ∀ (i : Nat) (x : V) (σ' : L2.St) (H' : Hp) (D : Ends), (ts.map V.ref)[i]? = some x → Pv i σ' H' → (∀ σ2 H2, Pv (i + 1) σ2 H2 → D.nx σ2 H2) → gTup K 2 (gCons (gName 3) (gCons (gName 4) gNil)) x σ' H' fun σ2 H2 =>
        tSeq (tDrop (tBM K "list" rAppend (tOp (rIxL K) (tVar 2) (tVar 3)) (tCons (tVar 4) tNil))) (tDrop (tBM K "list" rAppend (tOp (rIxL K) (tVar 2) (tVar 4)) (tCons (tVar 3) tNil))) D σ2 H2 := fun i x σ' H' D hx hp hk => by
      obtain ⟨x1, y1, rfl, hE, hb, hOw, hF⟩ := hp
      rw [List.getElem?_map] at hx
      obtain ⟨t, ht, rfl⟩ := Option.map_eq_some_iff.mp hx
      have hil : i < ps.length := by
        have := (List.getElem?_eq_some_iff.mp ht).1
        omega
      have hpi : ps[i]? = some ps[i] := List.getElem?_eq_getElem hil
      generalize ps[i] = p at hpi
      obtain ⟨hu, hv⟩ := hlt p (List.mem_of_getElem? hpi)
      have hSt := ex_t hE (hTT i t p ht hpi)
      have hk2 : ∀ σ2 H2 x y, σ2 = [some (.int (n : Int)), some (.ref a), some (.ref nb), x, y, none, none] → Ex H0 H2 → H2 nb = some (.lst (rs.map V.ref)) → Own H2 rs (addR ((ps.take i).foldl addR (List.replicate n [])) p) → Fine n (2 * (i + 1)) (addR ((ps.take i).foldl addR (List.replicate n [])) p) → D.nx σ2 H2 := fun σ2 H2 x y z1 z2 z3 z4 z5 =>
        hk σ2 H2 ⟨x, y, z1, z2, z3, by rw [hstep i p hpi]; exact z4, by rw [hstep i p hpi]; exact z5⟩
      clear hk
      generalize (ps.take i).foldl addR (List.replicate n []) = adj at hOw hF hk2
      have hal : adj.length = n := by rw [← hOw.2.1]; exact hrl
      have get : ∀ (A : List (List Nat)) (k : Nat), A.length = n → k < n → A[k]? = some (A.getD k []) := fun A k hA hk => by
        have z : A[k]? = some A[k] := List.getElem?_eq_getElem (by omega)
        rw [List.getD_eq_getElem?_getD, z]
        rfl
      have getr : ∀ k, k < n → ∃ r, rs[k]? = some r ∧ r ∈ rs := fun k hk => ⟨rs[k], List.getElem?_eq_getElem (by omega), List.getElem_mem _⟩
      obtain ⟨r1, hr1, hm1⟩ := getr p.1 hu
      obtain ⟨r2, hr2, hm2⟩ := getr p.2 hv
      refine ⟨t, _, rfl, hSt, rfl, _, _, rfl, _, _, rfl, rfl, ?_⟩
      have row1 := get adj p.1 hal hu
      have ev1 : ∀ (k : Nat) (r : Addr) (s : Nat) (σ : L2.St) (H : Hp), H nb = some (.lst (rs.map V.ref)) → rs[k]? = some r → σ[2]? = some (some (.ref nb)) → σ[s]? = some (some (natV k)) → Ev (tOp (rIxL K) (tVar 2) (tVar s)) σ H (.ref r) := fun k r s σ H h1 h2 h3 h4 =>
        ev_op (ev_var h3) (ev_var h4) (rv_ixL (sq_of h1) (atI_nat (v := V.ref r) (by rw [List.getElem?_map, h2]; rfl)))
      have nb1 : nb ≠ r1 := fun z => nin (by rw [z]; exact hm1)
      have nb2 : nb ≠ r2 := fun z => nin (by rw [z]; exact hm2)
      refine q_app (hOw.2.2 _ _ _ hr1 row1) (ev1 p.1 r1 3 _ _ hb hr1 rfl rfl) (ev_var rfl) (by
        rw [List.length_map]
        have := (hF _ (List.mem_of_getElem? row1)).1
        omega) fun H2 e2 => ?_
      have hO2 := hOw.app (v := p.2) e2 hr1 row1
      have hE2 : Ex H0 (upd H2 r1 (.lst ((adj.getD p.1 []).map natV ++ [natV p.2]))) := Ex.mut (hE.trans e2) (hfr r1 hm1)
      have hb2 : upd H2 r1 (.lst ((adj.getD p.1 []).map natV ++ [natV p.2])) nb = some (.lst (rs.map V.ref)) := (upd_ne nb1).trans (e2 _ _ hb)
      have hF2 := hF.mod (k := p.1) hv
      generalize upd H2 r1 (.lst ((adj.getD p.1 []).map natV ++ [natV p.2])) = H3 at hO2 hE2 hb2 ⊢
      have row2 := get (adj.modify p.1 (· ++ [p.2])) p.2 (by rw [List.length_modify]; exact hal) hv
      refine s_app (hO2.2.2 _ _ _ hr2 row2) (ev1 p.2 r2 4 _ _ hb2 hr2 rfl rfl) (ev_var rfl) (by
        rw [List.length_map]
        have := (hF2 _ (List.mem_of_getElem? row2)).1
        omega) fun H4 e4 => ?_
      refine hk2 _ _ _ _ rfl (Ex.mut (hE2.trans e4) (hfr r2 hm2)) ((upd_ne nb2).trans (e4 _ _ hb2)) (hO2.app (v := p.1) e4 hr2 row2) ?_
      have z := hF2.mod (k := p.2) hu
      have e : 2 * i + 1 + 1 = 2 * (i + 1) := by omega
      rw [e] at z
      exact z
    have start : ∀ H2, Ex H1 H2 → Pv 0 [some (.int (n : Int)), some (.ref a), some (.ref nb), none, none, none, none] H2 := fun H2 e2 => ⟨_, _, rfl, e1.trans e2, e2 _ _ hnb, ⟨hO.1, hO.2.1, fun i r row x y => e2 _ _ (hO.2.2 i r row x y)⟩, fun row hr => by
      rw [List.eq_of_mem_replicate hr]
      exact ⟨Nat.zero_le _, fun u hu => by cases hu⟩⟩
    have stop : ∀ σ' H', Pv (ts.map V.ref).length σ' H' → tRet (tLc (iRng1 (tCons (tVar 0) tNil)) (gName 6) tYes (tCall (spSteps K) [] E0 (tCons (tVar 2) (tCons (tVar 6) tNil))) [6]) { nx := fun _ H' => Q .non H', rt := Q } σ' H' := fun σ' H' hp => by
      obtain ⟨x, y, rfl, hE, hb, hOw, hF⟩ := hp
      rw [List.length_map, htl, List.take_length] at hOw hF
      have hal : (adjOf n ps).length = n := adjOf_len
      have hrows : Rows K H' nb (adjOf n ps) := ⟨rs, sq_of hb, hOw.2.1, fun i r row x y => sq_of (hOw.2.2 i r row x y)⟩
      have fin : EvG (tLc (iRng1 (tCons (tVar 0) tNil)) (gName 6) tYes (tCall (spSteps K) [] E0 (tCons (tVar 2) (tCons (tVar 6) tNil))) [6]) [some (.int (n : Int)), some (.ref a), some (.ref nb), x, y, none, none] H' n (fun k us H => Found H (adjOf n ps) k us) :=
        eg_lc _ (fun k us H H' e h => ⟨h.1, fun i v hv => by
          obtain ⟨q, st, h1, h2, h3⟩ := h.2 i v hv
          exact ⟨q, st, h1, e _ _ h2, h3⟩⟩) (ea_cons (ev_var rfl) ea_nil) (by omega) (fun _ => rfl) (fun H => ⟨rfl, fun i v hv => by cases hv⟩) (fun k p H1 us hk e1 hp np h Q q => by
          obtain ⟨xs, hp⟩ := hp
          refine ⟨_, rfl, _, rfl, nb, adjOf n ps, k, rfl, hrows.mono e1, by omega, by omega, fun row hr => ⟨by have := (hF row hr).1; omega, fun u hu => by rw [hal]; exact (hF row hr).2 u hu⟩, fun r st H2 nr e2 hr hD => q (.ref r) H2 e2 ⟨by rw [List.length_append, h.1]; rfl, fun i v hv => ?_⟩⟩
          by_cases c : i < us.length
          · rw [List.getElem?_append_left c] at hv
            obtain ⟨r2, st2, z1, z2, z3⟩ := h.2 i v hv
            exact ⟨r2, st2, z1, hid_ex e2 _ _ z2, z3⟩
          · have ci : i = us.length := by
              have := (List.getElem?_eq_some_iff.mp hv).1
              rw [List.length_append, List.length_singleton] at this
              omega
            rw [ci, List.getElem?_append_right (Nat.le_refl _), Nat.sub_self] at hv
            have e3 : V.ref r = v := Option.some.inj hv
            refine ⟨r, st, e3.symm, ?_, by rw [ci, h.1]; exact hD⟩
            rw [hid_ne (fun z => by rw [z, hp] at nr; cases nr)]
            exact hr)
      exact fin H' (Ex.refl H') _ fun l us H2 nl e2 hl hz hP => hQ l us H2 (fresh_back hE nl) (hE.trans e2) hl hP
    rcases hT with hT | hT
    · exact Or.inl (q_forL (xs := ts.map V.ref) (ev_var rfl) (ex_l e1 hT) Pv start (fun i σ' H' _ hp => by
        obtain ⟨_, _, _, hE, _⟩ := hp
        exact ex_l hE hT) (fun i x σ' H' hx hp => turn i x σ' H' _ hx hp fun _ _ z => z) stop)
    · exact Or.inr (q_forT (xs := ts.map V.ref) (ev_var rfl) (ex_t e1 hT) Pv start (fun i σ' H' _ hp => by
        obtain ⟨_, _, _, hE, _⟩ := hp
        exact ex_t hE hT) (fun i x σ' H' hx hp => turn i x σ' H' _ hx hp fun _ _ z => z) stop)
end
end Tr

set_option maxHeartbeats 4000000
/-! ### looksleft.trees: right roads are taken (any law's row: k04_runnings_deed_by_deed) -/
namespace Tr
open PySem PySem.Spec PyProof.Rows L2 LK Evl
abbrev sLow : Stmt := top 23
abbrev sRoads : Stmt := top 22
theorem scLow : FnScope ["houses", "value"] ["houses", "value"] (defScope sLow) := ⟨rfl, rfl, rfl, by decide +kernel, rfl, by decide +kernel, by decide +kernel⟩
abbrev nRoads : List Str := ["houses", "value", "road", "at"]
theorem scRoads : FnScope nRoads ["houses", "value"] (defScope sRoads) := ⟨rfl, rfl, rfl, by decide +kernel, rfl, by decide +kernel, by decide +kernel⟩
def prD (p : Nat × Nat) : PyData := .tuple [.int (p.1 : Int), .int (p.2 : Int)]
/-- right roads: as many as houses but one, each from a lesser house to a greater one, ascending -/
structure Right (n : Nat) (ps : List (Nat × Nat)) : Prop where
  many : ps.length + 1 = n
  each : ∀ p ∈ ps, p.1 < p.2 ∧ p.2 < n
  asc : ∀ (i : Nat) (p q : Nat × Nat), ps[i]? = some p → ps[i + 1]? = some q → p.1 < q.1 ∨ (p.1 = q.1 ∧ p.2 < q.2)
def spLow : Sp := fun vs H Q _ => ∃ (n : Nat) (v : V) (p : Nat × Nat), vs = [.int (n : Int), v] ∧ Dq H v (prD p) ∧ p.1 < p.2 ∧ p.2 < n ∧ RetV (.bl true) H Q
def spRight : Sp := fun vs H Q _ => ∃ (n : Nat) (v : V) (d : PyData) (ps : List (Nat × Nat)), vs = [.int (n : Int), v] ∧ Dq H v d ∧ listD d = some (ps.map prD) ∧ Right n ps ∧ n ≤ 100 ∧ RetV (.bl true) H Q
theorem dq_pr {H : Hp} {v : V} {p : Nat × Nat} (h : Dq H v (prD p)) : ∃ t, v = .ref t ∧ H t = some (.tup [natV p.1, natV p.2]) := by
  cases h with
  | tup h1 h2 =>
    cases h2 with
    | cons a b =>
      cases b with
      | cons c d =>
        cases d
        cases a
        cases c
        exact ⟨_, rfl, h1⟩
section
variable {P : Program} {w : World} {K : PySem.W.Frag} {mg : Str → Option Value} {base : Heap} {f f1 f2 f3 : Addr} {fd d1 d2 d3 : FuncData}
theorem ok_low (F : FnP K "_is_low_high" sLow f fd) (G : FnOk P w K mg base CX0 3 f1 d1 ["value", "low", "high"] spAre) (k1 : Kd K mg "are_between" ["value", "low", "high"] f1 d1) (mi : mg "isinstance" = none) (mt : mg "tuple" = none) (ml : mg "len" = none) : FnOk P w K mg base CX0 4 f fd ["houses", "value"] spLow := by
  refine F.ok scLow (fun vs H Q E h => ?_) fun cdv A outer s H0 vs Q E hr h => ⟨_, PSs.nox (
    pss_cons (ps_if (pw_or (pt_not (pt_val (pe_callB call_isi (by rfl) mi (by decide +kernel) (pa_cons (pv 1) (pa_cons (pe_bltn (v := .ty "tuple") (by rfl) mt (by decide +kernel : bootBuiltins "tuple" = some (.type "tuple")) rfl) pa_nil)))))
      (pw_or (pt_cmpR op_ne (pe_callB call_len_seq (by rfl) ml PySem.boot_len (pa_cons (pv 1) pa_nil)) pe_int (nomark _)) (pw_or1 (pt_not (pt_val (pe_call G hr (by rfl) k1.m k1.k k1.b .nil pass0 (pa_cons (pv 1) (pa_cons pe_int (pa_cons (pe_op op_sub (pv 0) pe_int) pa_nil))))))))).pt (pss_one (ps_ret pe_bl)) pss_nil)
    (pss_one (ps_ret (pe_cmpR op_lt (pe_ix ix_tup (pv 1) pe_int (fun _ _ => rfl)) (pe_ix ix_tup (pv 1) pe_int (fun _ _ => rfl)) (nomark _))))), ?_⟩
  · obtain ⟨n, v, p, rfl, _⟩ := h
    rfl
  · obtain ⟨n, v, p, rfl, hd, h1, h2, hQ⟩ := h
    obtain ⟨t, rfl, ht⟩ := dq_pr hd
    have hs : SqT K H0 t [natV p.1, natV p.2] := st_of ht
    have lnT : Ev (tCB (rLenS K) (tCons (tVar 1) tNil)) (start ["houses", "value"] [.int (n : Int), .ref t]) H0 (.int 2) := fun H1 e1 Q q => ⟨_, rfl, t, _, rfl, .inr (ex_t e1 hs), q H1 (Ex.refl H1)⟩
    have ar : areD 0 ((n : Int) - 1) (prD p) = true := by
      show ([PyData.int (p.1 : Int), PyData.int (p.2 : Int)].all (btwD 0 ((n : Int) - 1))) = true
      simp [btwD, wholeD]
      omega
    refine q_when (b := false) (et_is (et_or (et_not (et_B (ev_isB (b := true) (ev_var rfl) hd (by show kitB "tuple" "tuple" = some true; decide +kernel)))) fun _ => et_or (et_test (ev_op lnT ev_c (rv_ne rfl))) fun _ =>
      et_not (et_B (ev_callP (v := .bl true) (ea_cons (ev_var rfl) (ea_cons ev_c (ea_cons (ev_op (ev_var rfl) ev_c rv_I0) ea_nil))) fun H1 e1 Q q => ⟨_, prD p, 0, (n : Int) - 1, rfl, Dq.mono e1 hd, fun ds e => by cases e; show 2 ≤ 40000; decide, by rw [ar]; exact q⟩))) (by simp)) (fun hb => nomatch hb) fun _ H1 e1 => ?_
    have hs1 := ex_t e1 hs
    refine s_ret (v := .bl true) (ev_is (ev_op (ev_op (ev_var rfl) ev_c (rv_ixT (v := natV p.1) hs1 rfl)) (ev_op (ev_var rfl) ev_c (rv_ixT (v := natV p.2) hs1 rfl)) rv_I0) ?_) fun H2 e2 => hQ H2 (e1.trans e2)
    rw [decide_eq_true (by omega)]
theorem rv_ixS2 {H : Hp} {p : Addr} {xs : List V} {i : Int} {v : V} (h : SqL K H p xs ∨ SqT K H p xs) (ha : atI xs i = some v) : RV (rIx K) (.ref p) (.int i) H v := fun H1 e _ q => by
  rcases h with h | h
  · exact .inl ⟨p, xs, i, v, rfl, rfl, ex_l e h, ha, q H1 (Ex.refl H1)⟩
  · exact .inr (.inl ⟨p, xs, i, v, rfl, rfl, ex_t e h, ha, q H1 (Ex.refl H1)⟩)
theorem ev_len2 {σ : L2.St} {H : Hp} {te : TE} {p : Addr} {xs : List V} (h : Ev te σ H (.ref p)) (hs : SqL K H p xs ∨ SqT K H p xs) : Ev (tCB (rLenS K) (tCons te tNil)) σ H (.int (xs.length : Int)) := fun H1 e Q q =>
  h H1 e _ fun H2 e2 => ⟨p, xs, rfl, hs.imp (ex_l (e.trans e2)) (ex_t (e.trans e2)), q H2 e2⟩
theorem given_all {n : Nat} {v : Nat → V} : given n (fun _ => true) v = (List.range n).map v := by
  unfold given
  rw [List.filter_eq_self.mpr fun _ _ => rfl]
/-- over range(j), j not above 0 -/
theorem el_lc0 {σ : L2.St} {H : Hp} {ta : TA} {te : TE} {t : TT} {j : Int} {k : Nat} {vs : List Nat} (h : EvA ta σ H [.int j]) (h0 : j ≤ 0) (h1 : -1000 ≤ j) : EvL (tLc (iRng1 ta) (gName k) t te vs) σ H [] := fun H3 e Q q =>
  h H3 e _ fun H4 e5 => ⟨j, rfl, by omega, by omega, fun Dl hD => lc_range (lo := 0) (n := j.toNat) (fun _ H' => Ex H4 H' ∧ H' Dl = some (.lst [])) ⟨Ex.new hD, upd_same⟩ (fun i H' hi => absurd hi (by omega)) fun H' p => q Dl H' (fresh_back e5 hD) (e5.trans p.1) p.2⟩
theorem ok_roads (F : FnP K "_are_roads" sRoads f fd) (G1 : FnOk P w K mg base CX0 1 f1 d1 ["value"] spIsL) (k1 : Kd K mg "is_list" ["value"] f1 d1) (G2 : FnOk P w K mg base CX0 4 f2 d2 ["houses", "value"] spLow) (k2 : Kd K mg "_is_low_high" ["houses", "value"] f2 d2) (ml : mg "len" = none) (ma : mg "all" = none) (mr : mg "range" = none) :
    FnOk P w K mg base CX0 5 f fd ["houses", "value"] spRight := by
  refine F.ok scRoads (fun vs H Q E h => ?_) fun cdv A outer s H0 vs Q E hr h => ⟨_, PSs.nox (
    pss_cons (ps_if (pw_or (pt_not (pt_val (pe_call G1 (hr.mono (by decide)) (by rfl) k1.m k1.k k1.b .nil pass0 (pa_cons (pv 1) pa_nil)))) (pw_or1 (pt_cmpR op_ne (pe_callB call_len_seq (by rfl) ml PySem.boot_len (pa_cons (pv 1) pa_nil)) (pe_op op_sub (pv 0) pe_int) (nomark _)))).pt (pss_one (ps_ret pe_bl)) pss_nil)
    (pss_cons (ps_if (pt_not (pt_val (pe_callB (cr_all rfl) (by rfl) ma (by decide +kernel) (pa_cons (pe_lc (own := [("road", 2)]) (g := gName 2) (tt := tYes) rfl scRoads.nd (pi_or (pi_list (pv 1)) (pi_tup (pv 1))) (blkOk_by (N := nRoads) (sc := defScope sRoads) (by decide +kernel)) (fun _ _ _ _ _ => pg_name (i := 2) scRoads.nd rfl (.inl rfl)) (fun _ _ _ _ _ => pts_nil)
      (fun _ _ _ _ _ => pe_call G2 hr (by rfl) k2.m k2.k k2.b .nil pass0 (pa_cons (pv 0) (pa_cons (pv 2) pa_nil)))) pa_nil)))) (pss_one (ps_ret pe_bl)) pss_nil)
    (pss_one (ps_ret (pe_callB (cr_all rfl) (by rfl) ma (by decide +kernel) (pa_cons (pe_lc (own := [("at", 3)]) (g := gName 3) (tt := tYes) rfl scRoads.nd (pi_range1 (by rfl) mr (pa_cons (pe_op op_sub (pe_callB call_len_seq (by rfl) ml PySem.boot_len (pa_cons (pv 1) pa_nil)) pe_int) pa_nil)) (blkOk_by (N := nRoads) (sc := defScope sRoads) (by decide +kernel)) (fun _ _ _ _ _ => pg_name (i := 3) scRoads.nd rfl (.inl rfl)) (fun _ _ _ _ _ => pts_nil)
      (fun _ _ _ _ _ => pe_cmpR (r := rLtT K) (op_ltT hr.units0) (pe_ix (r := rIx K) ix_seq (pv 1) (pv 3) (fun _ _ => rfl)) (pe_ix (r := rIx K) ix_seq (pv 1) (pe_op op_add (pv 3) pe_int) (fun _ _ => rfl)) (nomark _))) pa_nil)))))), ?_⟩
  · obtain ⟨n, v, d, ps, rfl, _⟩ := h
    rfl
  · obtain ⟨n, v, d, ps, rfl, hd, hl, hR, hn, hQ⟩ := h
    obtain ⟨a, xs, rfl, hs, hall⟩ := dq_seq (K := K) hd hl
    have hlen : xs.length = ps.length := by rw [dq_len hall, List.length_map]
    have hm := hR.many
    have item : ∀ (i : Nat) (x : V), xs[i]? = some x → ∃ p, ps[i]? = some p ∧ Dq H0 x (prD p) := fun i x hx => by
      obtain ⟨d, h1, h2⟩ := dq_get hall i x hx
      rw [List.getElem?_map] at h1
      obtain ⟨p, hp, rfl⟩ := Option.map_eq_some_iff.mp h1
      exact ⟨p, hp, h2⟩
    have e1 : (.int (xs.length : Int) : V) = .int ((n : Int) - 1) := by
      congr 1
      omega
    refine q_when (b := false) (et_is (et_or (et_not (et_B (ev_callP (v := .bl true) (ea_cons (ev_var rfl) ea_nil) fun H1 e1 Q q => ⟨_, d, rfl, Dq.mono e1 hd, by rw [hl]; exact q⟩))) fun _ => et_test (ev_op (ev_len2 (ev_var rfl) hs) (ev_op (ev_var rfl) ev_c rv_I0) (rv_ne rfl))) (by rw [e1]; simp)) (fun hb => nomatch hb) fun _ H1 e2 => ?_
    have hs1 : SqL K H1 a xs ∨ SqT K H1 a xs := hs.imp (ex_l e2) (ex_t e2)
    have key := el_lcS (K := K) (σ := start nRoads [.int (n : Int), .ref a]) (H := H1) (a := a) (xs := xs) (tl := tVar 1) (te := tCall spLow [] E0 (tCons (tVar 0) (tCons (tVar 2) tNil))) (j := 2) (vs := [2]) (fun _ => .bl true) (ev_var rfl) hs1 (by omega) (fun _ => rfl)
      fun i x H2 e3 hx => by
        obtain ⟨p, hp, hdp⟩ := item i x hx
        have hpp := hR.each p (List.mem_of_getElem? hp)
        exact ev_callP (ea_cons (ev_var rfl) (ea_cons (ev_var rfl) ea_nil)) fun H3 e4 Q q => ⟨n, x, p, rfl, Dq.mono ((e2.trans e3).trans e4) hdp, hpp.1, hpp.2, q⟩
    have rep : ∀ k : Nat, ((List.range k).map fun _ => V.bl true) = (List.replicate k true).map V.bl := fun k => by
      rw [List.map_const', List.length_range, List.map_replicate]
    rw [rep] at key
    have allT : ∀ k : Nat, (List.replicate k true).all id = true := fun k => by simp
    refine q_when (b := false) (et_is (et_not (et_B (ev_all key))) (by rw [allT]; rfl)) (fun hb => nomatch hb) fun _ H2 e3 => ?_
    have hs2 : SqL K H2 a xs ∨ SqT K H2 a xs := hs1.imp (ex_l e3) (ex_t e3)
    by_cases c : xs.length = 0
    · -- no roads: range(-1)
      have k2 := el_lc0 (σ := start nRoads [.int (n : Int), .ref a]) (H := H2) (ta := tCons (tOp (rI0 fun i j => .int (i - j)) (tCB (rLenS K) (tCons (tVar 1) tNil)) (tC (.int 1))) tNil) (j := (xs.length : Int) - 1) (k := 3) (vs := [3]) (t := tYes) (te := tOp (rLtT K) (tOp (rIx K) (tVar 1) (tVar 3)) (tOp (rIx K) (tVar 1) (tOp (rI0 fun i j => .int (i + j)) (tVar 3) (tC (.int 1)))))
        (ea_cons (ev_op (ev_len2 (ev_var rfl) hs2) ev_c rv_I0) ea_nil) (by omega) (by omega)
      have z : ([] : List V) = ([] : List Bool).map V.bl := rfl
      rw [z] at k2
      exact s_ret (ev_all k2) fun H3 e4 => hQ H3 ((e2.trans e3).trans e4)
    · have k2 := el_lcR1 (σ := start nRoads [.int (n : Int), .ref a]) (H := H2) (ta := tCons (tOp (rI0 fun i j => .int (i - j)) (tCB (rLenS K) (tCons (tVar 1) tNil)) (tC (.int 1))) tNil) (n := (xs.length : Int) - 1) (j := 3) (vs := [3]) (t := tYes) (te := tOp (rLtT K) (tOp (rIx K) (tVar 1) (tVar 3)) (tOp (rIx K) (tVar 1) (tOp (rI0 fun i j => .int (i + j)) (tVar 3) (tC (.int 1)))))
        (fun _ => true) (fun _ => .bl true) (ea_cons (ev_op (ev_len2 (ev_var rfl) hs2) ev_c rv_I0) ea_nil) (by omega) (fun _ => rfl) (fun i H3 e4 hi H4 e5 Q q => q H4 (Ex.refl H4)) (fun i H3 e4 hi _ => by
          have hs3 : SqL K H3 a xs ∨ SqT K H3 a xs := hs2.imp (ex_l e4) (ex_t e4)
          have l1 : i < xs.length := by omega
          have l2 : i + 1 < xs.length := by omega
          have g1 : xs[i]? = some xs[i] := List.getElem?_eq_getElem l1
          have g2 : xs[i + 1]? = some xs[i + 1] := List.getElem?_eq_getElem l2
          generalize xs[i] = x at g1
          generalize xs[i + 1] = y at g2
          obtain ⟨p, hp, hdp⟩ := item i x g1
          obtain ⟨r, hr', hdr⟩ := item (i + 1) y g2
          obtain ⟨t, rfl, ht⟩ := dq_pr hdp
          obtain ⟨u, rfl, hu⟩ := dq_pr hdr
          have eE := (e2.trans e3).trans e4
          have lt : HT.lexLt [(p.1 : Int), (p.2 : Int)] [(r.1 : Int), (r.2 : Int)] = true := by
            rw [HT.lexLt_cons, HT.lexLt_cons]
            rcases hR.asc i p r hp hr' with z | ⟨z1, z2⟩
            · rw [if_neg (by omega)]
              exact decide_eq_true (by omega)
            · rw [if_pos (by omega), if_neg (by omega)]
              exact decide_eq_true (by omega)
          have ei : (i : Int) + 1 = ((i + 1 : Nat) : Int) := by omega
          refine ev_op (ev_op (ev_var rfl) (ev_var rfl) (rv_ixS2 hs3 (atI_nat g1))) (ev_op (ev_var rfl) (ev_op (ev_var rfl) ev_c rv_I0) (rv_ixS2 hs3 (by rw [ei]; exact atI_nat g2))) fun H4 e5 Q q => ?_
          refine ⟨t, u, [(p.1 : Int), (p.2 : Int)], [(r.1 : Int), (r.2 : Int)], rfl, rfl, st_of (e5 _ _ (eE _ _ ht)), st_of (e5 _ _ (eE _ _ hu)), ?_⟩
          rw [lt]
          exact q H4 (Ex.refl H4))
      rw [given_all, rep] at k2
      refine s_ret (v := .bl true) (ev_is (ev_all k2) (by rw [allT])) fun H3 e4 => hQ H3 ((e2.trans e3).trans e4)
end
end Tr

set_option maxHeartbeats 4000000
/-! ### looksleft.trees: the ways (any law's row: k04_runnings_deed_by_deed) -/
namespace Tr
open PySem PySem.Spec PyProof.Rows L2 LK Evl
abbrev sWalk : Stmt := top 26
abbrev nWalk : List Str := ["steps", "house", "passed"]
theorem scWalk : FnScope nWalk ["steps", "house"] (defScope sWalk) := ⟨rfl, rfl, rfl, by decide +kernel, rfl, by decide +kernel, by decide +kernel⟩
def spWalk (K : PySem.W.Frag) : Sp := fun vs H Q _ => ∃ (a : Addr) (st : List (Option Nat)) (t h : Nat) (w : List Nat), vs = [.ref a, .int (h : Int)] ∧ SqL K H a (st.map optV) ∧ st[t]? = some (some t) ∧ Dfs.Walk st t h w ∧ w.length ≤ 1000 ∧
  ∀ p H2, H p = none → Ex H H2 → H2 p = some (.tup (w.map natV)) → Q (.ref p) H2
/-- [e for x in a list], what is made told by PP as it grows -/
theorem eg_lcL {K : PySem.W.Frag} {σ : L2.St} {H : Hp} {a : Addr} {xs : List V} {tl te : TE} {j : Nat} {vs : List Nat} (PP : Nat → List V → Hp → Prop) (mono : ∀ k us H H', Ex H H' → PP k us H → PP k us H') (h : Ev tl σ H (.ref a)) (hx : SqL K H a xs) (hz : xs.length ≤ 40000) (hw : ∀ x, wipe ((wipe σ vs).set j (some x)) vs = wipe σ vs) (h0 : ∀ H, PP 0 [] H)
    (he : ∀ (k : Nat) (x : V) (p : Addr) H1 (us : List V), xs[k]? = some x → Ex H H1 → (∃ xs, H1 p = some (.lst xs)) → H p = none → PP k us (hid p H1) → ∀ Q : VK, (∀ v H2, Ex H1 H2 → PP (k + 1) (us ++ [v]) (hid p H2) → Q v H2) → te ((wipe σ vs).set j (some x)) H1 Q) :
    EvG (tLc (iList K tl) (gName j) tYes te vs) σ H xs.length PP := fun H0 e Q q =>
  h H0 e _ fun H1 e1 => ⟨a, rfl, ⟨xs, ex_l (e.trans e1) hx⟩, fun Dl hD =>
    lc_list (xs := xs) (fun m H' => Ex H1 H' ∧ ∃ us, H' Dl = some (.lst us) ∧ us.length = m ∧ PP m us (hid Dl H')) ⟨Ex.new hD, [], upd_same, rfl, h0 _⟩ (fun m H' _ p => ex_l ((e.trans e1).trans p.1) hx) (fun m x H' hm p => by
      obtain ⟨e2, us, hl, hz2, hF⟩ := p
      have hm2 := (List.getElem?_eq_some_iff.mp hm).1
      refine ⟨hw _, he m x Dl H' us hm ((e.trans e1).trans e2) ⟨us, hl⟩ (fresh_back (e.trans e1) hD) hF _ fun v H4 e4 hv => ⟨us, e4 _ _ hl, sz_lt (by omega), Ex.mut (e2.trans e4) hD, us ++ [v], upd_same, by rw [List.length_append, hz2]; rfl, ?_⟩⟩
      rw [hid_upd]
      exact hv) fun H' p => by
      obtain ⟨e2, us, hl, hz2, hF⟩ := p
      exact q Dl us H' (fresh_back e1 hD) (e1.trans e2) hl hz2 (mono _ _ _ _ hid_le hF)⟩
/-- all ways to all houses: for each row of steps, for each house, the tuple of the way -/
def Ways (H : Hp) (n : Nat) (us : List V) (m : Nat) (ws : List V) : Prop := ws.length = m ∧ ∀ (i : Nat) (v : V), ws[i]? = some v → ∃ q0 st q rs, us[i]? = some (.ref q0) ∧ H q0 = some (.lst (st.map optV)) ∧ v = .ref q ∧ H q = some (.lst rs) ∧ rs.length = n ∧
  ∀ (h : Nat) (r : V), rs[h]? = some r → ∃ p w, r = .ref p ∧ H p = some (.tup (w.map natV)) ∧ Dfs.Walk st i h w
theorem Ways.mono {H H' : Hp} {n m : Nat} {us ws : List V} (e : Ex H H') (h : Ways H n us m ws) : Ways H' n us m ws := ⟨h.1, fun i v hv => by
  obtain ⟨q0, st, q, rs, h1, h2, h3, h4, h5, h6⟩ := h.2 i v hv
  exact ⟨q0, st, q, rs, h1, e _ _ h2, h3, e _ _ h4, h5, fun h r hr => by
    obtain ⟨p, w, z1, z2, z3⟩ := h6 h r hr
    exact ⟨p, w, z1, e _ _ z2, z3⟩⟩⟩
section
variable {P : Program} {w : World} {K : PySem.W.Frag} {mg : Str → Option Value} {base : Heap} {f f1 f2 : Addr} {fd d1 d2 : FuncData}
theorem ok_walk (F : FnP K "_walk" sWalk f fd) (mt : mg "tuple" = none) : FnOk P w K mg base CX0 1 f fd ["steps", "house"] (spWalk K) := by
  refine F.ok scWalk (fun vs H Q E h => ?_) fun cdv A outer s H0 vs Q E hr h => ⟨_, PSs.nox (
    pss_cons (ps_set (i := 2) scWalk.nd rfl (.inl rfl) (pe_lst (pa_cons (pv 1) pa_nil)))
    (pss_cons (ps_while PassesOwn.never (pt_cmpR op_ne (pe_ix ix_list (pv 0) (pe_ix ix_list (pv 2) (pe_un un_neg pe_int) (fun _ _ => rfl)) (fun _ _ => rfl)) (pe_ix ix_list (pv 2) (pe_un un_neg pe_int) (fun _ _ => rfl)) (nomark _))
      (pss_one (ps_expr (pe_bm PySem.F.plainAttrs_list PySem.F.slot_list_append PySem.F.type_list_append mt_append (pv 2) (pa_cons (pe_ix ix_list (pv 0) (pe_ix ix_list (pv 2) (pe_un un_neg pe_int) (fun _ _ => rfl)) (fun _ _ => rfl)) pa_nil)))))
    (pss_one (ps_ret (pe_callTy call_tuple_of (by rfl) mt (by decide +kernel) (pa_cons (pv 2) pa_nil)))))), ?_⟩
  · obtain ⟨a, st, t, h, w, rfl, _⟩ := h
    rfl
  · obtain ⟨a, st, t, h, w, rfl, hA, ht, hw, hl, hQ⟩ := h
    refine q_asgL (el_lst (ea_cons (ev_var rfl) ea_nil) (by show 1 ≤ 100000; decide)) fun p H1 np e1 hp => ?_
    refine q_while (fun (m : Nat) (σ' : L2.St) (H' : Hp) => ∃ (done v : List Nat) (x : Nat), σ' = [some (.ref a), some (.int (h : Int)), some (.ref p)] ∧ Ex H0 H' ∧ H' p = some (.lst (done.map natV ++ [natV x])) ∧ Dfs.Walk st t x v ∧ done ++ v = w ∧ m = v.length) w.length
      ⟨[], w, h, rfl, e1, hp, hw, rfl, rfl⟩ fun m σ' H' hW => ?_
    obtain ⟨done, v, x, rfl, hE, hp', hv, hdv, rfl⟩ := hW
    have hlen : done.length + v.length = w.length := by rw [← hdv, List.length_append]
    have lastE : ∀ H2, Ex H' H2 → Ev (tOp (rIxL K) (tVar 2) (tUn (rU fun i => .int (-i)) (tC (.int 1)))) [some (.ref a), some (.int (h : Int)), some (.ref p)] H2 (natV x) := fun H2 e2 =>
      ev_op (ev_var rfl) (ev_un ev_c (ru_neg (i := 1))) (rv_ixL (sq_of (e2 _ _ hp')) (L2.atI_last _ _))
    have stepE : ∀ q, st[x]? = some (some q) → ∀ H2, Ex H' H2 → Ev (tOp (rIxL K) (tVar 0) (tOp (rIxL K) (tVar 2) (tUn (rU fun i => .int (-i)) (tC (.int 1))))) [some (.ref a), some (.int (h : Int)), some (.ref p)] H2 (natV q) := fun q hq H2 e2 =>
      ev_op (ev_var rfl) (lastE H2 e2) (rv_ixL (ex_l (hE.trans e2) hA) (atI_nat (v := optV (some q)) (by rw [List.getElem?_map, hq]; rfl)))
    cases hv with
    | here =>
      refine ⟨false, et_is (et_test (ev_op (stepE t ht _ (Ex.refl _)) (lastE _ (Ex.refl _)) (rv_ne rfl))) (by simp), fun z => (nomatch z), fun _ H2 e2 => ?_⟩
      refine ⟨_, rfl, p, _, rfl, .inl ⟨sq_of (e2 _ _ hp'), fun r nr => ?_⟩⟩
      refine hQ r _ (fresh_back (hE.trans e2) nr) ((hE.trans e2).trans (Ex.new nr)) ?_
      rw [upd_same, ← hdv, List.map_append]
      rfl
    | on n hq k =>
      rename_i q v2
      have nq : natV q ≠ natV x := fun z => by
        have e : q = x := by
          have := V.int.inj z
          omega
        subst e
        have z2 := congrArg List.length ((Dfs.Walk.on n hq k).fn k)
        rw [List.length_cons] at z2
        omega
      refine ⟨true, et_is (et_test (ev_op (stepE q hq _ (Ex.refl _)) (lastE _ (Ex.refl _)) (rv_ne rfl))) (by rw [decide_eq_false nq]; rfl), fun _ H2 e2 => ?_, fun z => (nomatch z)⟩
      refine ⟨fun (σ2 : L2.St) (H2 : Hp) => ∃ m', m' < (x :: v2).length ∧ ∃ (done v : List Nat) (x : Nat), σ2 = [some (.ref a), some (.int (h : Int)), some (.ref p)] ∧ Ex H0 H2 ∧ H2 p = some (.lst (done.map natV ++ [natV x])) ∧ Dfs.Walk st t x v ∧ done ++ v = w ∧ m' = v.length, fun σ2 H2 z => z, ?_⟩
      rw [List.length_cons] at hlen
      refine s_app (e2 _ _ hp') (ev_var rfl) (stepE q hq _ e2) (by
        rw [List.length_append, List.length_map, List.length_singleton]
        omega) fun H3 e3 => ?_
      refine ⟨v2.length, by rw [List.length_cons]; omega, done ++ [x], v2, q, rfl, Ex.mut ((hE.trans e2).trans e3) np, ?_, k, by rw [← hdv, List.append_assoc]; rfl, rfl⟩
      rw [upd_same, List.map_append]
      rfl
end
end Tr

set_option maxHeartbeats 4000000
/-! ### looksleft.trees: a tree is made of right roads that join all houses (any law's row: k04_runnings_deed_by_deed) -/
namespace Tr
open PySem PySem.Spec PyProof.Rows L2 LK Evl
/-- a statement that is never come to -/
theorem ps_never {X : Cx} {st : Stmt} : PS X st (fun _ _ _ => False) := ⟨fun _ _ _ _ _ _ h => h.elim⟩
abbrev sTree : Stmt := top 21
abbrev sInit : Stmt := inClass sTree 0
abbrev nInit : List Str := ["self", "houses", "roads", "toward", "house", "steps"]
theorem scInit : FnScope nInit ["self", "houses", "roads"] (defScope sInit) := ⟨rfl, rfl, rfl, by decide +kernel, rfl, by decide +kernel, by decide +kernel⟩
/-- the scope of the outer comprehension -/
abbrev scOut : Scope := { kind := .function, names := [(".0", .local), ("steps", .cell), ("range", .globalImplicit), ("houses", .cell)], isGenerator := false, isCoroutine := false }
theorem roads_of {K : PySem.W.Frag} {H : Hp} {v : V} {d : PyData} {ps : List (Nat × Nat)} (hd : Dq H v d) (hl : listD d = some (ps.map prD)) : ∃ a, v = .ref a ∧ Roads K H a ps := by
  obtain ⟨a, xs, rfl, hs, hall⟩ := dq_seq (K := K) hd hl
  have go : ∀ (xs : List V) (ps : List (Nat × Nat)), DqAll H xs (ps.map prD) → ∃ ts : List Addr, xs = ts.map V.ref ∧ ts.length = ps.length ∧ ∀ (i : Nat) (t : Addr) (p : Nat × Nat), ts[i]? = some t → ps[i]? = some p → SqT K H t [natV p.1, natV p.2] := by
    intro xs
    induction xs with
    | nil =>
      intro ps h
      cases ps with
      | nil => exact ⟨[], rfl, rfl, fun i t p e => by cases e⟩
      | cons _ _ => cases h
    | cons x xs ih =>
      intro ps h
      cases ps with
      | nil => cases h
      | cons p ps =>
        cases h with
        | cons h1 h2 =>
          obtain ⟨t, rfl, ht⟩ := dq_pr h1
          obtain ⟨ts, rfl, hlen, hit⟩ := ih ps h2
          refine ⟨t :: ts, rfl, congrArg Nat.succ hlen, fun i u q e1 e2 => ?_⟩
          cases i with
          | zero =>
            cases e1
            cases e2
            exact st_of ht
          | succ i => exact hit i u q e1 e2
  obtain ⟨ts, rfl, h1, h2⟩ := go xs ps hall
  exact ⟨a, rfl, ts, hs, h1, h2⟩
/-- all but the object at x stays -/
def But (x : Addr) (H H' : Hp) : Prop := ∀ a o, a ≠ x → H a = some o → H' a = some o
/-- a tree at x -/
def TreeAt (K : PySem.W.Frag) (C : Addr) (H : Hp) (x : Addr) (n : Nat) (ps : List (Nat × Nat)) : Prop := ∃ (dx rt l : Addr) (us : List V) (ts : List Addr) (wl : Addr), H x = some (.ins C dx [("houses", .int (n : Int)), ("roads", .ref rt), ("_toward", .ref l), ("_ways", .ref wl)]) ∧ SqT K H rt (ts.map V.ref) ∧ ts.length = ps.length ∧
  (∀ (i : Nat) (t : Addr) (p : Nat × Nat), ts[i]? = some t → ps[i]? = some p → SqT K H t [natV p.1, natV p.2]) ∧ H l = some (.lst us) ∧ Found H (adjOf n ps) n us ∧ ∃ ws, H wl = some (.lst ws) ∧ Ways H n us n ws
theorem But.refl {x : Addr} {H : Hp} : But x H H := fun _ _ _ h => h
theorem But.trans {x : Addr} {A B D : Hp} (h : But x A B) (k : But x B D) : But x A D := fun a o n e => k a o n (h a o n e)
theorem But.of {x : Addr} {A B : Hp} (h : Ex A B) : But x A B := fun a o _ e => h a o e
theorem But.at {x : Addr} {A : Hp} {o : HO} : But x A (upd A x o) := fun a u n e => by
  rw [upd_ne n]
  exact e
section
variable {K : PySem.W.Frag} {C x dx a : Addr} {H H' : Hp} {fs : List (Str × V)} {xs : List V}
theorem bt_o {o : HO} (hx : H x = some (.ins C dx fs)) (e : But x H H') (n : ∀ C dx fs, o ≠ .ins C dx fs) (h : H a = some o) : H' a = some o := e a o (fun z => by
  rw [z, hx] at h
  exact n _ _ _ (Option.some.inj h).symm) h
theorem bt_l (hx : H x = some (.ins C dx fs)) (e : But x H H') (h : SqL K H a xs) : SqL K H' a xs := by
  rcases h with (h | ⟨o, h⟩) | h
  · exact .inl (.inl (bt_o hx e (fun _ _ _ z => by cases z) h))
  · exact .inl (.inr ⟨o, bt_o hx e (fun _ _ _ z => by cases z) h⟩)
  · exact .inr h
theorem bt_t (hx : H x = some (.ins C dx fs)) (e : But x H H') (h : SqT K H a xs) : SqT K H' a xs := by
  rcases h with (h | ⟨o, h⟩) | h
  · exact .inl (.inl (bt_o hx e (fun _ _ _ z => by cases z) h))
  · exact .inl (.inr ⟨o, bt_o hx e (fun _ _ _ z => by cases z) h⟩)
  · exact .inr h
theorem bt_f {adj : List (List Nat)} {n : Nat} {us : List V} (hx : H x = some (.ins C dx fs)) (e : But x H H') (h : Found H adj n us) : Found H' adj n us := ⟨h.1, fun i v hv => by
  obtain ⟨q, st, h1, h2, h3⟩ := h.2 i v hv
  exact ⟨q, st, h1, bt_o hx e (fun _ _ _ z => by cases z) h2, h3⟩⟩
theorem Ways.bt {n m : Nat} {us ws : List V} (h : Ways H n us m ws) (hx : H x = some (.ins C dx fs)) (e : But x H H') : Ways H' n us m ws := ⟨h.1, fun i v hv => by
  obtain ⟨q0, st, q, rs, h1, h2, h3, h4, h5, h6⟩ := h.2 i v hv
  exact ⟨q0, st, q, rs, h1, bt_o hx e (fun _ _ _ z => by cases z) h2, h3, bt_o hx e (fun _ _ _ z => by cases z) h4, h5, fun h r hr => by
    obtain ⟨p, w, z1, z2, z3⟩ := h6 h r hr
    exact ⟨p, w, z1, bt_o hx e (fun _ _ _ z => by cases z) z2, z3⟩⟩⟩
end
theorem put2 {z v : V} : putF "roads" v [(("houses" : Str), z)] = [(("houses" : Str), z), (("roads" : Str), v)] := by
  unfold putF
  rw [if_neg (by decide)]
  rfl
theorem put3 {z v y : V} : putF "_toward" y [(("houses" : Str), z), (("roads" : Str), v)] = [(("houses" : Str), z), (("roads" : Str), v), (("_toward" : Str), y)] := by
  unfold putF
  rw [if_neg (by decide)]
  unfold putF
  rw [if_neg (by decide)]
  rfl
theorem put4 {z v y u : V} : putF "_ways" u [(("houses" : Str), z), (("roads" : Str), v), (("_toward" : Str), y)] = [(("houses" : Str), z), (("roads" : Str), v), (("_toward" : Str), y), (("_ways" : Str), u)] := by
  unfold putF
  rw [if_neg (by decide)]
  unfold putF
  rw [if_neg (by decide)]
  unfold putF
  rw [if_neg (by decide)]
  rfl
def spInit (K : PySem.W.Frag) (C : Addr) : Sp := fun vs H Q _ => ∃ (x dx : Addr) (n : Nat) (v : V) (d : PyData) (ps : List (Nat × Nat)), vs = [.ref x, .int (n : Int), v] ∧ H x = some (.ins C dx []) ∧ Dq H v d ∧ listD d = some (ps.map prD) ∧ Right n ps ∧ 1 ≤ n ∧ n ≤ 16 ∧ (∀ t h, t < n → h < n → Dfs.Can (adjOf n ps) t h) ∧
  ∀ H2, But x H H2 → TreeAt K C H2 x n ps → Q .non H2
section
variable {P : Program} {w : World} {K : PySem.W.Frag} {mg : Str → Option Value} {base : Heap} {C f f1 f2 f3 f4 : Addr} {fd d1 d2 d3 d4 : FuncData} {tk : Tok}
/-- [_walk(steps, house) for house in range(houses)] -/
def tWays (K : PySem.W.Frag) : TE := tLc (iList K (tVar 3)) (gName 5) tYes (tLc (iRng1 (tCons (tVar 1) tNil)) (gName 4) tYes (tCall (spWalk K) [] E0 (tCons (tVar 5) (tCons (tVar 4) tNil))) [4]) [5]
theorem eg_ways {H : Hp} {n : Nat} {x a l : Addr} {y : Option V} {us : List V} {ps : List (Nat × Nat)} (hl : H l = some (.lst us)) (hF : Found H (adjOf n ps) n us) (hJ : ∀ t h, t < n → h < n → Dfs.Can (adjOf n ps) t h) (h16 : n ≤ 16) :
    EvG (tWays K) [some (.ref x), some (.int (n : Int)), some (.ref a), some (.ref l), y, none] H us.length (fun k ws H => Ways H n us k ws) :=
  eg_lcL _ (fun k ws H H' e h => h.mono e) (ev_var rfl) (sq_of hl) (by rw [hF.1]; omega) (fun _ => rfl) (fun H => ⟨rfl, fun i v hv => by cases hv⟩) fun k v p H1 ws hk e1 hp np hP Q q => by
    obtain ⟨pl, hp⟩ := hp
    obtain ⟨q0, st, rfl, hq0, hD⟩ := hF.2 k v hk
    have lk : k < n := by
      have := (List.getElem?_eq_some_iff.mp hk).1
      rw [hF.1] at this
      exact this
    have inner : EvG (tLc (iRng1 (tCons (tVar 1) tNil)) (gName 4) tYes (tCall (spWalk K) [] E0 (tCons (tVar 5) (tCons (tVar 4) tNil))) [4]) [some (.ref x), some (.int (n : Int)), some (.ref a), some (.ref l), y, some (.ref q0)] H1 n
        (fun m rs H => rs.length = m ∧ ∀ (h : Nat) (r : V), rs[h]? = some r → ∃ p' w, r = .ref p' ∧ H p' = some (.tup (w.map natV)) ∧ Dfs.Walk st k h w) :=
      eg_lc _ (fun m rs H H' e h => ⟨h.1, fun i r hr => by
        obtain ⟨p', w, z1, z2, z3⟩ := h.2 i r hr
        exact ⟨p', w, z1, e _ _ z2, z3⟩⟩) (ea_cons (ev_var rfl) ea_nil) (by omega) (fun _ => rfl) (fun H => ⟨rfl, fun i r hr => by cases hr⟩) fun m p2 H2 rs hm e2 hp2 np2 h Q2 q2 => by
        obtain ⟨xs2, hp2⟩ := hp2
        obtain ⟨w, hw⟩ := hD.wlk m (hD.all (hJ k m lk hm))
        refine ⟨_, rfl, _, rfl, q0, st, k, m, w, rfl, sq_of (e2 _ _ (e1 _ _ hq0)), hD.tgt, hw, by have := hD.short hw; rw [adjOf_len] at this; omega, fun r H3 nr e3 hr => q2 (.ref r) H3 e3 ⟨by rw [List.length_append, h.1]; rfl, fun i r' hi => ?_⟩⟩
        by_cases c : i < rs.length
        · rw [List.getElem?_append_left c] at hi
          obtain ⟨p', w', z1, z2, z3⟩ := h.2 i r' hi
          exact ⟨p', w', z1, hid_ex e3 _ _ z2, z3⟩
        · have ci : i = rs.length := by
            have := (List.getElem?_eq_some_iff.mp hi).1
            rw [List.length_append, List.length_singleton] at this
            omega
          rw [ci, List.getElem?_append_right (Nat.le_refl _), Nat.sub_self] at hi
          have e4 : V.ref r = r' := Option.some.inj hi
          refine ⟨r, w, e4.symm, ?_, by rw [ci, h.1]; exact hw⟩
          rw [hid_ne (fun z => by rw [z, hp2] at nr; cases nr)]
          exact hr
    refine inner H1 (Ex.refl H1) _ fun lr rs H2 nl e2 hlr hz hR => q (.ref lr) H2 e2 ⟨by rw [List.length_append, hP.1]; rfl, fun i v hi => ?_⟩
    have hp2 := e2 _ _ hp
    by_cases c : i < ws.length
    · rw [List.getElem?_append_left c] at hi
      exact (hP.mono (hid_ex e2)).2 i v hi
    · have ci : i = ws.length := by
        have := (List.getElem?_eq_some_iff.mp hi).1
        rw [List.length_append, List.length_singleton] at this
        omega
      rw [ci, List.getElem?_append_right (Nat.le_refl _), Nat.sub_self] at hi
      have e4 : V.ref lr = v := Option.some.inj hi
      have np' : ∀ {b : Addr} {o : HO}, H1 b = some o → H b ≠ none → b ≠ p := fun {b o} _ z z2 => z (by rw [z2]; exact np)
      refine ⟨q0, st, lr, rs, by rw [ci, hP.1]; exact hk, ?_, e4.symm, ?_, hz, fun h r hr => ?_⟩
      · rw [hid_ne (np' (e1 _ _ hq0) (by rw [hq0]; exact fun z => nomatch z))]
        exact e2 _ _ (e1 _ _ hq0)
      · rw [hid_ne (fun z => by rw [z, hp] at nl; cases nl)]
        exact hlr
      · obtain ⟨p', w', z1, z2, z3⟩ := hR.2 h r hr
        refine ⟨p', w', z1, ?_, by rw [ci, hP.1]; exact z3⟩
        rw [hid_ne (fun z => by rw [z, hp2] at z2; cases z2)]
        exact z2
theorem s_fldR {σ : L2.St} {H : Hp} {tv : TE} {i n : Nat} {x C dx : Addr} {fs : List (Str × V)} {g : Str} {D : Ends} {PP : Nat → List V → Hp → Prop} (h : EvG tv σ H n PP) (hi : σ[i]? = some (some (.ref x))) (hx : H x = some (.ins C dx fs)) (cl : Cls K C) (na : NoAttr K C g) (hz : fs.length < 1000)
    (k : ∀ l us H1, H l = none → Ex H H1 → H1 l = some (.lst us) → us.length = n → PP n us H1 → D.nx σ (upd H1 x (.ins C dx (putF g (.ref l) fs)))) : sFld K (tVar i) tv g D σ H := h H (Ex.refl H) _ fun l us H2 nl e2 hl hu hP => ⟨_, hi, x, C, dx, fs, rfl, e2 _ _ hx, cl, na, hz, k l us H2 nl e2 hl hu hP⟩
theorem ok_init (F : FunD K "__init__" "Tree.__init__" (defArgs sInit) (defBody sInit) (defScope sInit) [] [] f fd) (cl : Cls K C) (n1 : NoAttr K C "houses") (n2 : NoAttr K C "roads") (n3 : NoAttr K C "_toward") (n4 : NoAttr K C "_ways") (G1 : FnOk P w K mg base CX0 2 f1 d1 ["value", "low", "high"] spBtw) (k1 : Kd K mg "is_between" ["value", "low", "high"] f1 d1)
    (G2 : FnOk P w K mg base CX0 5 f2 d2 ["houses", "value"] spRight) (k2 : Kd K mg "_are_roads" ["houses", "value"] f2 d2) (G3 : FnOk P w K mg base CX0 2 f3 d3 ["houses", "roads"] (spAll K)) (k3 : Kd K mg "_all_steps" ["houses", "roads"] f3 d3) (G4 : FnOk P w K mg base CX0 1 f4 d4 ["steps", "house"] (spWalk K)) (k4 : Kd K mg "_walk" ["steps", "house"] f4 d4) (mr : mg "range" = none) (mt : mg "tuple" = none) (mh : mg "MOST_HOUSES" = some (.int 16 tk)) :
    FnOk P w K mg base CX0 6 f fd ["self", "houses", "roads"] (spInit K C) := by
  refine F.ok scInit (fun vs H Q E h => ?_) fun cdv A outer s H0 vs Q E hr h => ⟨_, PSs.nox (
    pss_cons (ps_if (pt_not (pt_val (pe_call G1 (hr.mono (by decide)) (by rfl) k1.m k1.k k1.b .nil pass0 (pa_cons (pv 1) (pa_cons pe_int (pa_cons (pe_glob (v := .int 16) (by rfl) mh ⟨_, rfl⟩) pa_nil)))))) (pss_one ps_never) pss_nil)
    (pss_cons (ps_if (pt_not (pt_val (pe_call G2 hr (by rfl) k2.m k2.k k2.b .nil pass0 (pa_cons (pv 1) (pa_cons (pv 2) pa_nil))))) (pss_one ps_never) pss_nil)
    (pss_cons (ps_set (i := 3) scInit.nd rfl (.inl rfl) (pe_call G3 (hr.mono (by decide)) (by rfl) k3.m k3.k k3.b .nil pass0 (pa_cons (pv 1) (pa_cons (pv 2) pa_nil))))
    (pss_cons (ps_for PassesOwn.never rfl (pi_range1 (by rfl) mr (pa_cons (pv 1) pa_nil)) (pg_name (i := 4) scInit.nd rfl (.inl rfl)) (pss_one (ps_if (pt_cmpR op_isN (pe_ix ix_list (pe_ix ix_list (pv 3) pe_int (fun _ _ => rfl)) (pv 4) (fun _ _ => rfl)) pe_non (nomark _)) (pss_one ps_never) pss_nil)))
    (pss_cons (ps_fld (pv 0) (pv 1) rfl)
    (pss_cons (ps_fld (pv 0) (pe_callTy call_tuple_of (by rfl) mt (by decide +kernel) (pa_cons (pv 2) pa_nil)) rfl)
    (pss_cons (ps_fld (pv 0) (pv 3) rfl)
    (pss_one (ps_fld (pv 0) (pe_lc (own := [("steps", 5)]) (g := gName 5) (tt := tYes) rfl scInit.nd (pi_list (pv 3)) (blkOk_by (N := nInit) (sc := defScope sInit) (by decide +kernel)) (fun _ _ _ _ _ => pg_name (i := 5) scInit.nd rfl (.inr rfl)) (fun _ _ _ _ _ => pts_nil)
      (fun _ _ _ _ _ => pe_lc (own := [("house", 4)]) (g := gName 4) (tt := tYes) rfl scInit.nd (pi_range1 (by rfl) mr (pa_cons (pv 1) pa_nil)) (blkOk_by (N := nInit) (sc := scOut) (by decide +kernel)) (fun _ _ _ _ _ => pg_name (i := 4) scInit.nd rfl (.inl rfl)) (fun _ _ _ _ _ => pts_nil)
        (fun _ _ _ _ _ => pe_call G4 (hr.mono (by decide)) (by rfl) k4.m k4.k k4.b .nil pass0 (pa_cons (pv 5) (pa_cons (pv 4) pa_nil))))) rfl))))))))), ?_⟩
  · obtain ⟨x, dx, n, v, d, ps, rfl, _⟩ := h
    rfl
  · obtain ⟨x, dx, n, v, d, ps, rfl, hx, hd, hl, hR, h1, h16, hJ, hQ⟩ := h
    obtain ⟨a, rfl, hRd⟩ := roads_of (K := K) hd hl
    have hb : btwD 1 16 (.int (n : Int)) = true := by simp [btwD, wholeD]; omega
    refine q_when (b := false) (et_is (et_not (et_B (ev_callP (v := .bl true) (ea_cons (ev_var rfl) (ea_cons ev_c (ea_cons ev_c ea_nil))) fun H1 e1 Q q => ⟨_, .int (n : Int), 1, 16, rfl, .int _, by rw [hb]; exact q⟩))) rfl) (fun hb => nomatch hb) fun _ H1 e1 => ?_
    refine q_when (b := false) (et_is (et_not (et_B (ev_callP (v := .bl true) (ea_cons (ev_var rfl) (ea_cons (ev_var rfl) ea_nil)) fun H2 e2 Q q => ⟨n, _, d, ps, rfl, Dq.mono (e1.trans e2) hd, hl, hR, by omega, q⟩))) rfl) (fun hb => nomatch hb) fun _ H2 e2 => ?_
    have hm := hR.many
    have rmono : ∀ {H H' : Hp}, Ex H H' → Roads K H a ps → Roads K H' a ps := fun {H H'} e h => by
      obtain ⟨ts, z1, z2, z3⟩ := h
      exact ⟨ts, z1.imp (ex_l e) (ex_t e), z2, fun i t p x y => ex_t e (z3 i t p x y)⟩
    refine ⟨_, rfl, _, rfl, n, a, ps, rfl, rmono (e1.trans e2) hRd, by omega, by omega, fun p hp => ⟨by have := hR.each p hp; omega, (hR.each p hp).2⟩, fun l us H3 nl e3 hl3 hF => ?_⟩
    have hE3 := (e1.trans e2).trans e3
    have hz : 0 < us.length := by rw [hF.1]; omega
    have hu0 : us[0]? = some us[0] := List.getElem?_eq_getElem hz
    generalize us[0] = u0 at hu0
    obtain ⟨q0, st0, rfl, hq0, hD0⟩ := hF.2 0 u0 hu0
    have hal : (adjOf n ps).length = n := adjOf_len
    refine q_forR1 (ea_cons (ev_var rfl) ea_nil) ⟨by omega, by omega⟩ (fun (_ : Nat) (σ' : L2.St) (H' : Hp) => (∃ y, σ' = [some (.ref x), some (.int (n : Int)), some (.ref a), some (.ref l), y, none]) ∧ Ex H3 H') (fun H4 e4 => ⟨⟨_, rfl⟩, e4⟩) (fun i σ' H' hi hp => ?_) fun σ' H' hp => ?_
    · obtain ⟨⟨y, rfl⟩, e4⟩ := hp
      obtain ⟨p, hst⟩ := hD0.all (hJ 0 i (by omega) (by omega))
      have rvn : ∀ (y : V) (H : Hp), RV (fun x y H Q => y = .non ∧ Q (.bl (decide (x = .non))) H) y .non H (.bl (decide (y = .non))) := fun y H H1 _ Q q => ⟨rfl, q H1 (Ex.refl H1)⟩
      exact s_when (b := false) (et_is (et_test (ev_op (ev_op (ev_op (ev_var rfl) ev_c (rv_ixL (v := .ref q0) (sq_of (e4 _ _ hl3)) (by exact atI_nat hu0))) (ev_var rfl) (rv_ixL (v := optV (some p)) (sq_of (e4 _ _ hq0)) (atI_nat (v := optV (some p)) (by rw [List.getElem?_map, hst]; rfl)))) ev_c (rvn _ _))) (decide_eq_false fun z => by cases z)) (fun hb => nomatch hb) fun _ H5 e5 => ⟨⟨_, rfl⟩, e4.trans e5⟩
    · obtain ⟨⟨y, rfl⟩, e4⟩ := hp
      have hE4 := hE3.trans e4
      have hxl : x ≠ l := fun z => by
        have z2 := fresh_back (e1.trans e2) nl
        rw [← z, hx] at z2
        cases z2
      refine ⟨_, rfl, _, rfl, x, C, dx, [], rfl, hE4 _ _ hx, cl, n1, (by show 0 < 1000; decide), ?_⟩
      obtain ⟨ts, hT, htl, hti⟩ := rmono hE4 hRd
      have hx4 := hE4 _ _ hx
      have hl4 := e4 _ _ hl3
      have hF4 : Found H' (adjOf n ps) n us := ⟨hF.1, fun i v hv => by
        obtain ⟨q, st, z1, z2, z3⟩ := hF.2 i v hv
        exact ⟨q, st, z1, e4 _ _ z2, z3⟩⟩
      have b1 : But x H' (upd H' x (.ins C dx (putF "houses" (.int (n : Int)) []))) := But.at
      have x1 : upd H' x (.ins C dx (putF "houses" (.int (n : Int)) [])) x = some (.ins C dx [("houses", .int (n : Int))]) := upd_same
      generalize upd H' x (.ins C dx (putF "houses" (.int (n : Int)) [])) = H5 at b1 x1 ⊢
      have fin : ∀ (rt : Addr) (H6 : Hp), Ex H5 H6 → SqT K H6 rt (ts.map V.ref) → (tSeq (sFld K (tVar 0) (tC (V.ref rt)) "roads") (tSeq (sFld K (tVar 0) (tVar 3) "_toward") (sFld K (tVar 0) (tWays K) "_ways"))) { nx := fun _ H' => Q .non H', rt := Q } [some (.ref x), some (.int (n : Int)), some (.ref a), some (.ref l), y, none] H6 := fun rt H6 e6 hrt => by
        refine ⟨_, rfl, x, C, dx, _, rfl, e6 _ _ x1, cl, n2, (by show 1 < 1000; decide), ?_⟩
        rw [put2]
        refine ⟨_, rfl, _, rfl, x, C, dx, _, rfl, upd_same, cl, n3, (by show 2 < 1000; decide), ?_⟩
        rw [put3]
        have b6 : But x H5 H6 := But.of e6
        have x6 := e6 _ _ x1
        have b7 : But x H6 (upd (upd H6 x (.ins C dx [("houses", .int (n : Int)), ("roads", .ref rt)])) x (.ins C dx [("houses", .int (n : Int)), ("roads", .ref rt), ("_toward", .ref l)])) := But.at.trans But.at
        have x7 : upd (upd H6 x (.ins C dx [("houses", .int (n : Int)), ("roads", .ref rt)])) x (.ins C dx [("houses", .int (n : Int)), ("roads", .ref rt), ("_toward", .ref l)]) x = some (.ins C dx [("houses", .int (n : Int)), ("roads", .ref rt), ("_toward", .ref l)]) := upd_same
        generalize upd (upd H6 x (.ins C dx [("houses", .int (n : Int)), ("roads", .ref rt)])) x (.ins C dx [("houses", .int (n : Int)), ("roads", .ref rt), ("_toward", .ref l)]) = H7 at b7 x7 ⊢
        have bA := (b1.trans b6).trans b7
        have hl7 := bt_o hx4 bA (fun _ _ _ z => by cases z) hl4
        have hF7 := bt_f hx4 bA hF4
        refine s_fldR (eg_ways hl7 hF7 hJ h16) rfl x7 cl n4 (by show 3 < 1000; decide) fun wl ws H8 nw e8 hw8 hz8 hW8 => ?_
        rw [put4]
        have x8 := e8 _ _ x7
        have b9 : But x H8 (upd H8 x (.ins C dx [("houses", .int (n : Int)), ("roads", .ref rt), ("_toward", .ref l), ("_ways", .ref wl)])) := But.at
        have x9 : upd H8 x (.ins C dx [("houses", .int (n : Int)), ("roads", .ref rt), ("_toward", .ref l), ("_ways", .ref wl)]) x = some (.ins C dx [("houses", .int (n : Int)), ("roads", .ref rt), ("_toward", .ref l), ("_ways", .ref wl)]) := upd_same
        generalize upd H8 x (.ins C dx [("houses", .int (n : Int)), ("roads", .ref rt), ("_toward", .ref l), ("_ways", .ref wl)]) = H9 at b9 x9 ⊢
        have bB := (bA.trans (But.of e8)).trans b9
        rw [hF7.1] at hW8
        refine hQ _ ((But.of hE4).trans bB) ⟨dx, rt, l, us, ts, wl, x9, bt_t x8 b9 (ex_t e8 (bt_t x6 b7 hrt)), htl, fun i t p z1 z2 => bt_t hx4 bB (hti i t p z1 z2), bt_o hx4 bB (fun _ _ _ z => by cases z) hl4, bt_f hx4 bB hF4, ws, bt_o x8 b9 (fun _ _ _ z => by cases z) hw8, hW8.bt x8 b9⟩
      rcases hT with hT | hT
      · refine ⟨_, rfl, a, _, rfl, .inl ⟨bt_l hx4 b1 hT, fun rt nrt => ?_⟩⟩
        exact fin rt _ (Ex.new nrt) (st_of upd_same)
      · refine ⟨_, rfl, a, _, rfl, .inr ⟨bt_t hx4 b1 hT, ?_⟩⟩
        exact fin a _ (Ex.refl _) (bt_t hx4 b1 hT)
end
end Tr

set_option maxHeartbeats 4000000
/-! ### looksleft.trees: steps, roads, houses (any law's row: k04_runnings_deed_by_deed) -/
namespace Tr
open PySem PySem.Spec PyProof.Rows L2 LK Evl
abbrev sLenT : Stmt := inClass sTree 1
abbrev sHas : Stmt := inClass sTree 2
abbrev sStep : Stmt := inClass sTree 5
abbrev sIsRoad : Stmt := top 28
theorem scLenT : FnScope ["self"] ["self"] (defScope sLenT) := ⟨rfl, rfl, rfl, by decide +kernel, rfl, by decide +kernel, by decide +kernel⟩
theorem scHas : FnScope ["self", "value"] ["self", "value"] (defScope sHas) := ⟨rfl, rfl, rfl, by decide +kernel, rfl, by decide +kernel, by decide +kernel⟩
theorem scStep : FnScope ["self", "house", "target"] ["self", "house", "target"] (defScope sStep) := ⟨rfl, rfl, rfl, by decide +kernel, rfl, by decide +kernel, by decide +kernel⟩
theorem scIsRoad : FnScope ["tree", "u", "v"] ["tree", "u", "v"] (defScope sIsRoad) := ⟨rfl, rfl, rfl, by decide +kernel, rfl, by decide +kernel, by decide +kernel⟩
/-- each house can be gone to from each -/
def Joined (n : Nat) (ps : List (Nat × Nat)) : Prop := ∀ t h, t < n → h < n → Dfs.Can (adjOf n ps) t h
theorem TreeAt.mono {K : PySem.W.Frag} {C : Addr} {H H' : Hp} {x : Addr} {n : Nat} {ps : List (Nat × Nat)} (e : Ex H H') (h : TreeAt K C H x n ps) : TreeAt K C H' x n ps := by
  obtain ⟨dx, rt, l, us, ts, wl, h1, h2, h3, h4, h5, h6, h7⟩ := h
  obtain ⟨ws, y1, y2⟩ := h7
  exact ⟨dx, rt, l, us, ts, wl, e _ _ h1, ex_t e h2, h3, fun i t p x y => ex_t e (h4 i t p x y), e _ _ h5, ⟨h6.1, fun i v hv => by
    obtain ⟨q, st, z1, z2, z3⟩ := h6.2 i v hv
    exact ⟨q, st, z1, e _ _ z2, z3⟩⟩, ws, e _ _ y1, y2.mono e⟩
/-- the step from h toward t -/
def IsStep (n : Nat) (ps : List (Nat × Nat)) (t h p : Nat) : Prop := ∃ st, Dfs.Done (adjOf n ps) t st ∧ st[h]? = some (some p)
def spStep (K : PySem.W.Frag) (C : Addr) : Sp := fun vs H Q _ => ∃ (x : Addr) (n : Nat) (ps : List (Nat × Nat)) (h t : Nat), vs = [.ref x, .int (h : Int), .int (t : Int)] ∧ TreeAt K C H x n ps ∧ Joined n ps ∧ h < n ∧ t < n ∧ ∀ p, IsStep n ps t h p → RetV (.int (p : Int)) H Q
def spLenT (K : PySem.W.Frag) (C : Addr) : Sp := fun vs H Q _ => ∃ (x : Addr) (n : Nat) (ps : List (Nat × Nat)), vs = [.ref x] ∧ TreeAt K C H x n ps ∧ RetV (.int (n : Int)) H Q
def spHas (K : PySem.W.Frag) (C : Addr) : Sp := fun vs H Q _ => ∃ (x : Addr) (n : Nat) (ps : List (Nat × Nat)) (v : V) (d : PyData), vs = [.ref x, v] ∧ TreeAt K C H x n ps ∧ Dq H v d ∧ RetV (.bl (btwD 0 ((n : Int) - 1) d)) H Q
def nearB (n : Nat) (ps : List (Nat × Nat)) (u v : Nat) : Bool := decide (u ≠ v) && decide (u ∈ (adjOf n ps).getD v [])
def spIsRoad (K : PySem.W.Frag) (C : Addr) : Sp := fun vs H Q _ => ∃ (x : Addr) (n : Nat) (ps : List (Nat × Nat)) (u v : Nat), vs = [.ref x, .int (u : Int), .int (v : Int)] ∧ TreeAt K C H x n ps ∧ Joined n ps ∧ u < n ∧ v < n ∧ RetV (.bl (nearB n ps u v)) H Q
section
variable {P : Program} {w : World} {K : PySem.W.Frag} {mg : Str → Option Value} {base : Heap} {C f f1 f2 : Addr} {fd d1 d2 : FuncData}
theorem ev_fld {σ : L2.St} {H : Hp} {te : TE} {a C dx : Addr} {fs : List (Str × V)} {g : Str} {v : V} (cl : Cls K C) (na : NoAttr K C g) (h : Ev te σ H (.ref a)) (hx : H a = some (.ins C dx fs)) (l : fs.lookup g = some v) : Ev (tFld K te g) σ H v := fun H1 e Q q =>
  h H1 e _ fun H2 e2 => ⟨a, C, dx, fs, v, rfl, e2 _ _ (e _ _ hx), cl, na, l, q H2 e2⟩
theorem ev_meth {σ : L2.St} {H : Hp} {ta : TE} {t : TA} {sp : Sp} {vs : List V} {a C dx : Addr} {fs : List (Str × V)} {m : Str} {v : V} (h : Ev ta σ H (.ref a)) (hx : H a = some (.ins C dx fs)) (l : fs.lookup m = none) (ht : EvA t σ H vs) (hc : ∀ H1, Ex H H1 → ∀ Q, RetV v H1 Q → sp (.ref a :: (vs ++ [])) H1 Q E0) : Ev (tMeth C m sp [] E0 ta t) σ H v := fun H1 e Q q =>
  h H1 e _ fun H2 e2 => ⟨a, dx, fs, rfl, e2 _ _ (e _ _ hx), l, ht H2 (e.trans e2) _ fun H3 e3 => hc H3 ((e.trans e2).trans e3) Q fun H4 e4 => q H4 ((e2.trans e3).trans e4)⟩
theorem ok_step (F : FunD K "step" "Tree.step" (defArgs sStep) (defBody sStep) (defScope sStep) [] [] f fd) (cl : Cls K C) (n3 : NoAttr K C "_toward") : FnOk P w K mg base CX0 1 f fd ["self", "house", "target"] (spStep K C) := by
  refine F.ok scStep (fun vs H Q E h => ?_) fun cdv A outer s H0 vs Q E hr h => ⟨_, PSs.nox (pss_one (ps_ret (pe_ix ix_list (pe_ix ix_list (pe_fld (pv 0) rfl) (pv 2) (fun _ _ => rfl)) (pv 1) (fun _ _ => rfl)))), ?_⟩
  · obtain ⟨x, n, ps, h, t, rfl, _⟩ := h
    rfl
  · obtain ⟨x, n, ps, h, t, rfl, ⟨dx, rt, l, us, ts, wl, h1, h2, h3, h4, h5, h6, h7⟩, hJ, hh, ht, hQ⟩ := h
    have lt : t < us.length := by rw [h6.1]; exact ht
    have ut : us[t]? = some us[t] := List.getElem?_eq_getElem lt
    generalize us[t] = u at ut
    obtain ⟨q, st, rfl, hq, hD⟩ := h6.2 t u ut
    obtain ⟨p, hp⟩ := hD.all (hJ t h ht hh)
    exact s_ret (ev_op (ev_op (ev_fld cl n3 (ev_var rfl) h1 rfl) (ev_var rfl) (rv_ixL (v := .ref q) (sq_of h5) (atI_nat ut))) (ev_var rfl) (rv_ixL (v := .int (p : Int)) (sq_of hq) (atI_nat (v := optV (some p)) (by rw [List.getElem?_map, hp]; rfl)))) (hQ p ⟨st, hD, hp⟩)
theorem ok_lenT (F : FunD K "__len__" "Tree.__len__" (defArgs sLenT) (defBody sLenT) (defScope sLenT) [] [] f fd) (cl : Cls K C) (n3 : NoAttr K C "_toward") (ml : mg "len" = none) : FnOk P w K mg base CX0 1 f fd ["self"] (spLenT K C) := by
  refine F.ok scLenT (fun vs H Q E h => ?_) fun cdv A outer s H0 vs Q E hr h => ⟨_, PSs.nox (pss_one (ps_ret (pe_callB call_len_seq (by rfl) ml PySem.boot_len (pa_cons (pe_fld (pv 0) rfl) pa_nil)))), ?_⟩
  · obtain ⟨x, n, ps, rfl, _⟩ := h
    rfl
  · obtain ⟨x, n, ps, rfl, ⟨dx, rt, l, us, ts, wl, h1, h2, h3, h4, h5, h6, h7⟩, hQ⟩ := h
    refine s_ret (v := .int (n : Int)) ?_ hQ
    rw [← h6.1]
    exact ev_len2 (ev_fld cl n3 (ev_var rfl) h1 rfl) (.inl (sq_of h5))
theorem ok_has (F : FunD K "__contains__" "Tree.__contains__" (defArgs sHas) (defBody sHas) (defScope sHas) [] [] f fd) (cl : Cls K C) (n1 : NoAttr K C "houses") (G1 : FnOk P w K mg base CX0 2 f1 d1 ["value", "low", "high"] spBtw) (k1 : Kd K mg "is_between" ["value", "low", "high"] f1 d1) : FnOk P w K mg base CX0 3 f fd ["self", "value"] (spHas K C) := by
  refine F.ok scHas (fun vs H Q E h => ?_) fun cdv A outer s H0 vs Q E hr h => ⟨_, PSs.nox (pss_one (ps_ret (pe_call G1 hr (by rfl) k1.m k1.k k1.b .nil pass0 (pa_cons (pv 1) (pa_cons pe_int (pa_cons (pe_op op_sub (pe_fld (pv 0) rfl) pe_int) pa_nil)))))), ?_⟩
  · obtain ⟨x, n, ps, v, d, rfl, _⟩ := h
    rfl
  · obtain ⟨x, n, ps, v, d, rfl, ⟨dx, rt, l, us, ts, wl, h1, h2, h3, h4, h5, h6, h7⟩, hd, hQ⟩ := h
    exact s_ret (ev_callP (ea_cons (ev_var rfl) (ea_cons ev_c (ea_cons (ev_op (ev_fld cl n1 (ev_var rfl) h1 rfl) ev_c rv_I0) ea_nil))) fun H1 e1 Q q => ⟨v, d, 0, (n : Int) - 1, rfl, Dq.mono e1 hd, q⟩) hQ
theorem near_of {n : Nat} {ps : List (Nat × Nat)} {u v p : Nat} (h : IsStep n ps v u p) (c : u ≠ v) : nearB n ps u v = decide (V.int (p : Int) = V.int (v : Int)) := by
  obtain ⟨st, hD, hp⟩ := h
  unfold nearB
  rw [decide_eq_true c, Bool.true_and]
  have k := hD.at_target c
  rw [hp] at k
  by_cases m : u ∈ (adjOf n ps).getD v []
  · have e : p = v := Option.some.inj (Option.some.inj (k.mpr m))
    rw [decide_eq_true m, e]
    simp
  · rw [decide_eq_false m]
    refine (decide_eq_false fun z => m (k.mp ?_)).symm
    have := V.int.inj z
    congr 2
    omega
theorem ok_isRoad (F : FnP K "is_road" sIsRoad f fd) (cl : Cls K C) (hm : Meth K C "step" f1) (G : FnOk P w K mg base CX0 1 f1 d1 ["self", "house", "target"] (spStep K C)) (hb : Binds K d1 ["self", "house", "target"] []) : FnOk P w K mg base CX0 2 f fd ["tree", "u", "v"] (spIsRoad K C) := by
  refine F.ok scIsRoad (fun vs H Q E h => ?_) fun cdv A outer s H0 vs Q E hr h => ⟨_, PSs.nox (pss_one (ps_ret (pe_and (pe_cmpR op_ne (pv 1) (pv 2) (nomark _)) (pe_one (pe_cmpR op_eq (pe_meth (pv 0) cl hm G hr hb .nil pass0 (pa_cons (pv 1) (pa_cons (pv 2) pa_nil))) (pv 2) (nomark _)))))), ?_⟩
  · obtain ⟨x, n, ps, u, v, rfl, _⟩ := h
    rfl
  · obtain ⟨x, n, ps, u, v, rfl, hT, hJ, hu, hv, hQ⟩ := h
    by_cases c : u = v
    · subst c
      have z : nearB n ps u u = false := by simp [nearB]
      rw [z] at hQ
      exact s_ret (v := .bl false) (ev_andV (a := false) (b := false) (ev_is (ev_op (ev_var rfl) (ev_var rfl) (rv_ne rfl)) (by simp)) fun z => nomatch z) hQ
    · obtain ⟨dx, rt, l, us, ts, wl, h1, h2, h3, h4, h5, h6, h7⟩ := id hT
      refine s_ret (v := .bl (nearB n ps u v)) (ev_is (ev_andV (a := true) (b := nearB n ps u v) (ev_is (ev_op (ev_var rfl) (ev_var rfl) (rv_ne rfl)) (by
        have : V.int (u : Int) ≠ V.int (v : Int) := fun z => c (by have := V.int.inj z; omega)
        simp [this])) fun _ H1 e1 Q q => ?_) (by rw [Bool.true_and])) hQ
      refine ⟨_, rfl, x, dx, _, rfl, e1 _ _ h1, rfl, _, rfl, _, rfl, x, n, ps, u, v, rfl, hT.mono e1, hJ, hu, hv, fun p hs H2 e2 => ⟨_, rfl, rfl, ?_⟩⟩
      rw [← near_of hs c]
      exact q H2 e2
end
end Tr

set_option maxHeartbeats 4000000
/-! ### looksleft.trees: a house of the tree is let through; neighbours (any law's row: k04_runnings_deed_by_deed) -/
namespace Tr
open PySem PySem.Spec PyProof.Rows L2 LK Evl
abbrev sCheck : Stmt := top 27
abbrev sNear : Stmt := top 30
theorem scCheck : FnScope ["tree", "house"] ["tree", "house"] (defScope sCheck) := ⟨rfl, rfl, rfl, by decide +kernel, rfl, by decide +kernel, by decide +kernel⟩
abbrev nNear : List Str := ["tree", "house", "other"]
theorem scNear : FnScope nNear ["tree", "house"] (defScope sNear) := ⟨rfl, rfl, rfl, by decide +kernel, rfl, by decide +kernel, by decide +kernel⟩
def spCheck (K : PySem.W.Frag) (C : Addr) : Sp := fun vs H Q _ => ∃ (x : Addr) (n : Nat) (ps : List (Nat × Nat)) (h : Nat), vs = [.ref x, .int (h : Int)] ∧ TreeAt K C H x n ps ∧ h < n ∧ RetV .non H Q
def nearL (n : Nat) (ps : List (Nat × Nat)) (h : Nat) : List Nat := (List.range n).filter fun o => nearB n ps h o
def spNear (K : PySem.W.Frag) (C : Addr) : Sp := fun vs H Q _ => ∃ (x : Addr) (n : Nat) (ps : List (Nat × Nat)) (h : Nat), vs = [.ref x, .int (h : Int)] ∧ TreeAt K C H x n ps ∧ Joined n ps ∧ h < n ∧ n ≤ 100 ∧ RetL ((nearL n ps h).map natV) H Q
section
variable {P : Program} {w : World} {K : PySem.W.Frag} {mg : Str → Option Value} {base : Heap} {C f f1 f2 : Addr} {fd d1 d2 : FuncData}
theorem ok_check (F : FnP K "check_house" sCheck f fd) (G : FnOk P w K mg base CX0 3 f1 d1 ["self", "value"] (spHas K C)) (hb : Binds K d1 ["self", "value"] []) (hs : PySem.W.findIn K (.ref C) "__contains__" = some (some (.ref f1))) (hf : PySem.W.isFn K (.ref f1) = true) : FnOk P w K mg base CX0 4 f fd ["tree", "house"] (spCheck K C) := by
  refine F.ok scCheck (fun vs H Q E h => ?_) fun cdv A outer s H0 vs Q E hr h => ⟨_, PSs.nox (pss_one (ps_if (pt_cmpR (op_notInOwn G hr hb pass0 hs hf) (pv 1) (pv 0) (by rfl)) (pss_one ps_never) pss_nil)), ?_⟩
  · obtain ⟨x, n, ps, h, rfl, _⟩ := h
    rfl
  · obtain ⟨x, n, ps, h, rfl, hT, hh, hQ⟩ := h
    obtain ⟨dx, rt, l, us, ts, wl, h1, _⟩ := id hT
    have hbt : btwD 0 ((n : Int) - 1) (.int (h : Int)) = true := by simp [btwD, wholeD]; omega
    refine s_when (b := false) (et_test fun H1 e1 Q q => ?_) (fun hb => nomatch hb) fun _ H1 e1 => hQ H1 e1
    refine ⟨_, rfl, _, rfl, x, dx, _, rfl, e1 _ _ h1, x, n, ps, _, .int (h : Int), rfl, hT.mono e1, .int _, ?_⟩
    rw [hbt]
    exact fun H2 e2 => ⟨true, rfl, q H2 e2⟩
theorem ok_near (F : FnP K "neighbours" sNear f fd) (cl : Cls K C) (n1 : NoAttr K C "houses") (G1 : FnOk P w K mg base CX0 4 f1 d1 ["tree", "house"] (spCheck K C)) (k1 : Kd K mg "check_house" ["tree", "house"] f1 d1) (G2 : FnOk P w K mg base CX0 2 f2 d2 ["tree", "u", "v"] (spIsRoad K C)) (k2 : Kd K mg "is_road" ["tree", "u", "v"] f2 d2) (mr : mg "range" = none) :
    FnOk P w K mg base CX0 5 f fd ["tree", "house"] (spNear K C) := by
  refine F.ok scNear (fun vs H Q E h => ?_) fun cdv A outer s H0 vs Q E hr h => ⟨_, PSs.nox (
    pss_cons (ps_expr (pe_call G1 hr (by rfl) k1.m k1.k k1.b .nil pass0 (pa_cons (pv 0) (pa_cons (pv 1) pa_nil))))
    (pss_one (ps_ret (pe_lc (own := [("other", 2)]) (g := gName 2) rfl scNear.nd (pi_range1 (by rfl) mr (pa_cons (pe_fld (pv 0) rfl) pa_nil)) (blkOk_by (N := nNear) (sc := defScope sNear) (by decide +kernel)) (fun _ _ _ _ _ => pg_name (i := 2) scNear.nd rfl (.inl rfl))
      (fun _ _ _ _ _ => pts_one (pt_val (pe_call G2 (hr.mono (by decide)) (by rfl) k2.m k2.k k2.b .nil pass0 (pa_cons (pv 0) (pa_cons (pv 1) (pa_cons (pv 2) pa_nil)))))) (fun _ _ _ _ _ => pv 2))))), ?_⟩
  · obtain ⟨x, n, ps, h, rfl, _⟩ := h
    rfl
  · obtain ⟨x, n, ps, h, rfl, hT, hJ, hh, hn, hQ⟩ := h
    refine q_drop (ev_callP (v := .non) (ea_cons (ev_var rfl) (ea_cons (ev_var rfl) ea_nil)) fun H1 e1 Q q => ⟨x, n, ps, h, rfl, hT.mono e1, hh, q⟩) fun H1 e1 => ?_
    have hT1 := hT.mono e1
    obtain ⟨dx, rt, l, us, ts, wl, h1, _⟩ := id hT1
    refine s_retL (el_lcR1 (fun o => nearB n ps h o) (fun o => .int (o : Int)) (ea_cons (ev_fld cl n1 (ev_var rfl) h1 rfl) ea_nil) (by omega) (fun _ => rfl) (fun o H2 e2 ho => et_B (ev_callP (ea_cons (ev_var rfl) (ea_cons (ev_var rfl) (ea_cons (ev_var rfl) ea_nil))) fun H3 e3 Q q => ⟨x, n, ps, h, o, rfl, hT1.mono (e2.trans e3), hJ, hh, by omega, q⟩))
      (fun o H2 e2 ho hb => ev_var rfl)) fun p H2 np e2 hp => ?_
    exact hQ p H2 (fresh_back e1 np) (e1.trans e2) hp
end
end Tr

set_option maxHeartbeats 4000000
namespace LK
open PySem PySem.Spec PyProof.Rows L2 L2H
/-! ### a list made over range(n), while an exception may be handled -/
structure TurnW (P : Program) (w : World) (K : PySem.W.Frag) (tg : Expr) (J : It) (fp : List Addr) (it : Addr) (tn : Nat → Heap → Prop) : Prop where
  mem : it ∈ fp
  obj : ∀ i h, tn i h → ∀ b ∈ fp, ∃ o, h.get? b = some o ∧ ∀ v, o.data ≠ .cell v
  keep : ∀ i h h', tn i h → (∀ b ∈ fp, ∀ o, h.get? b = some o → h'.get? b = some o) → tn i h'
  item : ∀ (X : Cx), X.prog = P → X.w = w → X.K = K → Warm X → ∀ (i : Nat) (pins : List (Addr × Obj)) (s : Shared) (σ : L2.St) (H : Hp) (E : Value → Shared → Prop), Inv X pins σ H s → (∀ b ∈ fp, FpOk X pins H b) → tn i s.heap → J.go i H →
    wpAny (model P w) X.A (pyNext (.ref it)) (fun r s1 => ∃ u, r = some u ∧
      wpAny (model P w) X.A (letOwnedTupleGo tg (.ref it) u) (fun _ s2 => ∃ x H', Inv X pins σ H' s2 ∧ RelV x u ∧ J.yld i H x H' ∧ tn (i + 1) s2.heap ∧ ∀ b ∈ fp, H' b = none) E s1) E s
  done : ∀ (X : Cx), X.prog = P → X.w = w → X.K = K → Warm X → ∀ (i : Nat) (pins : List (Addr × Obj)) (s : Shared) (σ : L2.St) (H : Hp) (E : Value → Shared → Prop), Inv X pins σ H s → (∀ b ∈ fp, FpOk X pins H b) → tn i s.heap → J.stop i H →
    wpAny (model P w) X.A (pyNext (.ref it)) (fun r s1 => r = none ∧ Inv X pins σ H s1) E s
  self : ∀ (A : Around) (i : Nat) (s : Shared) (Q : Value → Shared → Prop) (E : Value → Shared → Prop), tn i s.heap → Q (.ref it) s → wpAny (model P w) A (pyIter (.ref it)) Q E s
theorem turnW_range {P : Program} {w : World} {K : PySem.W.Frag} {tg : Expr} (it : Addr) (lo : Int) (n : Nat) : TurnW P w K tg (Itr lo n) [it] it (fun i h => IsRangeIter h it (lo + (i : Nat) * 1) ((n : Int) - (i : Nat)) 1) where
  mem := by simp
  obj := fun i h st b hb => by
    obtain rfl : b = it := by simpa using hb
    exact ⟨_, st, fun v z => by
      have z' : Data.fields _ = Data.cell v := z
      cases z'⟩
  keep := fun i h h' st k => k it (by simp) _ st
  item := by
    intro X hP hw hK hc i pins s σ H E I hf st hg
    subst hP hw hK
    obtain ⟨f0, f1, f2, f3, f4, f5⟩ := hf it (by simp)
    have below : i < n := hg
    refine wpAny_pyNext_range_item st (by omega) fun h' st' sb => ?_
    have turned : IsRangeIter h' it (lo + ((i + 1 : Nat) : Int) * 1) ((n : Int) - ((i + 1 : Nat) : Int)) 1 := by
      have e1 : lo + ((i : Nat) : Int) * 1 + 1 = lo + ((i + 1 : Nat) : Int) * 1 := by omega
      have e2 : (n : Int) - ((i : Nat) : Int) - 1 = (n : Int) - ((i + 1 : Nat) : Int) := by omega
      rw [← e1, ← e2]
      exact st'
    have J : Inv X pins σ H { s with heap := h', toks := s.toks + 1 } := I.turned (fun b o hb e => (sb.2 b hb).trans e) f0 f1 f3 f4 f5
    refine ⟨_, rfl, go_of (s := { s with heap := h', toks := s.toks + 1 }) (n := "range_iterator") turned rfl rfl (by decide) ⟨.int (lo + i), H, J, ⟨s.toks, ?_⟩, ⟨rfl, rfl⟩, turned, fun b hb => (hf b hb).1⟩⟩
    rw [Int.mul_one]
  done := by
    intro X hP hw hK hc i pins s σ H E I hf st hg
    subst hP hw hK
    obtain ⟨f0, f1, f2, f3, f4, f5⟩ := hf it (by simp)
    have le : n ≤ i := hg
    rcases hc.at I with hn | ⟨x, oe, u, vs, h1, h2, h3, h4⟩
    · exact wpAny_pyNext_range_end hn st (by omega) fun h' eb => ⟨rfl, I.turned (t' := s.toks) (fun b o hb e => eb b o hb e) f0 f1 f3 f4 f5⟩
    · have at_ : s.heap.get? x = some oe := (show ObjOk X.prog X.w H s.heap x (.frz oe u) from I.hok x _ h2).1
      exact HotX.pyNext_range_end_hot ⟨h1, oe, vs, at_, h3, h4⟩ st (by omega) fun h' eb => ⟨rfl, I.turned (t' := s.toks) (fun b o _ e => eb b o e) f0 f1 f3 f4 f5⟩
  self := fun _ _ _ _ _ st h => wpAny_pyIter_rangeiter st h
def PIEW (X : Cx) (pins : List (Addr × Obj)) (σ : L2.St) (tg : Expr) (R : It → Hp → Prop) (itv : Value) (s2 : Shared) : Prop :=
  ∃ (it : Addr) (fp : List Addr) (tn : Nat → Heap → Prop) (J : It) (H' : Hp), itv = .ref it ∧ Inv X pins σ H' s2 ∧ TurnW X.prog X.w X.K tg J fp it tn ∧ tn 0 s2.heap ∧ (∀ b ∈ fp, FpOk X pins H' b) ∧ R J H'
structure PIW (X : Cx) (tg iter : Expr) (wi : TI) : Prop where
  run : ∀ (pins : List (Addr × Obj)) (s : Shared) (σ : L2.St) (H : Hp) (R : It → Hp → Prop), Inv X pins σ H s → wi σ H R →
    wpAny (model X.prog X.w) X.A (eval iter X.env) (fun v s1 => wpAny (model X.prog X.w) X.A (pyIter v) (PIEW X pins σ tg R) X.xe s1) X.xe s
section
variable {X : Cx} {tg : Expr}
theorem pi_range1W {a : Expr} {ta : TA} {p pos : Pos} (hm : X.mg "range" = none) (ha : PA X [a] ta) (hg : Gl X "range" := by rfl) (hs : starEach [a] X.env = [(false, eval a X.env)] := by rfl) : PIW X tg (.Call (.Name "range" p) [a] [] pos) (iRng1 ta) := by
  refine ⟨fun pins s σ H R I h => ?_⟩
  refine Call_ (ld_blt I hg hm boot_range (PyProof.Rows.callWith_type1 (thn (ha.run pos pins s σ H _ I h) fun us s1 ⟨vs, H1, I1, r1, q1⟩ => ?_) hs rfl))
  obtain ⟨j, rfl, q1, q2, q⟩ := q1
  obtain ⟨u, rfl, t, rfl⟩ := vals1 r1
  refine call_range_1 ?_
  refine wpAny_pyIter_range (IsRange.new ..) (small_one (by omega) (by omega) q1 q2) ?_
  generalize hL : s1.heap.push { cls := .type "range", data := .fields #[.int 0 s1.toks, .int j t, .int 1 (s1.toks + 1)] } = hp1
  have I2 : Inv X pins σ H1 { s1 with heap := hp1, toks := s1.toks + 1 + 1 } := by
    rw [← hL]
    exact I1.kept fun b o e => Heap.get?_push_of_some _ e
  refine ⟨hp1.objs.size, [hp1.objs.size], _, _, H1, rfl, I2.kept (t' := s1.toks + 1 + 1) fun b o e => Heap.get?_push_of_some _ e, turnW_range _ 0 j.toNat, ?_, fun b hb => ?_, q⟩
  · have e1 : (0 : Int) + ((0 : Nat) : Int) * 1 = 0 := by simp
    have e2 : ((j.toNat : Nat) : Int) - ((0 : Nat) : Int) = Builtin.Range.rangeSize 0 j 1 := by
      rw [rangeSize_one]
      split <;> omega
    show IsRangeIter _ _ ((0 : Int) + ((0 : Nat) : Int) * 1) (((j.toNat : Nat) : Int) - ((0 : Nat) : Int)) 1
    rw [e1, e2]
    exact Heap.get?_push_size _ rfl
  · obtain rfl : b = hp1.objs.size := by simpa using hb
    exact I2.fpOk (Nat.le_refl _) (I2.hok.fresh (Nat.le_refl _))
theorem Warm.blk {pins : List (Addr × Obj)} {σ : L2.St} {H : Hp} {s : Shared} {scope : Scope} {ce : Env} {fp : List Addr} (h : Warm X) (I : Inv X pins σ H s) : Warm (X.blk s H scope ce fp) := h.at I
/-- [elt for tg in iter if ..] as a value -/
theorem pe_lcW {elt iter : Expr} {ifs : List Expr} {scope : Scope} {own : List (Str × Nat)} {pos : Pos} {wi : TI} {g : TG} {tt : TT} {te : TE} (wm : Warm X) (hN : X.N.Nodup) (hi : PIW X tg iter wi) (ok : BlkOk X.N X.env.scope scope own)
    (hg : ∀ (s : Shared) (H : Hp) (C : Addr) (cl : List (Str × Addr)) (fp : List Addr), PG (X.blk s H scope (compEnvC scope cl C X.env) fp) tg g) (ht : ∀ (s : Shared) (H : Hp) (C : Addr) (cl : List (Str × Addr)) (fp : List Addr), PTs (X.blk s H scope (compEnvC scope cl C X.env) fp) ifs tt)
    (he : ∀ (s : Shared) (H : Hp) (C : Addr) (cl : List (Str × Addr)) (fp : List Addr), PE (X.blk s H scope (compEnvC scope cl C X.env) fp) elt te) (hs : ∀ x, foldedSetIterable iter X.env x = pure x := by intro _; rfl) :
    PE X (.ListComp elt [⟨tg, iter, ifs, 0⟩] scope pos) (tLc wi g tt te (own.map (·.2))) := by
  refine ⟨fun pins s σ H Q I h => ?_⟩
  rw [eval_ListComp]
  have frees : ∀ y ∈ scope.names, y.2 = .free → ∃ c, X.env.cells.lookup y.1 = some c := fun y hy e => (ok.free y hy e).elim (fun k => I.ok.has _ (.inl k)) fun k => I.ok.has _ (.inr k)
  refine wpAny_comprehension_free rfl hs (closure_ok frees) ok.kind (fun y hy e => by rw [ok.uniq y hy, e]) (thn (hi.run pins s σ H _ I h) fun xv s1 hx => thn hx fun itv s2 h2 => ?_)
  obtain ⟨it, fp, tn, J, H2, rfl, I2, T, st2, f2, q⟩ := h2
  refine wpAny_newObj_type (newEnv_comp ?_) (by show 0 ≤ sizeLine; decide)
  -- the new list, at D
  obtain ⟨D, hD⟩ : ∃ D, s2.heap.objs.size = D := ⟨_, rfl⟩
  rw [hD]
  have dn : H2 D = none := I2.hok.fresh (Nat.le_of_eq hD)
  obtain ⟨W, ⟨m0, w0⟩, turn⟩ := q D dn
  obtain ⟨s3, hs3⟩ : ∃ s3 : Shared, ({ s2 with heap := s2.heap.push { cls := .type "list", data := .seq ([] : List Value).toArray } } : Shared) = s3 := ⟨_, rfl⟩
  have p3 : s3.heap = s2.heap.push { cls := .type "list", data := .seq ([] : List Value).toArray } := by rw [← hs3]
  have I3 : Inv X pins σ (upd H2 D (.lst [])) s3 := by
    rw [← hs3]
    refine I2.laid (t' := s2.toks) (fun b o e => Heap.get?_push_of_some _ e) (Nat.le_of_eq hD) ⟨Nat.zero_le _, [], 0, .nil, ?_⟩
    rw [← hD]
    exact Heap.get?_push_size _ rfl
  have fp3 : ∀ b ∈ fp, FpOk X pins (upd H2 D (.lst [])) b ∧ b < s3.heap.objs.size := fun b hb => by
    obtain ⟨o, e, _⟩ := T.obj _ _ st2 b hb
    have lt := Heap.lt_size e
    refine ⟨⟨?_, (f2 b hb).2⟩, by rw [p3, Heap.size_push]; exact Nat.lt_succ_of_lt lt⟩
    rw [upd_ne (by rw [← hD]; exact Nat.ne_of_lt lt)]
    exact (f2 b hb).1
  have st3 : tn 0 s3.heap := T.keep _ _ _ st2 fun b _ o e => by rw [p3]; exact Heap.get?_push_of_some _ e
  have I4 := block_start I3 ok hN fp3
  have pg := hg s3 (upd H2 D (.lst [])) s3.heap.objs.size (cellsFrom (s3.heap.objs.size + 1) scope.names (cloFrom X.env.cells scope.names [])) fp
  have pt := ht s3 (upd H2 D (.lst [])) s3.heap.objs.size (cellsFrom (s3.heap.objs.size + 1) scope.names (cloFrom X.env.cells scope.names [])) fp
  have pe := he s3 (upd H2 D (.lst [])) s3.heap.objs.size (cellsFrom (s3.heap.objs.size + 1) scope.names (cloFrom X.env.cells scope.names [])) fp
  have nfp : ∀ b ∈ fp, (upd H2 D (.lst [])) b = none := fun b hb => (fp3 b hb).1.1
  rw [hs3]
  show codeAny _ _ (.compStart (.ListComp elt [⟨tg, iter, ifs, 0⟩] scope pos) 0 (.ref it) (.ref D) (compEnvC scope (cellsFrom (s3.heap.objs.size + 1) scope.names (cloFrom X.env.cells scope.names [])) s3.heap.objs.size X.env))
    (compPost (model X.prog X.w) X.A X.xe none (EP X pins σ Q) (.ref D) s3.heap.objs.size) { s3 with heap := pushCells (s3.heap.push { cls := .type "dict", data := .dict #[] }) scope.names }
  generalize hce : compEnvC scope (cellsFrom (s3.heap.objs.size + 1) scope.names (cloFrom X.env.cells scope.names [])) s3.heap.objs.size X.env = ce at I4 pg pt pe ⊢
  have cL : ce.locals = s3.heap.objs.size := by subst hce; rfl
  generalize hH3 : upd H2 D (.lst []) = H3 at I3 I4 pg pt pe w0 nfp fp3
  have wmB : Warm (X.blk s3 H3 scope ce fp) := wm.blk I3
  generalize hs4 : ({ s3 with heap := pushCells (s3.heap.push { cls := .type "dict", data := .dict #[] }) scope.names } : Shared) = s4 at I4 ⊢
  have st4 : tn 0 s4.heap := T.keep _ _ _ st3 fun b _ o e => by rw [← hs4]; exact pushCells_keeps _ _ _ _ (Heap.get?_push_of_some _ e)
  have okfp : ∀ {σ' : L2.St} {H' : Hp} {s' : Shared}, Inv (X.blk s3 H3 scope ce fp) [] σ' H' s' → (∀ b ∈ fp, H' b = none) → ∀ b ∈ fp, FpOk (X.blk s3 H3 scope ce fp) [] H' b := fun {σ' H' s'} I' hn b hb =>
    ⟨hn b hb, (I'.ok.exf b hb).1, I'.ok.exfs b hb, .inl hb, fun x c e => (I'.ok.exf b hb).2 x c e, fun p hp => absurd (show p ∈ ([] : List (Addr × Obj)) ++ [] from hp) (by simp)⟩
  have loop : codeAny (model X.prog X.w) X.A (.compLoop (.ListComp elt [⟨tg, iter, ifs, 0⟩] scope pos) 0 (.ref it) (.ref D) ce) (compPost (model X.prog X.w) X.A X.xe none (EP X pins σ Q) (.ref D) s3.heap.objs.size) s4 := by
    refine compLoop_any (fun n s' => ∃ i H', Inv (X.blk s3 H3 scope ce fp) [] (wipe σ (own.map (·.2))) H' s' ∧ tn i s'.heap ∧ (∀ b ∈ fp, H' b = none) ∧ W i n H') ?_ m0 ⟨0, H3, I4, st4, nfp, w0⟩
    rintro n s5 ⟨i, H5, I5, st5, n5, w5⟩
    rcases turn i n H5 w5 with ⟨stop, qq⟩ | ⟨go, Nx, hNx, step⟩
    · refine thnF (T.done (X.blk s3 H3 scope ce fp) rfl rfl rfl wmB i [] s5 _ H5 (fun _ _ => False) I5 (okfp I5 n5) st5 stop) fun r s6 hr6 => ?_
      obtain ⟨rfl, I6⟩ := hr6
      have I7 : Inv X pins σ H5 s6 := I3.call' (ch := fp) I6.os I6.base I6.hok I6.bare fun b hb => ⟨(fp3 b hb).1.2.2.2.1, (fp3 b hb).1.2.1, (fp3 b hb).1.2.2.2.2.1, (fp3 b hb).1.2.2.2.2.2⟩
      have nC : H5 s3.heap.objs.size = none := by
        have z : H5 ce.locals = none := I6.free
        rw [cL] at z
        exact z
      obtain ⟨m, hn, _⟩ := I6.loc
      have hn : s6.heap.Ns ce.locals m := hn
      rw [cL] at hn
      obtain ⟨g0, g1, g2, g3, g4, g5⟩ := I3.fpOk (Nat.le_refl _) nC
      exact ⟨m, hn, fun h'' sb => ⟨.ref D, H5, I7.turned (t' := s6.toks) (fun b o hb e => (sb.2 b hb).trans e) g0 g1 g3 g4 g5, rfl, qq⟩⟩
    · refine thnF (T.item (X.blk s3 H3 scope ce fp) rfl rfl rfl wmB i [] s5 _ H5 (fun _ _ => False) I5 (okfp I5 n5) st5 go) fun r s6 hr6 => ?_
      obtain ⟨u, rfl, h6⟩ := hr6
      refine thnF h6 fun _ s7 hr7 => ?_
      obtain ⟨x, H7, I7, r7, y7, st7, n7⟩ := hr7
      have I7' := I7.pinned (okfp I7 n7) (T.obj _ _ st7)
      refine thnF (pg.run _ s7 _ H7 x u _ I7' r7 (step x H7 y7)) fun _ s8 hr8 => ?_
      obtain ⟨σ8, H8, I8, hw8, q8⟩ := hr8
      refine thnF (pt.run _ s8 σ8 H8 _ I8 q8) fun b s9 hr9 => ?_
      obtain ⟨H9, I9, q9⟩ := hr9
      have next : ∀ {s' : Shared} {H' : Hp}, Inv (X.blk s3 H3 scope ce fp) ([] ++ pinsAt fp s7.heap) σ8 H' s' → Nx H' →
          ∃ m, m < n ∧ ∃ i H', Inv (X.blk s3 H3 scope ce fp) [] (wipe σ (own.map (·.2))) H' s' ∧ tn i s'.heap ∧ (∀ b ∈ fp, H' b = none) ∧ W i m H' := fun {s' H'} I' nx => by
        obtain ⟨m', hm, w'⟩ := hNx H' nx
        have stays : ∀ b ∈ fp, ∀ o, s7.heap.get? b = some o → s'.heap.get? b = some o ∧ H' b = none := fun b hb o e =>
          let z := I'.pin (b, o) (List.mem_append_right _ (List.mem_append_right _ (mem_pinsAt hb e)))
          ⟨z.1, z.2.1⟩
        have len8 : (wipe σ (own.map (·.2))).length = σ8.length := by rw [← hw8, wipe_length]
        refine ⟨m', hm, i + 1, H', (I'.unpinned (pins := [])).weak len8 (fun j v e => ?_), T.keep _ _ _ st7 fun b hb o e => (stays b hb o e).1, fun b hb => ?_, w'⟩
        · rw [← hw8] at e
          exact (wipe_some e).1
        · obtain ⟨o, e, _⟩ := T.obj _ _ st7 b hb
          exact (stays b hb o e).2
      cases b with
      | false =>
        rw [if_neg Bool.false_ne_true] at q9 ⊢
        exact next I9 q9
      | true =>
        rw [if_pos rfl] at q9 ⊢
        refine thnF (pe.run _ s9 σ8 H9 _ I9 q9) fun z s10 hr10 => ?_
        obtain ⟨yv, H10, I10, r10, acc, hD10, hz10, nx⟩ := hr10
        exact app_ok (X := X.blk s3 H3 scope ce fp) I10 hD10 hz10 r10 fun s11 I11 => next I11 nx
  exact codeAny_compStart_list loop (T.self X.A 0 _ _ _ st4 loop)
end
end LK

set_option maxHeartbeats 4000000
namespace LK
open PySem PySem.Spec PyProof.Rows L2 L2H
/-! ### errors without an __init__ of their own; errors raised; a def called with the error that a suite holds -/
section
variable {X : Cx} {C : Addr}
/-- C() -/
def tNew0 (C : Addr) : TE := fun _ H Q => ∀ a, H a = none → Q (.ref a) (upd H a (exV a C none))
theorem pe_new0 {x : Str} {p pos : Pos} (q : PySem.W.excIn X.K C He.veBase "ValueError.__new__" = true) (kC : PySem.W.keepIn X.K (.ref C) = true) (hm : X.mg x = some (.ref C)) (hg : Gl X x := by rfl)
    (hdb : (x == ("__debug__" : Str)) = false := by decide) : PE X (.Call (.Name x p) [] [] pos) (tNew0 C) := by
  refine ⟨fun pins s σ H Q I h => ?_⟩
  refine wpAny_Call_Name_kw (ld_glob I hg hm ?_ hdb)
  refine PySem.W.callWith_K0 I.kIn kC ?_
  obtain ⟨bm, N, nm, qn, bs, hdct, sn, sub, ab, col, dd, k0, k1, k2, k3, k5, mN, hC, hN, hni, T⟩ := exc_obj I.kIn q
  refine wpAny_call_exc_subT (rest := []) PySem.F.excBase_ValueError T hC hN hni (fun h' a hm => ?_) (Nat.zero_le _)
  have hn : H a = none := I.hok.gone hm.new
  obtain ⟨t, ht, _, _⟩ := hm.there
  exact ⟨.ref a, upd H a (exV a C none), I.laidN hm.keeps hm.new hn (exV_ok ht rfl rfl rfl), rfl, h a hn⟩
theorem pmk_new0 {x : Str} {p pos : Pos} (q : PySem.W.excIn X.K C He.veBase "ValueError.__new__" = true) (kC : PySem.W.keepIn X.K (.ref C) = true) (r : Raises X (.ref C)) (hm : X.mg x = some (.ref C)) (hg : Gl X x := by rfl)
    (hdb : (x == ("__debug__" : Str)) = false := by decide) : L2N.PMk X (.Call (.Name x p) [] [] pos) (fun _ H Q => Q (.ref C) none H) := by
  intro pins s σ H Q I h
  refine wpAny_Call_Name_kw (ld_glob I hg hm ?_ hdb)
  refine PySem.W.callWith_K0 I.kIn kC ?_
  obtain ⟨bm, N, nm, qn, bs, hdct, sn, sub, ab, col, dd, k0, k1, k2, k3, k5, mN, hC, hN, hni, T⟩ := exc_obj I.kIn q
  refine wpAny_call_exc_subT (rest := []) PySem.F.excBase_ValueError T hC hN hni (fun h' a hm => ?_) (Nat.zero_le _)
  exact L2N.mk_of I hm r h (I.hok.gone hm.new)
/-- C(us, kw), to be raised -/
theorem run_newM {L fI : Addr} {fs : List Str} {fd : FuncData} {pins : List (Addr × Obj)} {σ : L2.St} {H : Hp} {s : Shared} {Q : XK} {us : List Value} {kw : List (Str × Value)} {ws : List V} {zs : List Value} (T : EK X.K C L)
    (F : InitAt X.prog X.w X.K X.mg X.base C fs fI fd) (hr : Room 3 X.A) (hb : ∀ (s : Shared) (self : Value), X.K.In s.heap → BindsTo s fd ⟨self :: us, kw⟩ ((("self" : Str) :: fs).zip (self :: zs))) (I : Inv X pins σ H s) (r : Vals ws zs) (hu : us.length ≤ sizeLine)
    (hl : ws.length = fs.length) (h : ∀ dx, H dx = none → Q (.ref C) (some dx) (upd H dx (.xd (fs.zip ws).reverse))) :
    wpAny (model X.prog X.w) X.A (call (.ref C) us kw) (L2N.MkP X pins σ Q) X.xe s := by
  obtain ⟨nm, q, N, bs, bm, sn, sub, ab, col, dd, k0, k1, k2, k3, k5, hC, hbm⟩ := T.oex.cls
  obtain ⟨hp, g, dr, tk, os⟩ := s
  have hsz : hp.objs.size ≤ hp.objs.size + 1 := Nat.le_succ _
  have hn : H (hp.objs.size + 1) = none := I.hok.fresh hsz
  have kk : ∀ b o, hp.get? b = some o → ((hp.push (PySem.W.kdv_tup us)).push (PySem.HandSPX.excO C hp.objs.size)).get? b = some o := fun b o e => Heap.get?_push_of_some _ (Heap.get?_push_of_some _ e)
  have hget : ((hp.push (PySem.W.kdv_tup us)).push (PySem.HandSPX.excO C hp.objs.size)).get? (hp.objs.size + 1) = some (PySem.HandSPX.excO C hp.objs.size) := by heap_get
  have I2 : Inv X pins σ (upd H (hp.objs.size + 1) (exo (hp.objs.size + 1) C none)) ⟨(hp.push (PySem.W.kdv_tup us)).push (PySem.HandSPX.excO C hp.objs.size), g, dr, tk, os⟩ :=
    I.laid (t' := tk) (a := hp.objs.size + 1) (o := exo (hp.objs.size + 1) C none) (h' := (hp.push (PySem.W.kdv_tup us)).push (PySem.HandSPX.excO C hp.objs.size)) kk hsz (exo_ok hget)
  have r2 : Vals (V.ref (hp.objs.size + 1) :: ws) (Value.ref (hp.objs.size + 1) :: zs) := .cons rfl r
  have hq : spIni C fs (V.ref (hp.objs.size + 1) :: ws) (upd H (hp.objs.size + 1) (exo (hp.objs.size + 1) C none))
      (fun v H2 => v = .non ∧ ∃ dx, H dx = none ∧ dx ≠ hp.objs.size + 1 ∧ H2 = upd (upd (upd H (hp.objs.size + 1) (exo (hp.objs.size + 1) C none)) dx (exd dx (fs.zip ws).reverse)) (hp.objs.size + 1) (exo (hp.objs.size + 1) C (some dx))) (fun _ _ _ => False) :=
    ⟨_, ws, rfl, hl, upd_same, fun dx n ne => ⟨rfl, dx, by rw [upd_ne ne] at n; exact n, ne, rfl⟩⟩
  refine wpAny_call (PySem.LKx.own_called PySem.F.excBase_ValueError (fun Y => PySem.HandSPX.refsVE_contains Y bm hbm) (I.kIn _ _ hC) (PySem.W.looks_findIn I.kIn F.at_) (fun self => PySem.W.bind_fn I.kIn self F.ty) hu
    (codeAny_mono (F.ok.run _ X.stack _ _ ⟨Value.ref (hp.objs.size + 1) :: us, kw⟩ (Value.ref (hp.objs.size + 1) :: zs) _ _ (fun _ _ _ => False) (hr.make C us kw) (I2.env0.make C us kw) (hb _ _ I2.kIn) r2 hq) fun r s' hq' => ?_))
  cases r with
  | error er => exact False.elim hq'
  | ok fl =>
    cases fl with
    | ret u =>
      obtain ⟨v, H2, os2, bare2, un2, hok2, rv, ev, dx, n1, n2, e3⟩ := hq'
      subst ev
      obtain ⟨h2, g2, d2, t2, os'⟩ := s'
      have ed : H2 dx = some (exd dx (fs.zip ws).reverse) := by rw [e3, upd_ne n2, upd_same]
      have ea : H2 (hp.objs.size + 1) = some (exo (hp.objs.size + 1) C (some dx)) := by rw [e3, upd_same]
      obtain ⟨t0, G, J, kG, ge, hoe, na⟩ := mk_end0 (d2 := d2) (t2 := t2) I hsz kk un2 hok2 os2 bare2 ea ed n1
      have eH : upd (del H2 (hp.objs.size + 1)) dx (.xd (fs.zip ws).reverse) = upd H dx (.xd (fs.zip ws).reverse) := by
        funext b
        by_cases e2 : b = dx
        · rw [e2, upd_same, upd_same]
        · rw [upd_ne e2, upd_ne e2]
          by_cases e1 : b = hp.objs.size + 1
          · rw [e1, del_same, hn]
          · rw [del_ne e1, e3, upd_ne e1, upd_ne e2, upd_ne e1]
      rw [eH] at J na
      exact ⟨rv, hp.objs.size + 1, _, _, ⟨G, g2, d2, t2, os'⟩, _, .ref C, some dx, rfl, J, kG, ge, hoe, ⟨rfl, rfl, fun vs hv => by cases hv; rfl⟩, rfl, rfl, na, rfl, bare2, raises_own T.oex.exC T.oex.tyC, h dx n1⟩
    | next => exact False.elim hq'
    | brk => exact False.elim hq'
    | cont => exact False.elim hq'
def tMkE (C : Addr) (fs : List Str) (ord : List V → List V) (ta : TA) : L2.St → Hp → XK → Prop := fun σ H Q => ta σ H fun vs H1 => vs.length ≤ 1000 ∧ vs.length = fs.length ∧ ∀ dx, H1 dx = none → Q (.ref C) (some dx) (upd H1 dx (.xd (fs.zip (ord vs)).reverse))
theorem pmk_newE {L fI : Addr} {fs : List Str} {fd : FuncData} {x : Str} {p pos : Pos} {e : Expr} {es : List Expr} {ta : TA} (T : EK X.K C L) (F : InitAt X.prog X.w X.K X.mg X.base C fs fI fd) (hr : Room 3 X.A) (hb : Binds X.K fd (("self" : Str) :: fs) [])
    (hm : X.mg x = some (.ref C)) (ha : PA X (e :: es) ta) (hg : Gl X x := by rfl)
    (hdb : (x == ("__debug__" : Str)) = false := by decide) (he : starEach (e :: es) X.env = (false, eval e X.env) :: starEach es X.env := by rfl) (hpl : (backTo pos (starEach es X.env)).any (·.1) = false := by rfl) :
    L2N.PMk X (.Call (.Name x p) (e :: es) [] pos) (tMkE C fs id ta) := by
  intro pins s σ H Q I h
  refine wpAny_Call_Name_kw (ld_glob I hg hm ?_ hdb)
  refine PySem.W.callWith_K (h₀ := X.base) I.ok.mod.kin T.oex.kC (thn (ha.run pos pins s σ H _ I h) fun us s1 ⟨vs, H1, I1, r1, hz, hl, q1⟩ => ⟨I1.kIn, ?_⟩) he hpl
  have hl2 : us.length = fs.length := r1.length.symm.trans hl
  refine run_newM (us := us) T F hr (fun s self Y => ?_) I1 r1 (by rw [← r1.length, sizeLine_eq]; omega) hl q1
  have b := hb s (self :: us) Y (by simp [hl2])
  rw [List.append_nil] at b
  exact b
theorem pmk_newEK0 {L fI : Addr} {fs ks : List Str} {fd : FuncData} {x : Str} {p pos : Pos} {kws : List Keyword} {ta : TA} {ord : List V → List V} {ordU : List Value → List Value} (T : EK X.K C L) (F : InitAt X.prog X.w X.K X.mg X.base C fs fI fd) (hr : Room 3 X.A)
    (hm : X.mg x = some (.ref C)) (hkw : PK X kws ta) (hks : (backToKw pos (keywordEach kws X.env)).filterMap (·.1) = ks := by rfl) (hn : ks.length = fs.length)
    (hb : ∀ (s : Shared) (self : Value) (us : List Value), X.K.In s.heap → us.length = ks.length → BindsTo s fd ⟨[self], ks.zip us⟩ ((("self" : Str) :: fs).zip (self :: ordU us)))
    (hv : ∀ (vs : List V) (us : List Value), vs.length = ks.length → Vals vs us → Vals (ord vs) (ordU us)) (ho : ∀ vs : List V, vs.length = ks.length → (ord vs).length = vs.length) (hg : Gl X x := by rfl)
    (hall : (backToKw pos (keywordEach kws X.env)).all (·.1.isSome) = true := by rfl) (hdb : (x == ("__debug__" : Str)) = false := by decide)
    (hpl : ((backTo pos (starEach [] X.env)).any (·.1) || (backToKw pos (keywordEach kws X.env)).any (·.1.isNone)) = false := by rfl) :
    L2N.PMk X (.Call (.Name x p) [] kws pos) (tMkE C fs ord ta) := by
  intro pins s σ H Q I h
  refine wpAny_Call_Name_kw (ld_glob I hg hm ?_ hdb)
  refine PySem.W.callWith_KW0 (h₀ := X.base) I.ok.mod.kin T.oex.kC hall (thn (hkw.run pos pins s σ H _ I h) fun us s1 ⟨vs, H1, I1, r1, _, hl, q1⟩ => ⟨I1.kIn, ?_⟩) hpl
  rw [hks]
  have hl1 : vs.length = ks.length := hl.trans hn.symm
  have hl2 : us.length = ks.length := r1.length.symm.trans hl1
  exact run_newM (us := []) T F hr (fun s self Y => hb s self us Y hl2) I1 (hv vs us hl1 r1) (Nat.zero_le _) ((ho vs hl1).trans hl) q1
end
/-- the base without one object -/
theorem base_less {P : Program} {w : World} {K : PySem.W.Frag} {mg : Str → Option Value} {base : Heap} {A : Around} {outer : List Env} {s : Shared} {H : Hp} {a : Addr} {oe : Obj} {vs : Array Value} {u : HO} (e0 : Env0 P w K mg base A outer s H) (hk : K.lookup a = none) (ha : s.heap.get? a = some oe) (hd : oe.data = .fields vs) (na : H a = none) (nf : a ∉ frs outer)
    (hu : ObjOk P w (upd H a (.frz oe u)) s.heap a u) : Env0 P w K mg (PySem.W.hideAll base [a]) A outer s (upd H a (.frz oe u)) := by
  have k : ∀ {b : Addr} {o : Obj}, base.get? b = some o → b ≠ a → (PySem.W.hideAll base [a]).get? b = some o := fun {b o} e n => PySem.W.hideAll_get _ e (by simp [n])
  have ns : ∀ {b : Addr} {m : Str → Option Value}, base.Ns b m → (PySem.W.hideAll base [a]).Ns b m := by
    rintro b m ⟨o, es, ep, e, d, r⟩
    refine ⟨o, es, ep, k e fun z => ?_, d, r⟩
    have z2 := (e0.bs b o e).1
    rw [z, ha] at z2
    have z3 := Option.some.inj z2
    subst z3
    rw [hd] at d
    cases d
  have back : ∀ {b : Addr} {o : Obj}, (PySem.W.hideAll base [a]).get? b = some o → b ≠ a ∧ base.get? b = some o := fun {b o} e => by
    refine ⟨fun z => ?_, PySem.W.of_hideAll _ e⟩
    rw [z, PySem.W.hideAll_none [a] (by simp)] at e
    cases e
  refine ⟨e0.frames, ⟨(fun b o e => k (e0.mod.kin b o e) (fun z => by rw [z, hk] at e; cases e)), ns e0.mod.glob, ?_, ?_⟩, fun b o e => ?_, by rw [PySem.W.hideAll_size]; exact e0.bsz, ?_, fun b hb => ?_, ?_, e0.bare⟩
  · obtain ⟨mb, h1, h2⟩ := e0.mod.blt
    exact ⟨mb, ns h1, h2⟩
  · obtain ⟨mc, h1, h2⟩ := e0.mod.nolimit
    exact ⟨mc, ns h1, h2⟩
  · obtain ⟨n, e'⟩ := back e
    obtain ⟨h1, h2⟩ := e0.bs b o e'
    exact ⟨h1, by rw [upd_ne n]; exact h2⟩
  · exact funFrames_none e0.funs fun L hL => by
      cases q : (PySem.W.hideAll base [a]).get? L with
      | none => rfl
      | some o =>
        have z := (e0.funs.mem hL).1
        rw [PySem.W.of_hideAll _ q] at z
        cases z
  · rw [upd_ne (fun z => nf (by rw [← z]; exact hb))]
    exact e0.frf b hb
  · intro b o e
    by_cases hb : b = a
    · subst hb
      rw [upd_same] at e
      cases e
      exact ⟨ha, hu⟩
    · rw [upd_ne hb] at e
      exact (e0.hok b o e).stay (fun _ _ _ q => q) (fun c q => by rw [upd_ne (ne_of_none q na)]; exact q) fun c xs q => by rw [upd_ne (ne_of_none q na)]; exact q
/-- f(e, ..) in a suite: meanwhile the exception that the suite holds is tracked -/
def tCallX (a C : Addr) (oe : Obj) (d : Option Addr) (sp : Sp) (t : TA) : TE := fun σ H Q => t σ H fun vs H1 => sp vs (upd H1 a (.frz oe (exV a C d))) (fun v H2 => Q v (delH H2 a)) E0
theorem pe_callX {X : Cx} {a C : Addr} {oe : Obj} {d : Option Addr} {pn : List (Addr × Obj)} {k : Nat} {f : Addr} {fd : FuncData} {ps : List Str} {sp : Sp} {x : Str} {p pos : Pos} {e : Expr} {es : List Expr} {t : TA} (z : L2N.Zn (.ref C) d oe) (hf : ∃ vs, oe.data = .fields vs)
    (noK : ∀ b o, X.K.lookup b = some o → o.cls ≠ .ref C) (cool : X.A.handled = none) (F : ∀ base, FnW X.prog X.w X.K X.mg base k f fd ps sp) (hr : RoomH k X.A) (hm : X.mg x = some (.ref f)) (hk : PySem.W.keepIn X.K (.ref f) = true) (hb : Binds X.K fd ps [])
    (ha : PA (X.suite a ((a, oe) :: pn)) (e :: es) t) (hg : Gl (X.suite a ((a, oe) :: pn)) x := by rfl)
    (hdb : (x == ("__debug__" : Str)) = false := by decide) (he : starEach (e :: es) X.env = (false, eval e X.env) :: starEach es X.env := by rfl) (hpl : (backTo pos (starEach es X.env)).any (·.1) = false := by rfl) :
    PE (X.suite a ((a, oe) :: pn)) (.Call (.Name x p) (e :: es) [] pos) (tCallX a C oe d sp t) := by
  refine ⟨fun pins s σ H Q I h => ?_⟩
  refine wpAny_Call_Name_kw (ld_glob I hg hm ?_ hdb)
  refine PySem.W.callWith_K (h₀ := X.base) I.ok.mod.kin hk (thn (ha.run pos pins s σ H _ I h) fun us s1 ⟨vs, H1, I1, r, q⟩ => ⟨I1.kIn, ?_⟩) he hpl
  obtain ⟨vsE, hd⟩ := hf
  obtain ⟨hget, na, nL, nF, _⟩ := I1.pin (a, oe) (List.mem_append_left _ List.mem_cons_self)
  have nS : a ∉ frs X.stack := fun hmm => (List.mem_cons.mp (I1.stkSub a hmm)).elim nL nF
  have lk : X.K.lookup a = none := by
    cases q : X.K.lookup a with
    | none => rfl
    | some o =>
      have z2 := I1.kIn a o q
      rw [hget] at z2
      exact absurd (by rw [← Option.some.inj z2]; exact z.1) (noK a o q)
  have u : ObjOk X.prog X.w (upd H1 a (.frz oe (exV a C d))) s1.heap a (exV a C d) := exV_ok hget z.1 z.2.1 hd
  have e0 := base_less (u := exV a C d) I1.env0 lk hget hd na nS u
  have hl : us.length = ps.length := by rw [← r.length]; exact F X.base |>.len _ _ _ _ q
  have b := hb s1 us I1.kIn (by rw [List.append_nil]; exact hl)
  rw [List.append_nil] at b
  have wm : WarmA (X.suite a ((a, oe) :: pn)).A (upd H1 a (.frz oe (exV a C d))) := .inr ⟨a, oe, _, vsE, rfl, upd_same, hd, z.2.2 vsE hd⟩
  refine wpAny_call (codeAny_mono ((F (PySem.W.hideAll X.base [a])).run _ X.stack s1 _ us vs _ (show RoomH k (X.suite a ((a, oe) :: pn)).A from ⟨hr.dp, hr.un⟩) wm e0 b r q) fun r' s' hq => ?_)
  cases r' with
  | error e => exact False.elim hq
  | ok fl =>
    cases fl with
    | ret v' =>
      obtain ⟨v, H2, os, bare, un, hok, rv, q2⟩ := hq
      have fz : H2 a = some (.frz oe (exV a C d)) := un.frzs a oe _ upd_same
      have ne2 : ∀ {c : Addr} {o : HO}, H2 c = some o → (∀ oe u, o ≠ .frz oe u) → c ≠ a := fun {c o} e n z => by
        rw [z, fz] at e
        exact n _ _ (Option.some.inj e).symm
      have ne1 : ∀ {c : Addr} {o : HO}, H1 c = some o → c ≠ a := fun {c o} e => ne_of_none e na
      have J : Inv (X.suite a ((a, oe) :: pn)) pins σ (delH H2 a) s' := by
        refine I1.call' (ch := []) os ⟨fun b o e n hb _ => ?_, fun b o e n hb _ => ?_, fun b o e n _ => ?_, fun b o e _ => un.there b o e (by simp), fun b xs e => ?_, fun b o u e => ?_, fun b ps e => ?_⟩ (fun b o e => ?_) bare fun b z => absurd z (by simp)
        · by_cases hba : b = a
          · have z2 := (hok a _ fz).1
            rw [hba] at e ⊢
            rw [hget] at e
            rw [← Option.some.inj e]
            exact z2
          · exact un.keep b o e (by rw [upd_ne hba]; exact n) hb (by simp)
        · have hba : b ≠ a := fun z => nS (by rw [← z]; exact hb)
          exact un.slot b o e (by rw [upd_ne hba]; exact n) hb (by simp)
        · by_cases hba : b = a
          · rw [hba]
            exact delH_same
          · rw [delH_ne hba]
            exact un.free b o e (by rw [upd_ne hba]; exact n) (by simp)
        · have n := ne1 e
          rw [delH_ne n]
          exact un.tups b xs (by rw [upd_ne n]; exact e)
        · have n := ne1 e
          rw [delH_ne n]
          exact un.frzs b o u (by rw [upd_ne n]; exact e)
        · have n := ne1 e
          rw [delH_ne n]
          exact un.tbls b ps (by rw [upd_ne n]; exact e)
        · by_cases hba : b = a
          · rw [hba, delH_same] at e
            cases e
          · rw [delH_ne hba] at e
            exact (hok b o e).stay (fun _ _ _ q => q) (fun c q => by rw [delH_ne (ne2 q fun _ _ z => by cases z)]; exact q) fun c xs q => by rw [delH_ne (ne2 q fun _ _ z => by cases z)]; exact q
      exact ⟨v, delH H2 a, J, rv, q2⟩
    | next => exact False.elim hq
    | brk => exact False.elim hq
    | cont => exact False.elim hq
end LK

set_option maxHeartbeats 4000000
/-! ### looksleft.trees: what is no house is refused (any law's row: k04_runnings_deed_by_deed) -/
namespace Tr
open PySem PySem.Spec PyProof.Rows L2 LK Evl
/-- what is known of a class of errors with one attribute -/
structure Er1 (P : Program) (w : World) (K : PySem.W.Frag) (mg : Str → Option Value) (base : Heap) (x f : Str) (C : Addr) : Prop where
  m : mg x = some (.ref C)
  ek : ∃ L, EK K C L
  ini : ∃ fI fd, InitAt P w K mg base C [f] fI fd ∧ Binds K fd ["self", f] []
/-- either a house, and nothing happens, or InvalidHouse of the very value -/
def spCheckX (K : PySem.W.Frag) (C CI : Addr) : Sp := fun vs H Q E => ∃ (x : Addr) (n : Nat) (ps : List (Nat × Nat)) (v : V) (d : PyData), vs = [.ref x, v] ∧ TreeAt K C H x n ps ∧ Dq H v d ∧
  (btwD 0 ((n : Int) - 1) d = true → RetV .non H Q) ∧ (btwD 0 ((n : Int) - 1) d = false → ∀ dx H2, Ex H H2 → H dx = none → H2 dx = some (.xd [("given", v)]) → E (.ref CI) (some dx) H2)
section
variable {P : Program} {w : World} {K : PySem.W.Frag} {mg : Str → Option Value} {base : Heap} {C CI f f1 f2 : Addr} {fd d1 d2 : FuncData}
theorem ok_checkX (F : FnP K "check_house" sCheck f fd) (G : FnOk P w K mg base CX0 3 f1 d1 ["self", "value"] (spHas K C)) (hb : Binds K d1 ["self", "value"] []) (hs : PySem.W.findIn K (.ref C) "__contains__" = some (some (.ref f1))) (hf : PySem.W.isFn K (.ref f1) = true) (eI : Er1 P w K mg base "InvalidHouse" "given" CI) :
    FnOk P w K mg base (L2N.CX P w) 4 f fd ["tree", "house"] (spCheckX K C CI) := by
  obtain ⟨L, T⟩ := eI.ek
  obtain ⟨fI, dI, hI, bI⟩ := eI.ini
  refine F.ok scCheck (fun vs H Q E h => ?_) fun cdv A outer s H0 vs Q E hr h => ⟨_, pss_one (ps_if (pt_cmpR (op_notInOwn (E := E0) G hr hb pass0 hs hf) (pv 1) (pv 0) (by rfl)) (pss_one (L2N.ps_raise rfl (L2N.takes_of rfl rfl rfl rfl) (pmk_newE T hI hr bI eI.m (pa_cons (pv 1) pa_nil)))) pss_nil), ?_⟩
  · obtain ⟨x, n, ps, v, d, rfl, _⟩ := h
    rfl
  · obtain ⟨x, n, ps, v, d, rfl, hT, hd, hY, hN⟩ := h
    obtain ⟨dx, rt, l, us, ts, wl, h1, _⟩ := id hT
    refine s_when (b := !btwD 0 ((n : Int) - 1) d) (et_test fun H1 e1 Q q => ?_) (fun hb H1 e1 => ?_) fun hb H1 e1 => ?_
    · exact ⟨_, rfl, _, rfl, x, dx, _, rfl, e1 _ _ h1, x, n, ps, _, d, rfl, hT.mono e1, Dq.mono e1 hd, fun H2 e2 => ⟨_, rfl, q H2 e2⟩⟩
    · refine ⟨_, rfl, Nat.le_of_ble_eq_true rfl, rfl, fun dx nd => ?_⟩
      have hb2 : btwD 0 ((n : Int) - 1) d = false := by simpa using hb
      exact hN hb2 dx _ (e1.trans (Ex.new nd)) (fresh_back e1 nd) upd_same
    · have hb2 : btwD 0 ((n : Int) - 1) d = true := by simpa using hb
      exact hY hb2 H1 e1
end
end Tr

set_option maxHeartbeats 4000000
/-! ### looksleft.trees: check_road (any law's row: k04_runnings_deed_by_deed) -/
namespace Tr
open PySem PySem.Spec PyProof.Rows L2 LK Evl
structure Er2 (P : Program) (w : World) (K : PySem.W.Frag) (mg : Str → Option Value) (base : Heap) (x f g : Str) (C : Addr) : Prop where
  m : mg x = some (.ref C)
  ek : ∃ L, EK K C L
  ini : ∃ fI fd, InitAt P w K mg base C [f, g] fI fd ∧ Binds K fd ["self", f, g] []
abbrev sChkR : Stmt := top 29
theorem scChkR : FnScope ["tree", "u", "v"] ["tree", "u", "v"] (defScope sChkR) := ⟨rfl, rfl, rfl, by decide +kernel, rfl, by decide +kernel, by decide +kernel⟩
/-- an error with one attribute, with two, leaves -/
def Out1 (C : Addr) (f : Str) (v : V) (H : Hp) (E : XK) : Prop := ∀ dx H2, Ex H H2 → H dx = none → H2 dx = some (.xd [(f, v)]) → E (.ref C) (some dx) H2
def Out2 (C : Addr) (f g : Str) (v u : V) (H : Hp) (E : XK) : Prop := ∀ dx H2, Ex H H2 → H dx = none → H2 dx = some (.xd [(g, u), (f, v)]) → E (.ref C) (some dx) H2
theorem Out1.mono {C : Addr} {f : Str} {v : V} {H H' : Hp} {E : XK} (e : Ex H H') (h : Out1 C f v H E) : Out1 C f v H' E := fun dx H2 e2 n z => h dx H2 (e.trans e2) (fresh_back e n) z
def houseD (n : Nat) (d : PyData) : Bool := btwD 0 ((n : Int) - 1) d
def spChkR (K : PySem.W.Frag) (C CI CR : Addr) : Sp := fun vs H Q E => ∃ (x : Addr) (n : Nat) (ps : List (Nat × Nat)) (a b : V) (d e : PyData), vs = [.ref x, a, b] ∧ TreeAt K C H x n ps ∧ Joined n ps ∧ Dq H a d ∧ Dq H b e ∧
  (houseD n d = false → Out1 CI "given" a H E) ∧ (houseD n d = true → houseD n e = false → Out1 CI "given" b H E) ∧
  ∀ u v : Nat, d = .int (u : Int) → e = .int (v : Int) → u < n → v < n → (nearB n ps u v = true → RetV .non H Q) ∧ (nearB n ps u v = false → Out2 CR "u" "v" a b H E)
theorem house_of {n : Nat} {d : PyData} (h : houseD n d = true) : ∃ u : Nat, d = .int (u : Int) ∧ u < n := by
  unfold houseD btwD at h
  cases d with
  | int i =>
    simp [wholeD] at h
    obtain ⟨k, rfl⟩ := Int.eq_ofNat_of_zero_le h.1
    exact ⟨k, rfl, by omega⟩
  | _ => simp [wholeD] at h
section
variable {P : Program} {w : World} {K : PySem.W.Frag} {mg : Str → Option Value} {base : Heap} {C CI CR f f1 f2 : Addr} {fd d1 d2 : FuncData}
theorem ok_chkR (F : FnP K "check_road" sChkR f fd) (G1 : FnOk P w K mg base (L2N.CX P w) 4 f1 d1 ["tree", "house"] (spCheckX K C CI)) (k1 : Kd K mg "check_house" ["tree", "house"] f1 d1) (G2 : FnOk P w K mg base CX0 2 f2 d2 ["tree", "u", "v"] (spIsRoad K C)) (k2 : Kd K mg "is_road" ["tree", "u", "v"] f2 d2) (eR : Er2 P w K mg base "NotARoad" "u" "v" CR) :
    FnOk P w K mg base (L2N.CX P w) 5 f fd ["tree", "u", "v"] (spChkR K C CI CR) := by
  obtain ⟨L, T⟩ := eR.ek
  obtain ⟨fI, dI, hI, bI⟩ := eR.ini
  refine F.ok scChkR (fun vs H Q E h => ?_) fun cdv A outer s H0 vs Q E hr h => ⟨_,
    pss_cons (ps_expr (pe_call G1 hr (by rfl) k1.m k1.k k1.b .nil (L2N.passes_call (L2N.takes_of rfl rfl rfl rfl) fun _ _ _ _ h => h) (pa_cons (pv 0) (pa_cons (pv 1) pa_nil))))
    (pss_cons (ps_expr (pe_call G1 hr (by rfl) k1.m k1.k k1.b .nil (L2N.passes_call (L2N.takes_of rfl rfl rfl rfl) fun _ _ _ _ h => h) (pa_cons (pv 0) (pa_cons (pv 2) pa_nil))))
    (pss_one (ps_if (pt_not (pt_val (pe_call G2 (hr.mono (by decide)) (by rfl) k2.m k2.k k2.b .nil pass0 (pa_cons (pv 0) (pa_cons (pv 1) (pa_cons (pv 2) pa_nil)))))) (pss_one (L2N.ps_raise rfl (L2N.takes_of rfl rfl rfl rfl) (pmk_newE T hI (hr.mono (by decide)) bI eR.m (pa_cons (pv 1) (pa_cons (pv 2) pa_nil))))) pss_nil))), ?_⟩
  · obtain ⟨x, n, ps, a, b, d, e, rfl, _⟩ := h
    rfl
  · obtain ⟨x, n, ps, a, b, d, e, rfl, hT, hJ, ha, hb, hN1, hN2, hOk⟩ := h
    refine ⟨_, rfl, _, rfl, x, n, ps, a, d, rfl, hT, ha, fun c1 H1 e1 => ?_, fun c1 => hN1 c1⟩
    refine ⟨_, rfl, _, rfl, x, n, ps, b, e, rfl, hT.mono e1, Dq.mono e1 hb, fun c2 H2 e2 => ?_, fun c2 => (hN2 c1 c2).mono e1⟩
    obtain ⟨u, rfl, hu⟩ := house_of c1
    obtain ⟨v, rfl, hv⟩ := house_of c2
    cases ha
    cases hb
    obtain ⟨hY, hR⟩ := hOk u v rfl rfl hu hv
    have e12 := e1.trans e2
    dsimp only
    refine s_when (b := !nearB n ps u v) (et_not (et_B (ev_callP (ea_cons (ev_var rfl) (ea_cons (ev_var rfl) (ea_cons (ev_var rfl) ea_nil))) fun H3 e3 Q q => ⟨x, n, ps, u, v, rfl, hT.mono (e12.trans e3), hJ, hu, hv, q⟩))) (fun z H3 e3 => ?_) fun z H3 e3 => ?_
    · have z2 : nearB n ps u v = false := by simpa using z
      exact ⟨_, rfl, _, rfl, Nat.le_of_ble_eq_true rfl, rfl, fun dx nd => hR z2 dx _ ((e12.trans e3).trans (Ex.new nd)) (fresh_back (e12.trans e3) nd) upd_same⟩
    · have z2 : nearB n ps u v = true := by simpa using z
      exact hY z2 H3 (e12.trans e3)
end
end Tr

set_option maxHeartbeats 4000000
/-! ### looksleft.stores: a store is made of right homes and cells (any law's row: k04_runnings_deed_by_deed) -/
namespace Tr
open PySem PySem.Spec PyProof.Rows L2 LK Evl
abbrev sStore : Stmt := top 35
abbrev sInitS : Stmt := inClass sStore 0
abbrev nInitS : List Str := ["self", "tree", "homes", "cells"]
theorem scInitS : FnScope nInitS nInitS (defScope sInitS) := ⟨rfl, rfl, rfl, by decide +kernel, rfl, by decide +kernel, by decide +kernel⟩
def natD (n : Nat) : PyData := .int (n : Int)
/-- a store at x -/
def StoreAt (K : PySem.W.Frag) (C CS : Addr) (H : Hp) (x : Addr) (n : Nat) (ps : List (Nat × Nat)) (hs cs : List Nat) : Prop := ∃ dx tr ht ct : Addr, H x = some (.ins CS dx [("tree", .ref tr), ("homes", .ref ht), ("cells", .ref ct)]) ∧ TreeAt K C H tr n ps ∧ SqT K H ht (hs.map natV) ∧ SqT K H ct (cs.map natV)
def spInitS (K : PySem.W.Frag) (C CS : Addr) : Sp := fun vs H Q _ => ∃ (x dx tr : Addr) (n : Nat) (ps : List (Nat × Nat)) (a b : V) (d e : PyData) (hs cs : List Nat), vs = [.ref x, .ref tr, a, b] ∧ H x = some (.ins CS dx []) ∧ TreeAt K C H tr n ps ∧ Dq H a d ∧ Dq H b e ∧ listD d = some (hs.map natD) ∧ listD e = some (cs.map natD) ∧
  1 ≤ n ∧ (∀ h ∈ hs, h < n) ∧ (∀ c ∈ cs, c < 6) ∧ hs.length ≤ 12 ∧ cs.length = hs.length ∧ ∀ H2, But x H H2 → StoreAt K C CS H2 x n ps hs cs → Q .non H2
theorem dq_nats {H : Hp} : ∀ {xs : List V} {hs : List Nat}, DqAll H xs (hs.map natD) → xs = hs.map natV
  | [], [], _ => rfl
  | _ :: _, _ :: _, .cons h t => by
    cases h
    rw [dq_nats t]
    rfl
theorem are_nats {hs : List Nat} {d : PyData} {n : Nat} (hd : listD d = some (hs.map natD)) (h1 : 1 ≤ n) (h : ∀ x ∈ hs, x < n) : areD 0 ((n : Int) - 1) d = true := by
  unfold areD
  rw [hd]
  refine List.all_eq_true.mpr fun x hx => ?_
  obtain ⟨k, hk, rfl⟩ := List.mem_map.mp hx
  have := h k hk
  simp [btwD, wholeD, natD]
  omega
section
variable {P : Program} {w : World} {K : PySem.W.Frag} {mg : Str → Option Value} {base : Heap} {C CS f f1 : Addr} {fd d1 : FuncData} {tk tk2 : Tok}
/-- tuple(v) of data -/
theorem ev_tuple {σ : L2.St} {H : Hp} {te : TE} {a : Addr} {xs : List V} (h : Ev te σ H (.ref a)) (hs : SqL K H a xs ∨ SqT K H a xs) : ∀ H1, Ex H H1 → ∀ Q : VK, (∀ r H2, Ex H1 H2 → SqT K H2 r xs → Q (.ref r) H2) → (tCB (fun xs H Q => ∃ p ys, xs = [.ref p] ∧ ((SqL K H p ys ∧ ∀ l, H l = none → Q (.ref l) (upd H l (.tup ys))) ∨ (SqT K H p ys ∧ Q (.ref p) H))) (tCons te tNil)) σ H1 Q := fun H1 e Q q =>
  h H1 e _ fun H2 e2 => by
    rcases hs with hs | hs
    · exact ⟨a, xs, rfl, .inl ⟨ex_l (e.trans e2) hs, fun l hl => q l _ (e2.trans (Ex.new hl)) (st_of upd_same)⟩⟩
    · exact ⟨a, xs, rfl, .inr ⟨ex_t (e.trans e2) hs, q a H2 e2 (ex_t (e.trans e2) hs)⟩⟩
theorem TreeAt.but {C' dx' x : Addr} {fs : List (Str × V)} {H H' : Hp} {t : Addr} {n : Nat} {ps : List (Nat × Nat)} (h : TreeAt K C H t n ps) (hx : H x = some (.ins C' dx' fs)) (e : But x H H') (ne : t ≠ x) : TreeAt K C H' t n ps := by
  obtain ⟨dx, rt, l, us, ts, wl, h1, h2, h3, h4, h5, h6, h7⟩ := h
  obtain ⟨ws, y1, y2⟩ := h7
  exact ⟨dx, rt, l, us, ts, wl, e _ _ ne h1, bt_t hx e h2, h3, fun i t p x y => bt_t hx e (h4 i t p x y), bt_o hx e (fun _ _ _ z => by cases z) h5, bt_f hx e h6, ws, bt_o hx e (fun _ _ _ z => by cases z) y1, y2.bt hx e⟩
/-- o.f = (something that gives a tuple of xs), o in slot i -/
def GivesT (K : PySem.W.Frag) (tv : TE) (σ : L2.St) (H : Hp) (xs : List V) : Prop := ∀ H1, Ex H H1 → ∀ Q : VK, (∀ r H2, Ex H1 H2 → SqT K H2 r xs → Q (.ref r) H2) → tv σ H1 Q
theorem s_fldT {σ : L2.St} {H : Hp} {tv : TE} {g : Str} {i : Nat} {x C dx : Addr} {fs : List (Str × V)} {xs : List V} {D : Ends} (h : GivesT K tv σ H xs) (hi : σ[i]? = some (some (.ref x))) (hx : H x = some (.ins C dx fs)) (cl : Cls K C) (na : NoAttr K C g) (hz : fs.length < 1000)
    (k : ∀ r H2, But x H H2 → SqT K H2 r xs → H2 x = some (.ins C dx (putF g (.ref r) fs)) → D.nx σ H2) : sFld K (tVar i) tv g D σ H := h H (Ex.refl H) _ fun r H2 e2 hr => ⟨_, hi, x, C, dx, fs, rfl, e2 _ _ hx, cl, na, hz, k r _ ((But.of e2).trans But.at) (bt_t (e2 _ _ hx) But.at hr) upd_same⟩
theorem q_fldT {σ : L2.St} {H : Hp} {tv : TE} {g : Str} {i : Nat} {x C dx : Addr} {fs : List (Str × V)} {xs : List V} {D : Ends} {tz : TS} (h : GivesT K tv σ H xs) (hi : σ[i]? = some (some (.ref x))) (hx : H x = some (.ins C dx fs)) (cl : Cls K C) (na : NoAttr K C g) (hz : fs.length < 1000)
    (k : ∀ r H2, But x H H2 → SqT K H2 r xs → H2 x = some (.ins C dx (putF g (.ref r) fs)) → tz D σ H2) : tSeq (sFld K (tVar i) tv g) tz D σ H := s_fldT (D := { D with nx := tz D }) h hi hx cl na hz k
theorem ok_initS (F : FunD K "__init__" "Store.__init__" (defArgs sInitS) (defBody sInitS) (defScope sInitS) [] [("cells", .non)] f fd) (cl : Cls K C) (nh : NoAttr K C "houses") (cs : Cls K CS) (n1 : NoAttr K CS "tree") (n2 : NoAttr K CS "homes") (n3 : NoAttr K CS "cells") (G : FnOk P w K mg base CX0 3 f1 d1 ["value", "low", "high"] spAre) (k1 : Kd K mg "are_between" ["value", "low", "high"] f1 d1)
    (ml : mg "len" = none) (mt : mg "tuple" = none) (mw : mg "MOST_WRITES" = some (.int 12 tk)) (mc : mg "CELLS" = some (.int 6 tk2)) : FnOk P w K mg base CX0 4 f fd nInitS (spInitS K C CS) := by
  refine F.ok scInitS (fun vs H Q E h => ?_) fun cdv A outer s H0 vs Q E hr h => ⟨_, PSs.nox (
    pss_cons (ps_if (pw_or (pt_not (pt_val (pe_call G hr (by rfl) k1.m k1.k k1.b .nil pass0 (pa_cons (pv 2) (pa_cons pe_int (pa_cons (pe_op op_sub (pe_fld (pv 1) rfl) pe_int) pa_nil)))))) (pw_or1 (pt_cmpR op_gt (pe_callB call_len_seq (by rfl) ml PySem.boot_len (pa_cons (pv 2) pa_nil)) (pe_glob (v := .int 12) (by rfl) mw ⟨_, rfl⟩) (nomark _)))).pt (pss_one ps_never) pss_nil)
    (pss_cons (ps_if (pw_and (pt_cmpR op_notN (pv 3) pe_non (nomark _)) (pw_and1 (pt_not (pw_and (pt_val (pe_call G hr (by rfl) k1.m k1.k k1.b .nil pass0 (pa_cons (pv 3) (pa_cons pe_int (pa_cons (pe_op op_sub (pe_glob (v := .int 6) (by rfl) mc ⟨_, rfl⟩) pe_int) pa_nil))))) (pw_and1 (pt_cmpR op_eq (pe_callB call_len_seq (by rfl) ml PySem.boot_len (pa_cons (pv 3) pa_nil)) (pe_callB call_len_seq (by rfl) ml PySem.boot_len (pa_cons (pv 2) pa_nil)) (nomark _)))).pt))).pt (pss_one ps_never) pss_nil)
    (pss_cons (ps_fld (pv 0) (pv 1) rfl)
    (pss_cons (ps_fld (pv 0) (pe_callTy call_tuple_of (by rfl) mt (by decide +kernel) (pa_cons (pv 2) pa_nil)) rfl)
    (pss_one (ps_fld (pv 0) (pe_ifExp (pt_cmpR op_isN (pv 3) pe_non (nomark _)) (pe_op op_repT (pe_tup (pa_cons pe_int pa_nil)) (pe_callB call_len_seq (by rfl) ml PySem.boot_len (pa_cons (pv 2) pa_nil))) (pe_callTy call_tuple_of (by rfl) mt (by decide +kernel) (pa_cons (pv 3) pa_nil))) rfl)))))), ?_⟩
  · obtain ⟨x, dx, tr, n, ps, a, b, d, e, hs, cs, rfl, _⟩ := h
    rfl
  · obtain ⟨x, dx, tr, n, ps, a, b, d, e, hs, cs', rfl, hx, hT, ha, hb, hd, he, h1, hlt, hc6, h12, hlen, hQ⟩ := h
    obtain ⟨a, xs, rfl, hsq, hall⟩ := dq_seq (K := K) ha hd
    obtain ⟨b, ys, rfl, csq, call⟩ := dq_seq (K := K) hb he
    have ex := dq_nats hall
    have ey := dq_nats call
    subst ex ey
    have nx := hx
    obtain ⟨tdx, rt, l, us, ts, wl, t1, _⟩ := id hT
    have lenN : ∀ (l : List Nat), (l.map natV).length = l.length := fun l => List.length_map _
    have z1 : areD 0 ((n : Int) - 1) d = true := are_nats hd h1 hlt
    have z2 : areD 0 ((6 : Int) - 1) e = true := are_nats (n := 6) he (by decide) hc6
    refine q_when (b := false) (et_is (et_or (et_not (et_B (ev_callP (v := .bl true) (ea_cons (ev_var rfl) (ea_cons ev_c (ea_cons (ev_op (ev_fld cl nh (ev_var rfl) t1 rfl) ev_c rv_I0) ea_nil))) fun H1 e1 Q q => ⟨_, d, 0, (n : Int) - 1, rfl, Dq.mono e1 ha, fun ds z => by
        rw [hd] at z
        cases z
        rw [List.length_map]
        omega, by rw [z1]; exact q⟩))) fun _ => et_test (ev_op (ev_len2 (ev_var rfl) hsq) ev_c rv_I0)) (by
        rw [lenN]
        simp
        omega)) (fun hb => nomatch hb) fun _ H1 e1 => ?_
    have rvn : ∀ (y : V) (H : Hp), RV (fun x y H Q => y = .non ∧ Q (.bl (!decide (x = .non))) H) y .non H (.bl (!decide (y = .non))) := fun y H H1 _ Q q => ⟨rfl, q H1 (Ex.refl H1)⟩
    have hs1 := hsq.imp (ex_l e1) (ex_t e1)
    have cs1 := csq.imp (ex_l e1) (ex_t e1)
    refine q_when (b := false) (et_is (et_and (et_test (ev_op (ev_var rfl) ev_c (rvn _ _))) fun _ => et_not (et_and (et_B (ev_callP (v := .bl true) (ea_cons (ev_var rfl) (ea_cons ev_c (ea_cons (ev_op ev_c ev_c rv_I0) ea_nil))) fun H2 e2 Q q => ⟨_, e, 0, (6 : Int) - 1, rfl, Dq.mono (e1.trans e2) hb, fun ds z => by
        rw [he] at z
        cases z
        rw [List.length_map]
        omega, by rw [z2]; exact q⟩)) fun _ => et_test (ev_op (ev_len2 (ev_var rfl) cs1) (ev_len2 (ev_var rfl) hs1) (rv_eq rfl)))) (by
        rw [lenN, lenN, hlen]
        simp)) (fun hb => nomatch hb) fun _ H2 e2 => ?_
    have e12 := e1.trans e2
    have x2 := e12 _ _ hx
    have hs2 := hs1.imp (ex_l e2) (ex_t e2)
    have cs2 := cs1.imp (ex_l e2) (ex_t e2)
    have hT2 := hT.mono e12
    refine ⟨_, rfl, _, rfl, x, CS, dx, [], rfl, x2, cs, n1, (by show 0 < 1000; decide), ?_⟩
    have b1 : But x H2 (upd H2 x (.ins CS dx (putF "tree" (.ref tr) []))) := But.at
    have x3 : upd H2 x (.ins CS dx (putF "tree" (.ref tr) [])) x = some (.ins CS dx [("tree", .ref tr)]) := upd_same
    generalize upd H2 x (.ins CS dx (putF "tree" (.ref tr) [])) = H3 at b1 x3 ⊢
    have hs3 : SqL K H3 a (hs.map natV) ∨ SqT K H3 a (hs.map natV) := hs2.imp (bt_l x2 b1) (bt_t x2 b1)
    have p2 : ∀ r : Addr, putF "homes" (.ref r) [(("tree" : Str), V.ref tr)] = [(("tree" : Str), .ref tr), (("homes" : Str), .ref r)] := fun r => by
      unfold putF
      rw [if_neg (by decide)]
      rfl
    have p3 : ∀ r q : Addr, putF "cells" (.ref q) [(("tree" : Str), V.ref tr), (("homes" : Str), .ref r)] = [(("tree" : Str), .ref tr), (("homes" : Str), .ref r), (("cells" : Str), .ref q)] := fun r q => by
      unfold putF
      rw [if_neg (by decide)]
      unfold putF
      rw [if_neg (by decide)]
      rfl
    refine q_fldT (i := 0) (ev_tuple (ev_var rfl) hs3) rfl x3 cs n2 (by show 1 < 1000; decide) fun ht H5 b5 hht x5 => ?_
    rw [p2] at x5
    have bA : But x H2 H5 := b1.trans b5
    have cs5 : SqL K H5 b (cs'.map natV) ∨ SqT K H5 b (cs'.map natV) := cs2.imp (bt_l x2 bA) (bt_t x2 bA)
    have rvi : ∀ (y : V) (H : Hp), RV (fun x y H Q => y = .non ∧ Q (.bl (decide (x = .non))) H) y .non H (.bl (decide (y = .non))) := fun y H H1 _ Q q => ⟨rfl, q H1 (Ex.refl H1)⟩
    have isn : EvT (tTest (tOp (fun x y H Q => y = .non ∧ Q (.bl (decide (x = .non))) H) (tVar 3) (tC .non))) [some (.ref x), some (.ref tr), some (.ref a), some (.ref b)] H5 false := et_is (et_test (ev_op (ev_var rfl) ev_c (rvi (V.ref b) H5))) (decide_eq_false fun z => by cases z)
    refine s_fldT (i := 0) (xs := cs'.map natV) (fun H6 e6 Q q => isn H6 e6 _ fun H7 e7 => ?_) rfl x5 cs n3 (by show 2 < 1000; decide) fun ct H6 b6 hct x6 => ?_
    · rw [if_neg Bool.false_ne_true]
      exact ev_tuple (ev_var rfl) cs5 H7 (e6.trans e7) Q fun r H8 e8 hr => q r H8 (e7.trans e8) hr
    · rw [p3] at x6
      have bB := bA.trans b6
      refine hQ H6 ((But.of e12).trans bB) ⟨dx, tr, ht, ct, x6, hT2.but x2 bB fun z => ?_, bt_t x5 b6 hht, hct⟩
      rw [z, hx] at t1
      have z3 := Option.some.inj t1
      injection z3 with _ _ z4
      cases z4
end
end Tr

set_option maxHeartbeats 4000000
/-! ### enumerate(tuple), walked -/
namespace PySem
open Sem (wp)
open AutoSeq1 (wpAny_loadPart')
theorem own_meets_enumT (l : Addr) (items : Array Value) (n : Nat) (dct : Option Addr) (sl : Array (Option Value)) :
    Meets (Builtin.«enumerate.__new__» ⟨[.type "enumerate", .ref l], []⟩) (fun _ R s => s.heap.get? l = some { cls := .type "tuple", dict := dct, data := .seq items n, slots := sl } ∧
      R (.ok (.ret (.ref (s.heap.push { cls := .type "tuple_iterator", data := .fields #[.ref l, .int 0 0] }).objs.size)))
        { s with heap := (s.heap.push { cls := .type "tuple_iterator", data := .fields #[.ref l, .int 0 0] }).push { cls := .type "enumerate", data := .fields #[.none, .bool false, .ref s.heap.objs.size, rawInt 0, .none, .none] } }) :=
  .of_wp fun prog w A R s h => by
    obtain ⟨hp, g, d, tk, os⟩ := s
    obtain ⟨hl, h⟩ := h
    have hsub := sub_enumerate
    have hT : Heap.IsTuple (Shared.heap ⟨hp, g, d, tk, os⟩) l items := ⟨_, hl, rfl, n, rfl⟩
    wp_walk using wpAny_loadPart' hl
    refine wpAny_stack_any fun st => wpAny_pure ?_
    split
    · rename_i c _ _ _ _ _
      cases (c == Value.type "enumerate") <;> (wp_walk using wpAny_loadPart' hl, wpAny_pyIter_tuple hT) <;> exact ⟨_, rfl, h⟩
    · wp_walk using wpAny_loadPart' hl, wpAny_pyIter_tuple hT
      exact ⟨_, rfl, h⟩
end PySem
namespace PySem
section
variable {prog : Program} {w : World} {A : Around} {E : Value → Shared → Prop} {s : Shared}
theorem own_call_enumT {l : Addr} {items : Array Value} {Q : Value → Shared → Prop} (hT : s.heap.IsTuple l items)
    (h : ∀ h', IsEnum h' (s.heap.objs.size + 1) s.heap.objs.size 0 .none → h'.IsTupleIter s.heap.objs.size l 0 → (∀ b o, s.heap.get? b = some o → h'.get? b = some o) → Q (.ref (s.heap.objs.size + 1)) { s with heap := h' }) :
    wpAny (model prog w) A (call (.type "enumerate") [.ref l]) Q E s := by
  obtain ⟨o0, hl, hc, n, hd⟩ := hT
  obtain ⟨c, dct, dt, sl⟩ := o0
  cases (show c = .type "tuple" from hc)
  cases (show dt = .seq items n from hd)
  refine callType_new F.called_enumerate (by decide) (F.typeCall_enumerate_1 _) (F.newCall_enumerate_1 _) (fun obj => F.args_object_init_2 obj _) F.entry_enumerate_new (own_meets_enumT l items n dct sl) ⟨hl, ?_⟩
  have fi : ({ cls := .type "tuple_iterator", data := .fields #[.ref l, .int 0 0] } : Obj).isFreed = false := rfl
  have fe : ({ cls := .type "enumerate", data := .fields #[.none, .bool false, .ref s.heap.objs.size, rawInt 0, .none, .none] } : Obj).isFreed = false := rfl
  generalize hit : ({ cls := .type "tuple_iterator", data := .fields #[.ref l, .int 0 0] } : Obj) = oi at fi ⊢
  have hz : (s.heap.push oi).objs.size = s.heap.objs.size + 1 := Heap.size_push ..
  show _ ∧ _
  rw [hz]
  generalize hen : ({ cls := .type "enumerate", data := .fields #[.none, .bool false, .ref s.heap.objs.size, rawInt 0, .none, .none] } : Obj) = oe at fe ⊢
  have he : ((s.heap.push oi).push oe).get? (s.heap.objs.size + 1) = some oe := by
    rw [← hz]
    exact Heap.get?_push_size _ fe
  have hi : ((s.heap.push oi).push oe).get? s.heap.objs.size = some oi := Heap.get?_push_of_some _ (Heap.get?_push_size _ fi)
  subst hit hen
  exact ⟨⟨_, he, rfl⟩, h _ he ⟨_, hi, rfl, rfl⟩ fun b o x => Heap.get?_push_of_some _ (Heap.get?_push_of_some _ x)⟩
end
end PySem
namespace LK
open PySem PySem.Spec PyProof.Rows L2
/-- the tuple at a, each item in a new pair -/
def Iet (K : PySem.W.Frag) (a : Addr) : It :=
  ⟨fun i H => ∃ (xs : List V) (x : V), SqT K H a xs ∧ xs[i]? = some x, fun i H v H' => ∃ T x, v = .ref T ∧ H T = none ∧ H' = upd H T (.tup [.int (i : Nat), x]) ∧ ∀ xs, SqT K H a xs → xs[i]? = some x, fun i H => ∃ xs : List V, SqT K H a xs ∧ xs.length ≤ i⟩
theorem turn_enumT {P : Program} {w : World} {K : PySem.W.Frag} {elts : List Expr} {kk : Nat} {tpos : Pos} (a e it : Addr) :
    Turn P w K (.Tuple elts kk tpos) (Iet K a) [e, it] e (fun i h => (∃ old, IsEnum h e it ((i : Nat) : Int) old) ∧ h.IsTupleIter it a i ∧ e ≠ it) where
  mem := by simp
  obj := fun i h st b hb => by
    obtain ⟨⟨old, he⟩, ⟨o, ho, hc, hd⟩, _⟩ := st
    rcases (by simpa using hb : b = e ∨ b = it) with z | z <;> subst z
    · exact ⟨_, he, fun v q => nomatch q⟩
    · exact ⟨o, ho, fun v q => by rw [hd] at q; cases q⟩
  keep := fun i h h' st k => by
    obtain ⟨⟨old, he⟩, hi, hne⟩ := st
    exact ⟨⟨old, k e (by simp) _ he⟩, hi.at fun o q => k it (by simp) o q, hne⟩
  item := by
    intro X hP hw hK hc i pins s σ H E I hf st hg
    subst hP hw hK
    obtain ⟨⟨old, he⟩, hit, hne⟩ := st
    obtain ⟨xs, x, hq, hx⟩ := hg
    obtain ⟨its, rv, p, hz⟩ := I.tuple hq
    obtain ⟨u, hu, ru⟩ := rv.get hx
    have hp : s.heap.IsTuple a its.toArray := p
    have hel : e < s.heap.objs.size := Heap.lt_size he
    have hil : it < s.heap.objs.size := by
      obtain ⟨_, q, _⟩ := id hit
      exact Heap.lt_size q
    have hai : a ≠ it := fun z => by
      subst z
      obtain ⟨o1, g1, c1, _⟩ := hp
      obtain ⟨o2, g2, c2, _⟩ := hit
      rw [g1] at g2
      cases g2
      rw [c1] at c2
      exact absurd c2 (by decide)
    have hae : e ∉ [it, a] := fun z => by
      rcases (by simpa using z : e = it ∨ e = a) with z | z
      · exact hne z
      · subst z
        obtain ⟨o1, g1, c1, _⟩ := hp
        rw [he] at g1
        cases g1
        exact absurd (show Value.type "enumerate" = Value.type "tuple" from c1) (by decide)
    have hlt : i < its.toArray.size := by
      have := (List.getElem?_eq_some_iff.mp hu).1
      simpa using this
    refine wpAny_pyNext_enum_itemD (Draws.tuple (A := X.A.in1) (I.ok.hd hc) it a hai its.toArray) he ⟨hit, hp⟩ hlt hne hae fun y h' tk hy ho hst hT hsz hk => ?_
    have hyu : y = u := by
      have h1 : its.toArray[i]? = some y := hy
      have h2 : its.toArray[i]? = some u := by simpa using hu
      rw [h2] at h1
      exact (Option.some.inj h1).symm
    subst hyu
    refine ⟨_, rfl, wpAny_letOwnedTupleGo_enum (s := { s with heap := h', toks := tk + 1 }) ho fun h'' he' sb => ?_⟩
    have hT2 : h''.get? s.heap.objs.size = some { cls := .type "tuple", data := .seq #[.int i tk, y] } := (sb.2 _ (Nat.ne_of_gt hel)).trans hT
    have new : ObjOk X.prog X.w (upd H s.heap.objs.size (.tup [.int (i : Nat), x])) h'' s.heap.objs.size (.tup [.int (i : Nat), x]) :=
      ⟨by show 2 ≤ sizeLine; decide, [.int i tk, y], .cons ⟨_, rfl⟩ (.cons ru .nil), ⟨_, hT2, rfl, _, rfl⟩⟩
    have I1 := I.turnedNew (t' := tk + 1) (ch := [e, it]) (fun b ob hb q => (sb.2 b (fun z => hb (by simp [z]))).trans (hk b ob (fun z => hb (by simp [z])) (fun z => hb (by simp [z])) q)) hf (Nat.le_refl _) new
    refine ⟨.ref s.heap.objs.size, _, I1, rfl, ⟨_, x, rfl, I.hok.fresh (Nat.le_refl _), rfl, fun ys hy2 => by rw [I.tuple_inj hy2 hq]; exact hx⟩, ⟨⟨y, ?_⟩, hst.1.at fun o q => (sb.2 it (Ne.symm hne)).trans q, hne⟩, fun b hb => ?_⟩
    · have e1 : ((i + 1 : Nat) : Int) = (i : Int) + 1 := by omega
      rw [e1]
      exact he'
    · have hb' : b < s.heap.objs.size := by
        rcases (by simpa using hb : b = e ∨ b = it) with z | z
        · rw [z]; exact hel
        · rw [z]; exact hil
      rw [upd_ne (Nat.ne_of_lt hb')]
      exact (hf b hb).1
  done := by
    intro X hP hw hK hc i pins s σ H E I hf st hg
    subst hP hw hK
    obtain ⟨⟨old, he⟩, hit, hne⟩ := st
    obtain ⟨xs, hq, hx⟩ := hg
    obtain ⟨its, rv, p, hz⟩ := I.tuple hq
    have hp : s.heap.IsTuple a its.toArray := p
    have hai : a ≠ it := fun z => by
      subst z
      obtain ⟨o1, g1, c1, _⟩ := hp
      obtain ⟨o2, g2, c2, _⟩ := hit
      rw [g1] at g2
      cases g2
      rw [c1] at c2
      exact absurd c2 (by decide)
    obtain ⟨f0, f1, f2, f3, f4, f5⟩ := hf it (by simp)
    have hl := rv.length
    have hT : s.TypeIs (.ref e) "enumerate" := ⟨_, he, rfl⟩
    unfold pyNext
    refine wpAny_bind (wpAny_attempt (wpAny_callSpecial?_slot (name := Str.ofString "__next__") hT F.slot_enumerate_next (wpAny_call_entry F.slot_enumerate_next hT F.entry_enumerate_next ?_ (F.args_enumerate_next_1 _))))
    show wpAny _ _ (field (.ref e) 2 >>= _) _ _ _
    refine wpAny_bind (wpAny_field he rfl (x := .ref it) rfl ?_)
    refine wpAny_bind (wpAny_nextOf_tuple_end (I.ok.hd hc) hit hp (by simp; omega) fun h' x eb hx' => ?_)
    obtain ⟨o, ho, hcl⟩ := hx'
    refine wpAny_bind (wpAny_isInstance (T := "StopIteration") (b := true) ⟨o, ho, hcl⟩ isSubtype_stop ?_)
    exact wpAny_pure ⟨rfl, I.turned (t' := s.toks) (fun b o hb q => eb b o hb q) f0 f1 f3 f4 f5⟩
  self := fun A i s Q E st h => by
    obtain ⟨⟨_, he⟩, _⟩ := st
    exact wpAny_pyIter_enum he h
def iEnumT (K : PySem.W.Frag) (ta : TA) : TI := fun σ H R => ta σ H fun vs H1 => ∃ a xs, vs = [.ref a] ∧ SqT K H1 a xs ∧ R (Iet K a) H1
theorem pi_enumT {X : Cx} {e : Expr} {ta : TA} {p pos tpos : Pos} {elts : List Expr} {kk : Nat} (hg : Gl X "enumerate") (hm : X.mg "enumerate" = none) (ha : PA X [e] ta) (hs : starEach [e] X.env = [(false, eval e X.env)] := by rfl) :
    PI X (.Tuple elts kk tpos) (.Call (.Name "enumerate" p) [e] [] pos) (iEnumT X.K ta) := by
  refine ⟨fun pins s σ H R I h => Call_ (ld_blt I hg hm boot_enumerate (PyProof.Rows.callWith_type1 (thn (ha.run pos pins s σ H _ I h) fun us s1 ⟨vs, H1, I1, r1, q1⟩ => ?_) hs rfl))⟩
  obtain ⟨a, xs, rfl, hq, q⟩ := q1
  obtain ⟨u, rfl, ru⟩ := vals1 r1
  cases ru
  obtain ⟨its, rv, p', hz⟩ := I1.tuple hq
  have hp : s1.heap.IsTuple a its.toArray := p'
  refine own_call_enumT hp fun h' he hit hk => wpAny_pyIter_enum he ?_
  have I2 : Inv X pins σ H1 { s1 with heap := h' } := I1.kept (t' := s1.toks) hk
  refine ⟨s1.heap.objs.size + 1, [s1.heap.objs.size + 1, s1.heap.objs.size], _, _, H1, rfl, I2, turn_enumT a (s1.heap.objs.size + 1) s1.heap.objs.size, ⟨⟨.none, he⟩, hit, Nat.succ_ne_self _⟩, fun b hb => ?_, q⟩
  have hle : s1.heap.objs.size ≤ b := by
    rcases (by simpa using hb : b = s1.heap.objs.size + 1 ∨ b = s1.heap.objs.size) with z | z
    · rw [z]
      exact Nat.le_add_right _ _
    · rw [z]
      exact Nat.le_refl _
  exact I1.fpOk hle (I1.hok.fresh hle)
theorem walk_enumT {K : PySem.W.Frag} {a : Addr} {xs : List V} : Walk (Iet K a) xs.length (fun H => SqT K H a xs) (YPair (fun i => some (.int (i : Nat))) (fun i => xs[i]?)) where
  goes := fun i H hi g => ⟨xs, xs[i], g, List.getElem?_eq_getElem hi⟩
  stops := fun H g => ⟨xs, g, Nat.le_refl _⟩
  yields := fun i H x H' _ g y => by
    obtain ⟨T, v, h1, h2, h3, h4⟩ := y
    exact ⟨T, _, v, h1, h2, h3, rfl, h4 xs g⟩
end LK

set_option maxHeartbeats 4000000
/-! ### {k: v for target in iter}, the keys tuples -/
namespace LK
open PySem PySem.Spec PyProof.Rows L2
section
variable {X : Cx} {tg : Expr}
theorem own_setT {pins : List (Addr × Obj)} {σ : L2.St} {H : Hp} {s : Shared} {E : Value → Shared → Prop} {D b : Addr} {kvs : List (List Key × V)} {k : List Key} {v : V} {u r : Value} {Q : Unit → Shared → Prop} (hu : X.A.units + 1 < cLine) (I : Inv X pins σ H s) (hD : H D = some (.dT kvs)) (hz : kvs.length < sizeLine)
    (hb : H b = some (.tup (k.map kV))) (ry : RelV (.ref b) u) (rv : RelV v r) (h : ∀ s', Inv X pins σ (upd H D (.dT (putK kvs k v))) s' → Q () s') : wpAny (model X.prog X.w) X.A (dictSet D u r) Q E s := by
  cases (show u = Value.ref b from ry)
  obtain ⟨z, hd, xs, rel, dd⟩ := dt_of I.hok hD
  have zx : xs.length ≤ sizeLine := by rw [← Paired.length rel]; exact z
  have zl : (putK kvs k v).length ≤ sizeLine := by have := length_putK kvs k v; omega
  refine wpAny_dictSet_heap (hsz := zx) (Nat.lt_of_succ_lt hu) (key_of I.hok hb) dd fun h' dd' hs => h _ ?_
  obtain ⟨q, es, ep, hq, a1, a2, a3, _, a4⟩ := dd'
  refine d_write I (by rw [hD]; exact True.intro) hs ⟨q, hq⟩ ⟨zl, hd, _, (rel.put k hb rv).keeps fun c ys ec => ?_, q, es, ep, hq, a1, a2, a3, a4⟩
  rw [upd_ne (ne_of ec hD (fun z => nomatch z))]
  exact ec
/-- D the new dict -/
def tDcT (wi : TI) (g : TG) (tk tv : TE) (vs : List Nat) : TE := fun σ H Q => wi σ H fun J H1 => ∀ D, H1 D = none → ∃ W : Nat → Nat → Hp → Prop, (∃ m, W 0 m (upd H1 D (.dT []))) ∧ ∀ i m H, W i m H →
  (J.stop i H ∧ Q (.ref D) H) ∨ (J.go i H ∧ ∃ Nx : Hp → Prop, (∀ H', Nx H' → ∃ m', m' < m ∧ W (i + 1) m' H') ∧ ∀ x H', J.yld i H x H' → g x (wipe σ vs) H' fun σ2 H2 => wipe σ2 vs = wipe σ vs ∧
    tk σ2 H2 fun y H4 => tv σ2 H4 fun z H5 => ∃ kvs k b, y = .ref b ∧ H5 b = some (.tup (k.map kV)) ∧ H5 D = some (.dT kvs) ∧ kvs.length < sizeLine ∧ Nx (upd H5 D (.dT (putK kvs k z))))
theorem pe_dcT {kx vx iter : Expr} {scope : Scope} {own : List (Str × Nat)} {pos : Pos} {wi : TI} {g : TG} {tk tv : TE} (hu : X.A.units + 1 < cLine) (calm : X.calm = true) (hN : X.N.Nodup) (hi : PI X tg iter wi) (ok : BlkOk X.N X.env.scope scope own)
    (hg : ∀ (s : Shared) (H : Hp) (C : Addr) (cl : List (Str × Addr)) (fp : List Addr), PG (X.blk s H scope (compEnvC scope cl C X.env) fp) tg g)
    (hk : ∀ (s : Shared) (H : Hp) (C : Addr) (cl : List (Str × Addr)) (fp : List Addr), PE (X.blk s H scope (compEnvC scope cl C X.env) fp) kx tk) (he : ∀ (s : Shared) (H : Hp) (C : Addr) (cl : List (Str × Addr)) (fp : List Addr), PE (X.blk s H scope (compEnvC scope cl C X.env) fp) vx tv)
    (hs : ∀ x, foldedSetIterable iter X.env x = pure x := by intro _; rfl) : PE X (.DictComp kx vx [⟨tg, iter, [], 0⟩] scope pos) (tDcT wi g tk tv (own.map (·.2))) := by
  refine ⟨fun pins s σ H Q I h => ?_⟩
  rw [arm_eval_DictComp]
  have frees : ∀ y ∈ scope.names, y.2 = .free → ∃ c, X.env.cells.lookup y.1 = some c := fun y hy e => (ok.free y hy e).elim (fun k => I.ok.has _ (.inl k)) fun k => I.ok.has _ (.inr k)
  refine wpAny_comprehension_free rfl hs (closure_ok frees) ok.kind (fun y hy e => by rw [ok.uniq y hy, e]) (thn (hi.run pins s σ H _ I h) fun xv s1 hx => thn hx fun itv s2 h2 => ?_)
  obtain ⟨it, fp, tn, J, H2, rfl, I2, T, st2, f2, q⟩ := h2
  refine wpAny_newObj_type (newEnv_comp ?_)
  -- the new list, at D
  obtain ⟨D, hD⟩ : ∃ D, s2.heap.objs.size = D := ⟨_, rfl⟩
  rw [hD]
  have dn : H2 D = none := I2.hok.fresh (Nat.le_of_eq hD)
  obtain ⟨W, ⟨m0, w0⟩, turn⟩ := q D dn
  obtain ⟨s3, hs3⟩ : ∃ s3 : Shared, ({ s2 with heap := s2.heap.push { cls := .type "dict", data := .dict #[] } } : Shared) = s3 := ⟨_, rfl⟩
  have p3 : s3.heap = s2.heap.push { cls := .type "dict", data := .dict #[] } := by rw [← hs3]
  have I3 : Inv X pins σ (upd H2 D (.dT [])) s3 := by
    rw [← hs3]
    refine I2.laid (t' := s2.toks) (fun b o e => Heap.get?_push_of_some _ e) (Nat.le_of_eq hD) ?_
    rw [← hD]
    exact dt_empty s2.heap I2.big
  have fp3 : ∀ b ∈ fp, FpOk X pins (upd H2 D (.dT [])) b ∧ b < s3.heap.objs.size := fun b hb => by
    obtain ⟨o, e, _⟩ := T.obj _ _ st2 b hb
    have lt := Heap.lt_size e
    refine ⟨⟨?_, (f2 b hb).2⟩, by rw [p3, Heap.size_push]; exact Nat.lt_succ_of_lt lt⟩
    rw [upd_ne (by rw [← hD]; exact Nat.ne_of_lt lt)]
    exact (f2 b hb).1
  have st3 : tn 0 s3.heap := T.keep _ _ _ st2 fun b _ o e => by rw [p3]; exact Heap.get?_push_of_some _ e
  have I4 := block_start I3 ok hN fp3
  have pg := hg s3 (upd H2 D (.dT [])) s3.heap.objs.size (cellsFrom (s3.heap.objs.size + 1) scope.names (cloFrom X.env.cells scope.names [])) fp
  have pk := hk s3 (upd H2 D (.dT [])) s3.heap.objs.size (cellsFrom (s3.heap.objs.size + 1) scope.names (cloFrom X.env.cells scope.names [])) fp
  have pe := he s3 (upd H2 D (.dT [])) s3.heap.objs.size (cellsFrom (s3.heap.objs.size + 1) scope.names (cloFrom X.env.cells scope.names [])) fp
  have nfp : ∀ b ∈ fp, (upd H2 D (.dT [])) b = none := fun b hb => (fp3 b hb).1.1
  rw [hs3]
  show codeAny _ _ (.compStart (.DictComp kx vx [⟨tg, iter, [], 0⟩] scope pos) 0 (.ref it) (.ref D) (compEnvC scope (cellsFrom (s3.heap.objs.size + 1) scope.names (cloFrom X.env.cells scope.names [])) s3.heap.objs.size X.env))
    (compPost (model X.prog X.w) X.A X.xe none (EP X pins σ Q) (.ref D) s3.heap.objs.size) { s3 with heap := pushCells (s3.heap.push { cls := .type "dict", data := .dict #[] }) scope.names }
  generalize hce : compEnvC scope (cellsFrom (s3.heap.objs.size + 1) scope.names (cloFrom X.env.cells scope.names [])) s3.heap.objs.size X.env = ce at I4 pg pk pe ⊢
  have cL : ce.locals = s3.heap.objs.size := by subst hce; rfl
  generalize hH3 : upd H2 D (.dT []) = H3 at I3 I4 pg pk pe w0 nfp fp3
  generalize hs4 : ({ s3 with heap := pushCells (s3.heap.push { cls := .type "dict", data := .dict #[] }) scope.names } : Shared) = s4 at I4 ⊢
  have st4 : tn 0 s4.heap := T.keep _ _ _ st3 fun b _ o e => by rw [← hs4]; exact pushCells_keeps _ _ _ _ (Heap.get?_push_of_some _ e)
  have okfp : ∀ {σ' : L2.St} {H' : Hp} {s' : Shared}, Inv (X.blk s3 H3 scope ce fp) [] σ' H' s' → (∀ b ∈ fp, H' b = none) → ∀ b ∈ fp, FpOk (X.blk s3 H3 scope ce fp) [] H' b := fun {σ' H' s'} I' hn b hb =>
    ⟨hn b hb, (I'.ok.exf b hb).1, I'.ok.exfs b hb, .inl hb, fun x c e => (I'.ok.exf b hb).2 x c e, fun p hp => absurd (show p ∈ ([] : List (Addr × Obj)) ++ [] from hp) (by simp)⟩
  have loop : codeAny (model X.prog X.w) X.A (.compLoop (.DictComp kx vx [⟨tg, iter, [], 0⟩] scope pos) 0 (.ref it) (.ref D) ce) (compPost (model X.prog X.w) X.A X.xe none (EP X pins σ Q) (.ref D) s3.heap.objs.size) s4 := by
    refine compLoop_anyD (fun n s' => ∃ i H', Inv (X.blk s3 H3 scope ce fp) [] (wipe σ (own.map (·.2))) H' s' ∧ tn i s'.heap ∧ (∀ b ∈ fp, H' b = none) ∧ W i n H') ?_ m0 ⟨0, H3, I4, st4, nfp, w0⟩
    rintro n s5 ⟨i, H5, I5, st5, n5, w5⟩
    rcases turn i n H5 w5 with ⟨stop, qq⟩ | ⟨go, Nx, hNx, step⟩
    · refine thnF (T.done (X.blk s3 H3 scope ce fp) rfl rfl rfl calm i [] s5 _ H5 (fun _ _ => False) I5 (okfp I5 n5) st5 stop) fun r s6 hr6 => ?_
      obtain ⟨rfl, I6⟩ := hr6
      have I7 : Inv X pins σ H5 s6 := I3.call' (ch := fp) I6.os I6.base I6.hok I6.bare fun b hb => ⟨(fp3 b hb).1.2.2.2.1, (fp3 b hb).1.2.1, (fp3 b hb).1.2.2.2.2.1, (fp3 b hb).1.2.2.2.2.2⟩
      have nC : H5 s3.heap.objs.size = none := by
        have z : H5 ce.locals = none := I6.free
        rw [cL] at z
        exact z
      obtain ⟨m, hn, _⟩ := I6.loc
      have hn : s6.heap.Ns ce.locals m := hn
      rw [cL] at hn
      obtain ⟨g0, g1, g2, g3, g4, g5⟩ := I3.fpOk (Nat.le_refl _) nC
      exact ⟨m, hn, fun h'' sb => ⟨.ref D, H5, I7.turned (t' := s6.toks) (fun b o hb e => (sb.2 b hb).trans e) g0 g1 g3 g4 g5, rfl, qq⟩⟩
    · refine thnF (T.item (X.blk s3 H3 scope ce fp) rfl rfl rfl calm i [] s5 _ H5 (fun _ _ => False) I5 (okfp I5 n5) st5 go) fun r s6 hr6 => ?_
      obtain ⟨u, rfl, h6⟩ := hr6
      refine thnF h6 fun _ s7 hr7 => ?_
      obtain ⟨x, H7, I7, r7, y7, st7, n7⟩ := hr7
      have I7' := I7.pinned (okfp I7 n7) (T.obj _ _ st7)
      refine thnF (pg.run _ s7 _ H7 x u _ I7' r7 (step x H7 y7)) fun _ s8 hr8 => ?_
      obtain ⟨σ8, H8, I8, hw8, q8⟩ := hr8
      refine wpAny_tests_nil ?_
      have next : ∀ {s' : Shared} {H' : Hp}, Inv (X.blk s3 H3 scope ce fp) ([] ++ pinsAt fp s7.heap) σ8 H' s' → Nx H' →
          ∃ m, m < n ∧ ∃ i H', Inv (X.blk s3 H3 scope ce fp) [] (wipe σ (own.map (·.2))) H' s' ∧ tn i s'.heap ∧ (∀ b ∈ fp, H' b = none) ∧ W i m H' := fun {s' H'} I' nx => by
        obtain ⟨m', hm, w'⟩ := hNx H' nx
        have stays : ∀ b ∈ fp, ∀ o, s7.heap.get? b = some o → s'.heap.get? b = some o ∧ H' b = none := fun b hb o e =>
          let z := I'.pin (b, o) (List.mem_append_right _ (List.mem_append_right _ (mem_pinsAt hb e)))
          ⟨z.1, z.2.1⟩
        have len8 : (wipe σ (own.map (·.2))).length = σ8.length := by rw [← hw8, wipe_length]
        refine ⟨m', hm, i + 1, H', (I'.unpinned (pins := [])).weak len8 (fun j v e => ?_), T.keep _ _ _ st7 fun b hb o e => (stays b hb o e).1, fun b hb => ?_, w'⟩
        · rw [← hw8] at e
          exact (wipe_some e).1
        · obtain ⟨o, e, _⟩ := T.obj _ _ st7 b hb
          exact (stays b hb o e).2
      rw [if_pos rfl]
      refine thnF (pk.run _ s8 σ8 H8 _ I8 q8) fun z s9 hr9 => ?_
      obtain ⟨yk, H9, I9, r9, q9⟩ := hr9
      refine thnF (pe.run _ s9 σ8 H9 _ I9 q9) fun z s10 hr10 => ?_
      obtain ⟨yv, H10, I10, r10, kvs, k, kb, rfl, hkb, hD10, hz10, nx⟩ := hr10
      exact own_setT (X := X.blk s3 H3 scope ce fp) hu I10 hD10 hz10 hkb r9 r10 fun s11 I11 => next I11 nx
  exact codeAny_compStart_dict loop (T.self X.A 0 _ _ _ st4 loop)
end
end LK

set_option maxHeartbeats 4000000
namespace LK
open PySem PySem.Spec PyProof.Rows L2
abbrev Cl : Type := Value × (Addr → Value → Option Addr → TS)
def onlyRet (D : Ends) : Ends := { nx := fun _ _ => False, rt := D.rt, bk := fun _ _ => False, ct := fun _ _ => False }
def wAll (K : PySem.W.Frag) (i : Nat) (D : Ends) : List Cl → WX
  | [] => fun _ _ _ _ => False
  | (c, ts) :: r => fun cls d σ H => ∃ b, PySem.W.exmOne K cls c = some b ∧ (b = true → ∀ a, H a = none → ts a cls d (onlyRet D) (σ.set i (some (.ref a))) H) ∧ (b = false → wAll K i D r cls d σ H)
inductive ClsOk (X : Cx) (n : Str) : List ExceptHandler → List Cl → Prop
  | nil : ClsOk X n [] []
  | cons {x : Str} {c : Value} {ts : Addr → Value → Option Addr → TS} {st : Stmt} {sts : List Stmt} {p q : Pos} {hds : List ExceptHandler} {l : List Cl} (hc : Names X x c)
      (su : ∀ (a : Addr) (oe : Obj) (cls : Value) (d : Option Addr) (pn : List (Addr × Obj)), L2N.Zn cls d oe → (∃ vs, oe.data = .fields vs) → PSs (X.suite a ((a, oe) :: pn)) (st :: sts) (ts a cls d)) (r : ClsOk X n hds l) :
      ClsOk X n (.ExceptHandler (some (.Name x p)) (some n) (st :: sts) q :: hds) ((c, ts) :: l)
theorem ps_try_all {X : Cx} {n : Str} {i : Nat} {body : List Stmt} {hd0 : ExceptHandler} {hds : List ExceptHandler} {l : List Cl} {pos : Pos} {tb : WX → TS} (st : X.stack = X.env :: X.outer) (fr : X.env.frame = some X.env.locals) (nd : X.N.Nodup) (hi : X.N[i]? = some n) (lo : X.env.kindOf n = some .local)
    (hb : ∀ (W : WX) (pn : List (Addr × Obj)) (xe : Value → Shared → Prop), L2N.Takes (X.tr pn xe) W → PassesOwn (model X.prog X.w) X.A X.env xe → PSs (X.tr pn xe) body (tb W)) (hh : ClsOk X n (hd0 :: hds) l) :
    PS X (.Try body (hd0 :: hds) [] [] pos) (fun D σ H => tb (wAll X.K i D l) D σ H) := by
  refine ⟨fun pins s σ H D I h => ?_⟩
  have I0 := I.ok
  have afr : X.A.frames = some (X.env :: X.outer) := by rw [I0.frames, st]
  refine wpAny_Try_except (wpAny_mono ((hb (wAll X.K i D l) (X.pn ++ pins) (fun e t1 => wpAny (model X.prog X.w) X.A (noteFrame e X.env) (fun _ t2 => wpAny (model X.prog X.w) X.A (setFlight e none) (fun _ t3 =>
    wpAny (model X.prog X.w) X.A (handleBy e X.env (hd0 :: hds)) (SP X pins D) X.xe t3) X.xe t2) X.xe t1) (fun u t caught => ?_) PassesOwn.looking).run [] s σ H D (I.toTry _) h) (fun fl t q => ?_) fun _ _ q => q)
  · obtain ⟨a, B, sI, pins', σ', H', cls, d, rfl, K', nb, up, sky, na, os, ag, wish⟩ := caught
    have K1 : Inv X pins σ' H' sI := K'.ofTry I0
    rw [st] at sky
    show wpAny (model X.prog X.w) X.A (noteFrame (.ref a) X.env) _ _ _
    refine L2N.Sky.land L2N.Zn.steady afr fr sky fun g3 at3 up3 => ?_
    have K3 : Inv X pins σ' H' { t with heap := g3 } := K1.landed nb at3.1 (up.trans up3) os ag
    obtain ⟨oe3, vs3, he3, hz3, hd3⟩ := at3.there
    have off : a ∉ frs (X.env :: X.outer) := fun hm => by
      obtain ⟨_, o', e', no⟩ := at3.2.2.1.mem hm
      rw [he3] at e'
      cases e'
      exact no _ hd3
    have nL : a ≠ X.env.locals := fun z => off (List.mem_filterMap.mpr ⟨X.env, List.mem_cons_self, by rw [fr, z]⟩)
    have nF : a ∉ X.fs := fun hm => by
      obtain ⟨v, hv, q⟩ := List.mem_filterMap.mp hm
      exact off (List.mem_filterMap.mpr ⟨v, List.mem_cons_of_mem _ hv, q⟩)
    have S3 := K3.suite he3 hd3 na nL nF
    have each : ∀ {hs' : List ExceptHandler} {l' : List Cl}, ClsOk X n hs' l' → wAll X.K i D l' cls d σ' H' → wpAny (model X.prog X.w) X.A (handleBy (.ref a) X.env hs') (SP X pins D) X.xe { t with heap := g3 } := by
      intro hs' l' hk
      induction hk with
      | nil => exact fun w => w.elim
      | @cons x c ts s0 sts np q hds2 l2 hc su r ih =>
        intro w
        obtain ⟨b, hb1, yes, no⟩ := w
        refine wpAny_handleBy_cons (codeAny_handlers_test ?_) (by intro q; cases q)
        have ty : PySem.W.Looks (model X.prog X.w) g3 (typeOf (.ref a)) cls := fun A Q E s k q => wpAny_typeOf_ref (k _ _ he3) (by rw [hz3.1]; exact q)
        have tst : ∀ {Q : Value → Shared → Prop} {E : Value → Shared → Prop}, Q c { t with heap := g3 } → wpAny (model X.prog X.w) (X.A.mark (some (.ref a))) (eval (.Name x np) X.env) Q E { t with heap := g3 } := fun {Q E} q => by
          obtain ⟨hg, hdb, hm | ⟨hm, hv, hn⟩⟩ := hc
          · exact ld_glob (X := X.suite a ((a, oe3) :: (X.pn ++ pins))) S3 hg hm q hdb
          · exact ld_blt (X := X.suite a ((a, oe3) :: (X.pn ++ pins))) S3 hg hm hv q hn hdb
        refine tst ((PySem.W.exm_one (M := model X.prog X.w) K3.kIn ty hb1).here ?_)
        cases b with
        | false => exact ih (no rfl)
        | true =>
          refine codeAny_handlers_suite_as (HandSPX.lands_againZ at3 fun g4 at4 up4 => ?_)
          have K4 : Inv X pins σ' H' { t with heap := g4 } := K1.landed nb at4.1 ((up.trans up3).trans up4) os ag
          obtain ⟨oe4, vs4, he4, hz4, hd4⟩ := at4.there
          refine store_ok (X := X.suite a ((a, oe4) :: (X.pn ++ pins))) (v := .ref a) (K4.suite he4 hd4 na nL nF) nd hi (.inl lo) rfl (fun t5 S5 => ?_) (.inr lo)
          refine wpAny_mono ((su a oe4 cls d (X.pn ++ pins) hz4 ⟨_, hd4⟩).run [] t5 _ H' _ S5 (yes rfl a na)) (fun fl t6 q => ?_) fun _ _ z => z.elim
          cases fl with
          | next => obtain ⟨_, _, _, z⟩ := q; exact z.elim
          | brk => obtain ⟨_, _, _, z⟩ := q; exact z.elim
          | cont => obtain ⟨_, _, _, z⟩ := q; exact z.elim
          | ret u =>
            obtain ⟨v6, σ6, H6, S6, r6, q6⟩ := q
            exact gone_ok (S6.unsuite I0) nd hi lo fun t7 K7 => ⟨_, _, _, K7, r6, q6⟩
    exact each hh wish
  · cases fl with
    | next =>
      obtain ⟨σ', H', K', q⟩ := q
      exact wpAny_execs_nil ⟨σ', H', K'.ofTry I0, q⟩
    | brk =>
      obtain ⟨σ', H', K', q⟩ := q
      exact ⟨σ', H', K'.ofTry I0, q⟩
    | cont =>
      obtain ⟨σ', H', K', q⟩ := q
      exact ⟨σ', H', K'.ofTry I0, q⟩
    | ret u =>
      obtain ⟨v, σ', H', K', r, q⟩ := q
      exact ⟨v, σ', H', K'.ofTry I0, r, q⟩
end LK

set_option maxHeartbeats 4000000
namespace PySem.W
open PySem PyProof.Rows
section
variable {prog : Program} {w : World} {A : Around} {E : Value → Shared → Prop} {s : Shared} {K : Frag} {x C L f : Addr} {h₀ : Heap} {m : Str → Option Value} {ox : Obj} {od : Option Obj} {b tb : Value}
theorem own_boundB {M : Model} {id : String} {name : Str} {args : List Value} {Q : Option Value → Shared → Prop} (X : K.In s.heap) (I : InstAt s.heap x ox C od) (hs : findIn K (.ref C) name = some (some (.builtin id))) (hb : ∀ v, bindSpecial (.builtin id) v = pure (.builtin id, [v]))
    (h : wpAny M A (call (.builtin id) (.ref x :: args)) (fun v => Q (some v)) E s) : wpAny M A (callSpecialIfBound? (.ref x) name args) Q E s := by
  simp only [callSpecialIfBound?, bindSpecialIfBound?]
  refine wpAny_holding (wpAny_bind (wpAny_bind (wpAny_bind (I.type.here ((looks_findIn X hs).here ?_)))))
  simp only [hb]
  refine wpAny_bind (wpAny_askSetting (wpAny_ite ?_))
  have last : wpAny M A (call (.builtin id) ([.ref x] ++ args) >>= fun v => pure (some v)) Q E s := wpAny_bind (wpAny_mono h (fun v t q => wpAny_pure q) fun _ _ q => q)
  split
  · exact wpAny_bind (wpAny_pure (wpAny_pure last))
  · exact wpAny_tryCatch (wpAny_bind (wpAny_pure (wpAny_pure last)))
theorem own_ne {Q : Value → Shared → Prop} (hu : A.units + 1 < cLine) (Fm : Fr h₀ L s.heap m) (X₀ : K.In h₀) (I : InstAt s.heap x ox C od) (hb : Looks (model prog w) s.heap (typeOf b) tb) (hn : notFirst K C tb = true)
    (hsN : findIn K (.ref C) "__ne__" = some (some (.builtin "object.__ne__"))) (hsE : findIn K (.ref C) "__eq__" = some (some (.ref f))) (hf : isFn K (.ref f) = true) (ob : subIn K (.ref C) (.type "object") = some true)
    (h : wpAny (model prog w) A.in1 (call (.ref f) [.ref x, b]) (fun v s' => ∃ c, v = .bool c ∧ Q (.bool (!c)) s') E s) : wpAny (model prog w) A (richCompare .NotEq (.ref x) b) Q E s := by
  have X := X₀.keeps Fm.keep
  have entry : wpAny (model prog w) A.in1 (Builtin.«object.__ne__» ⟨[.ref x, b], []⟩) (fun fin s' => ∃ c, fin = .done (.ret (.bool c)) ∧ Q (.bool c) s') E s := by
    unfold Builtin.«object.__ne__»
    have k : wpAny (model prog w) A.in1 (callSpecialIfBound? (.ref x) "__eq__" [b]) (fun r s' => ∃ c, r = some (.bool c) ∧ Q (.bool (!c)) s') E s :=
      ifBound_K X I hsE hf (wpAny_mono h (fun v s' q => by
        obtain ⟨c, rfl, q⟩ := q
        exact ⟨c, rfl, q⟩) fun _ _ q => q)
    obtain ⟨hp, g, d, tk, os⟩ := s
    repeat (first | with_reducible refine wpAny_cRoomFor hu ?_ | with_reducible refine wpAny_bind (wpAny_mono k (fun r s' q => ?_) fun _ _ q => q) | wp_step)
    obtain ⟨c, rfl, q⟩ := q
    obtain ⟨hp, g, d, tk, os⟩ := s'
    refine wpAny_bind (wpAny_truthy_bool ?_)
    exact wpAny_pure ⟨!c, rfl, q⟩
  have one : wpAny (model prog w) A (tryCompare (.ref x) "__ne__" b) (fun r s' => ∃ v, r = some v ∧ Q v s') E s := by
    unfold tryCompare
    have inst : ∀ {Q : Bool → Shared → Prop} {E : Value → Shared → Prop}, Q true s → wpAny (model prog w) A.in1 (isInstance (.ref x) (.type "object")) Q E s := fun {Q E} q => by
      unfold isInstance
      exact wpAny_bind (I.type.here ((looks_subIn X ob).here q))
    have chk : ∀ {Q : Unit → Shared → Prop} {E : Value → Shared → Prop}, Q () s → wpAny (model prog w) A.in1 (checkBuiltinCall "object.__ne__" ⟨[.ref x, b], []⟩) Q E s := fun {Q E} q => by
      simp only [checkBuiltinCall, PySem.F.cmpKind_ne, PySem.F.cmpSplit_ne]
      refine wpAny_bind (inst ?_)
      have ha := PySem.F.cmpArgs_ne (.ref x) b
      cases sg : Manifest.signature? "object.__ne__" with
      | none => exact wpAny_pure q
      | some sig =>
        simp only [argsOk, sg] at ha
        have h2 : Bind.checkArgs "object.__ne__" sig ⟨[.ref x, b], []⟩ = pure () := ha
        show wpAny _ A.in1 (Bind.checkArgs "object.__ne__" sig ⟨[.ref x, b], []⟩) Q E s
        rw [h2]
        exact wpAny_pure q
    refine wpAny_bind (own_boundB X I hsN (fun v => PySem.F.cmp_object.ne.bind v) (wpAny_call (codeAny_call_builtin PySem.F.cmp_object.ne.plain PySem.F.cmpEntry_ne (chk ?_))))
    refine wpAny_mono entry (fun fin s' q => ?_) fun _ _ q => q
    obtain ⟨c, rfl, q⟩ := q
    exact wpAny_pure ⟨_, rfl, q⟩
  unfold richCompare
  simp only [oneThing_ref]
  refine wpAny_holding (wpAny_bind (wpAny_cRoomFor (Nat.lt_of_succ_lt hu) (wpAny_bind (I.type.here (wpAny_bind (hb.here ?_))))))
  split
  · rename_i q
    have e : subIn K tb (.ref C) = some false := by
      rcases Bool.or_eq_true_iff.mp hn with z | z
      · rw [beq_iff_eq.mp z] at q
        simp at q
      · exact beq_iff_eq.mp z
    refine wpAny_bind ((looks_subIn X e).here ?_)
    simp only [Bool.false_eq_true, if_false]
    refine wpAny_bind (wpAny_mono one (fun r s' z => ?_) fun _ _ z => z)
    obtain ⟨v, rfl, q2⟩ := z
    exact wpAny_pure q2
  · refine wpAny_bind (wpAny_pure ?_)
    simp only [Bool.false_eq_true, if_false]
    refine wpAny_bind (wpAny_mono one (fun r s' z => ?_) fun _ _ z => z)
    obtain ⟨v, rfl, q2⟩ := z
    exact wpAny_pure q2
end
end PySem.W
namespace LK
open PySem PySem.Spec PyProof.Rows L2
def rNeG (D : Eqv) : R2 := fun x y H Q => D x y H ∧ ∀ H', Ext H H' → Q (.bl false) H'
section
variable {X : Cx} {CX : CXT} {n : Nat} {C f : Addr} {fd : FuncData} {ps : List Str} {R : Addr → Addr → Hp → Prop} {E : XK}
theorem op_neG (F : FnOk X.prog X.w X.K X.mg X.base CX n f fd ps (spEq R)) (hsE : PySem.W.findIn X.K (.ref C) "__eq__" = some (some (.ref f))) (hsN : PySem.W.findIn X.K (.ref C) "__ne__" = some (some (.builtin "object.__ne__"))) (ob : PySem.W.subIn X.K (.ref C) (.type "object") = some true)
    (hf : PySem.W.isFn X.K (.ref f) = true) (hb : Binds X.K fd ps []) (hr : Room (n + 1) X.A) (hx : Passes CX X E) : OpR X (compareOp .NotEq) (rNeG (DIns C R)) := by
  intro pins s σ H x y u v Q I rx ry h
  obtain ⟨⟨a, b, dx, dy, fs, gs, rfl, rfl, ha, hb', hR⟩, q⟩ := h
  cases rx
  cases ry
  obtain ⟨mA, J, _⟩ := ins_get I.hok ha
  obtain ⟨mB, J', _⟩ := ins_get I.hok hb'
  obtain ⟨od, J, _⟩ := J.look
  obtain ⟨od', J', _⟩ := J'.look
  obtain ⟨m, hF⟩ := I.fr
  show wpAny _ _ (richCompare .NotEq (.ref a) (.ref b)) _ _ _
  refine PySem.W.own_ne (tb := .ref C) (hu_of hr) hF I.ok.mod.kin J J'.type (by simp [PySem.W.notFirst]) hsN hsE hf ob ?_
  have hsp : spEq R [.ref a, .ref b] H (fun v H' => v = .bl true ∧ Ext H H') E := ⟨a, b, rfl, hR, fun H' e => ⟨rfl, e⟩⟩
  refine own_run (vs := [.ref a, .ref b]) F hr.in1 rfl hb hx I (.cons rfl (.cons rfl .nil)) hsp fun w u' H' s' I' rw' q' => ?_
  obtain ⟨rfl, ex⟩ := q'
  cases rw'
  exact ⟨true, rfl, .bl false, H', I', rfl, q H' ex⟩
end
section
variable {X : Cx}
def rIsS (K : PySem.W.Frag) (a D : Addr) (d : Option Addr) : List V → Hp → VK → Prop := fun xs H Q => ∃ (dd : Addr) (fs : List (Str × V)) (c : V) (cv : Value) (b : Bool), xs = [.ref a, c] ∧ d = some dd ∧ H dd = some (.xd fs) ∧ ClsV c cv ∧ PySem.W.kitOne K (.ref D) cv = some b ∧ Q (.bl b) H
theorem call_isS {a D : Addr} {oe : Obj} {d : Option Addr} {pn : List (Addr × Obj)} (ec : ExcC X.K D) (z : L2N.Zn (.ref D) d oe) (hf : ∃ vs, oe.data = .fields vs) : CallR (X.suite a ((a, oe) :: pn)) (.builtin "isinstance") (rIsS X.K a D d) := by
  intro pins s σ H xs us Q I r h
  obtain ⟨dd, fs, c, cv, b, rfl, hd, hdd, k, e, q⟩ := h
  obtain ⟨u1, u2, rfl, r1, r2⟩ := vals2 r
  cases r1
  have e2 := k.eq r2
  subst e2
  obtain ⟨hget, _⟩ := I.pin (a, oe) (List.mem_append_left _ List.mem_cons_self)
  obtain ⟨vs, da⟩ := hf
  obtain ⟨mA, ⟨o, es, ep, ho, _⟩, _⟩ := HasF.get I (.inr hdd)
  have nc : PySem.W.notCls oe = true := by unfold PySem.W.notCls; rw [da] <;> rfl
  have J : PySem.W.InstAt s.heap a oe D (some o) := ⟨hget, z.1, nc, by rw [z.2.1, hd]; exact ho⟩
  exact PySem.W.kia_one (PySem.W.lk_kit ec) I.kIn ⟨oe, some o, J⟩ e (fun z => nomatch z) fun tk => ⟨.bl b, H, I.tok tk, rfl, q⟩
end
section
variable {X : Cx} {CX : CXT} {k : Nat} {f C : Addr} {fd : FuncData} {ps ks : List Str} {sp : Sp} {E : L2.St → XK} {m : Str} {pos apos : Pos} {o e : Expr} {es : List Expr} {ta : TE} {tk t : TA} {kws : List Keyword} {g : List Value → List Value → List Value} {gV : List V → List V → List V}
theorem run_fnAt {pins : List (Addr × Obj)} {σ : L2.St} {H : Hp} {s : Shared} {Q : VK} {us ws : List Value} {vs zs : List V} {n : Nat} (F : FnOk X.prog X.w X.K X.mg X.base CX k f fd ps sp) (hr : Room k X.A) (hb : KBn X.K fd ps n ks g gV) (hx : PassesAt CX X σ (E σ))
    (I : Inv X pins σ H s) (r : Vals vs us) (rz : Vals zs ws) (l1 : vs.length = n) (l2 : zs.length = ks.length) (h : sp (gV vs zs) H Q (E σ)) : wpAny (model X.prog X.w) X.A (call (.ref f) us (ks.zip ws)) (EP X pins σ Q) X.xe s := by
  refine wpAny_call (codeAny_mono (F.run X.A X.stack s H ⟨us, ks.zip ws⟩ (g us ws) (gV vs zs) Q (E σ) hr I.env0 (hb.to s us ws I.kIn (r.length.symm.trans l1) (rz.length.symm.trans l2)) (hb.rel r rz) h) fun r' t q => ?_)
  cases r' with
  | error er => exact hx pins H s er t I q
  | ok fl =>
    cases fl with
    | ret u => exact I.after q
    | next => exact q.elim
    | brk => exact q.elim
    | cont => exact q.elim
def tMethK (C : Addr) (m : Str) (mk : Nat) (sp : Sp) (gV : List V → List V → List V) (E : L2.St → XK) (ta : TE) (tk : TA) : TE := fun σ H Q => ta σ H fun x H1 => ∃ a dx fs, x = .ref a ∧ H1 a = some (.ins C dx fs) ∧ fs.lookup m = none ∧ tk σ H1 fun zs H2 => zs.length = mk ∧ sp (gV [x] zs) H2 Q (E σ)
theorem pe_methK {pl : Sem Bool} (he : PE X o ta) (c : Cls X.K C) (hm : Meth X.K C m f) (F : FnOk X.prog X.w X.K X.mg X.base CX k f fd ps sp) (hr : Room k X.A) (hb : KBn X.K fd ps 1 ks g gV) (hx : ∀ σ, PassesAt CX X σ (E σ)) (hkw : PK X kws tk)
    (hall : (backToKw pos (keywordEach kws X.env)).all (·.1.isSome) = true := by rfl) (hks : (backToKw pos (keywordEach kws X.env)).filterMap (·.1) = ks := by rfl) (hpl : ((backTo pos (starEach [] X.env)).any (·.1) || (backToKw pos (keywordEach kws X.env)).any (·.1.isNone)) = false := by rfl)
    (ht : eval (.Call (.Attribute o m apos) [] kws pos) X.env = (do
      let ov ← eval o X.env
      standAt apos.atName
      let (f, first) ← holding [ov] (getMethod ov m pl)
      callWith pos f first (backTo pos (starEach [] X.env)) (backToKw pos (keywordEach kws X.env))) := by rfl) :
    PE X (.Call (.Attribute o m apos) [] kws pos) (tMethK C m ks.length sp gV E ta tk) := by
  refine ⟨fun pins s σ H Q I h => PySem.W.methodCall_KW (pl := pl) (thn (he.run pins s σ H _ I h) fun u s1 hh => ?_) ht⟩
  obtain ⟨x, H1, I1, rx, a, dx, fs, rfl, ea, l, q⟩ := hh
  obtain rfl : u = Value.ref a := rx
  refine getmeth_ok I1 ea c hm l (PySem.W.callWith_KW0 (first := [.ref a]) (h₀ := X.base) I.ok.mod.kin hm.kp hall ?_ hpl)
  refine thn (hkw.run pos pins s1 σ H1 _ I1 q) fun ws s2 hh => ?_
  obtain ⟨zs, H2, I2, rz, l2, q2⟩ := hh
  refine ⟨I2.kIn, ?_⟩
  rw [hks]
  exact run_fnAt (us := [.ref a]) (vs := [.ref a]) F hr hb (hx σ) I2 (.cons rfl .nil) rz rfl l2 q2
def tMethS' (C : Addr) (m : Str) (sp : Sp) (E : L2.St → XK) (ta : TE) (t : TA) : TE := fun σ H Q => ta σ H fun x H1 => ∃ a dx fs, x = .ref a ∧ H1 a = some (.ins C dx fs) ∧ fs.lookup m = none ∧ t σ H1 fun vs H2 => sp (x :: vs) H2 Q (E σ)
theorem pe_methAt {pl : Sem Bool} (he : PE X o ta) (c : Cls X.K C) (hm : Meth X.K C m f) (F : FnOk X.prog X.w X.K X.mg X.base CX k f fd ps sp) (hr : Room k X.A) (hb : Binds X.K fd ps []) (hx : ∀ σ, PassesAt CX X σ (E σ)) (ha : PA X (e :: es) t)
    (hst : starEach (e :: es) X.env = (false, eval e X.env) :: starEach es X.env := by rfl) (hpl : (backTo pos (starEach es X.env)).any (·.1) = false := by rfl)
    (ht : eval (.Call (.Attribute o m apos) (e :: es) [] pos) X.env = (do
      let ov ← eval o X.env
      standAt apos.atName
      let (f, first) ← holding [ov] (getMethod ov m pl)
      callWith pos f first (backTo pos (starEach (e :: es) X.env)) (backToKw pos (keywordEach [] X.env))) := by rfl) :
    PE X (.Call (.Attribute o m apos) (e :: es) [] pos) (tMethS' C m sp E ta t) := by
  refine ⟨fun pins s σ H Q I h => PySem.W.methodCall_KW (pl := pl) (thn (he.run pins s σ H _ I h) fun u s1 hh => ?_) ht⟩
  obtain ⟨x, H1, I1, rx, a, dx, fs, rfl, ea, l, q⟩ := hh
  obtain rfl : u = Value.ref a := rx
  refine getmeth_ok I1 ea c hm l (PySem.W.callWith_K (first := [.ref a]) (h₀ := X.base) I.ok.mod.kin hm.kp (thn (ha.run pos pins s1 σ H1 _ I1 q) fun us s2 hh => ?_) hst hpl)
  obtain ⟨vs, H2, I2, r, q2⟩ := hh
  refine ⟨I2.kIn, ?_⟩
  have hl : (Value.ref a :: us).length = ps.length := by
    rw [← F.len _ _ _ _ q2]
    show us.length + 1 = vs.length + 1
    rw [r.length]
  have b := hb s2 (.ref a :: us) I2.kIn (by rw [List.append_nil]; exact hl)
  rw [List.append_nil] at b
  refine wpAny_call (codeAny_mono (F.run X.A X.stack s2 H2 ⟨.ref a :: us, []⟩ (.ref a :: us) (.ref a :: vs) Q (E σ) hr I2.env0 b (.cons rfl r) q2) fun r' t q => ?_)
  cases r' with
  | error er => exact hx σ pins H2 s2 er t I2 q
  | ok fl =>
    cases fl with
    | ret u => exact I2.after q
    | next => exact q.elim
    | brk => exact q.elim
    | cont => exact q.elim
end
end LK

/-! The runs of a store, as plain mathematics (looksleft/running.py): what a deed does; that no write comes twice; that a run that can go on no more is finished. -/
namespace Km
/-- a store: houses, roads, homes, cells -/
structure W where
  n : Nat
  ps : List (Nat × Nat)
  hs : List Nat
  cs : List Nat
def nb (w : W) (u v : Nat) : Prop := (u, v) ∈ w.ps ∨ (v, u) ∈ w.ps
instance (w : W) (u v : Nat) : Decidable (nb w u v) := inferInstanceAs (Decidable (_ ∨ _))
theorem nb.symm {w : W} {u v : Nat} (h : nb w u v) : nb w v u := Or.symm h
/-- each house but the root has one next to it that is nearer; each road leads so -/
def RootAt (w : W) (r : Nat) (par rank : Nat → Nat) : Prop :=
  (∀ x, x < w.n → x ≠ r → par x < w.n ∧ nb w x (par x) ∧ rank (par x) < rank x) ∧ ∀ a b, nb w a b → (a ≠ r ∧ par a = b) ∨ (b ≠ r ∧ par b = a)
structure Ok (w : W) : Prop where
  pos : 1 ≤ w.n
  most : w.n ≤ 16
  ed : ∀ p ∈ w.ps, p.1 < w.n ∧ p.2 < w.n ∧ p.1 < p.2
  root : ∀ r, r < w.n → ∃ par rank, RootAt w r par rank
  few : w.hs.length ≤ 12
  hm : ∀ h ∈ w.hs, h < w.n
  cl : w.cs.length = w.hs.length
  c6 : ∀ c ∈ w.cs, c < 6
theorem nb_r {w : W} (ok : Ok w) {u v : Nat} (h : nb w u v) : v < w.n := by
  rcases h with q | q
  · exact (ok.ed _ q).2.1
  · exact (ok.ed _ q).1
def home (w : W) (k : Nat) : Nat := w.hs.getD k 0
theorem home_lt {w : W} (ok : Ok w) {k : Nat} (h : k < w.hs.length) : home w k < w.n := by
  unfold home
  rw [List.getD_eq_getElem?_getD, List.getElem?_eq_getElem h]
  exact ok.hm _ (List.getElem_mem h)
inductive Dd where
  | mk (h : Nat)
  | hd (u v : Nat)
structure S where
  bk : Nat → List Nat
  qu : Nat → Nat → List Nat
  dd : List Dd
def near (w : W) (h : Nat) : List Nat := (List.range w.n).filter fun o => decide (nb w h o)
def left (w : W) (s : S) (h : Nat) : List Nat := (List.range w.hs.length).filter fun k => decide (home w k = h) && !(s.bk h).contains k
/-- a write comes to a house -/
def arrive (w : W) (s : S) (k src h : Nat) : S :=
  { s with bk := fun x => if x = h then s.bk h ++ [k] else s.bk x, qu := fun a b => if a = h ∧ nb w h b ∧ b ≠ src then s.qu a b ++ [k] else s.qu a b }
def popQ (s : S) (u v : Nat) : S := { s with qu := fun a b => if a = u ∧ b = v then (s.qu u v).tail else s.qu a b }
def said (s : S) (d : Dd) : S := { s with dd := s.dd ++ [d] }
/-- the state behind a deed, and the write; none where it can't be done -/
def step (w : W) (s : S) : Dd → Option (S × Nat)
  | .mk h => match left w s h with
    | [] => none
    | k :: _ => if h < w.n then some (said (arrive w s k h h) (.mk h), k) else none
  | .hd u v => match s.qu u v with
    | [] => none
    | k :: _ => if nb w u v then some (said (arrive w (popQ s u v) k u v) (.hd u v), k) else none
def begun : S := ⟨fun _ => [], fun _ _ => [], []⟩
inductive Run (w : W) : S → Prop
  | nil : Run w begun
  | on {s t : S} {d : Dd} {k : Nat} : Run w s → step w s d = some (t, k) → Run w t
structure Inv (w : W) (s : S) : Prop where
  q1 : ∀ u v k, k ∈ s.qu u v → k < w.hs.length ∧ nb w u v ∧ k ∈ s.bk (home w k)
  b1 : ∀ h k, k ∈ s.bk h → k < w.hs.length ∧ k ∈ s.bk (home w k)
  y1 : ∀ k, k < w.hs.length → ∀ par rank, RootAt w (home w k) par rank → ∀ u v, k ∈ s.qu u v → v ≠ home w k ∧ par v = u
  y2 : ∀ k, k < w.hs.length → ∀ par rank, RootAt w (home w k) par rank → ∀ v, v < w.n → v ≠ home w k → (s.bk (par v)).count k = (s.bk v).count k + (s.qu (par v) v).count k
  y3 : ∀ k, k < w.hs.length → (s.bk (home w k)).count k ≤ 1
theorem inv_nil (w : W) : Inv w begun where
  q1 := fun _ _ _ h => by cases h
  b1 := fun _ _ h => by cases h
  y1 := fun _ _ _ _ _ _ _ h => by cases h
  y2 := fun _ _ _ _ _ _ _ _ => rfl
  y3 := fun _ _ => Nat.zero_le _
theorem arr_bk {w : W} {s : S} {k src h x : Nat} : (arrive w s k src h).bk x = if x = h then s.bk h ++ [k] else s.bk x := rfl
theorem arr_count {w : W} {s : S} {k src h x j : Nat} : ((arrive w s k src h).bk x).count j = (s.bk x).count j + (if x = h ∧ j = k then 1 else 0) := by
  rw [arr_bk]
  by_cases c : x = h
  · subst c
    rw [if_pos rfl, List.count_append, List.count_singleton]
    by_cases e : j = k
    · subst e
      simp
    · have e2 : k ≠ j := fun z => e z.symm
      simp [e, e2]
  · rw [if_neg c]
    simp [c]
theorem arr_mem {w : W} {s : S} {k src h x j : Nat} : j ∈ (arrive w s k src h).bk x ↔ j ∈ s.bk x ∨ (x = h ∧ j = k) := by
  rw [arr_bk]
  by_cases c : x = h
  · subst c
    simp
  · simp [c]
theorem arr_l {w : W} {s : S} {k src h x j : Nat} {d : Dd} (z : j ∈ s.bk x) : j ∈ (said (arrive w s k src h) d).bk x := (arr_mem (w := w) (src := src)).mpr (.inl z)
theorem arr_r {w : W} {s : S} {k src h : Nat} {d : Dd} : k ∈ (said (arrive w s k src h) d).bk h := (arr_mem (w := w) (src := src)).mpr (.inr ⟨rfl, rfl⟩)
theorem arr_qmem {w : W} {s : S} {k src h a b j : Nat} : j ∈ (arrive w s k src h).qu a b ↔ j ∈ s.qu a b ∨ (a = h ∧ nb w h b ∧ b ≠ src ∧ j = k) := by
  show j ∈ (if a = h ∧ nb w h b ∧ b ≠ src then s.qu a b ++ [k] else s.qu a b) ↔ _
  by_cases c : a = h ∧ nb w h b ∧ b ≠ src
  · rw [if_pos c]
    simp [c]
  · rw [if_neg c]
    constructor
    · exact .inl
    · rintro (h | ⟨h1, h2, h3, _⟩)
      · exact h
      · exact absurd ⟨h1, h2, h3⟩ c
theorem arr_qcount {w : W} {s : S} {k src h a b j : Nat} : ((arrive w s k src h).qu a b).count j = (s.qu a b).count j + (if (a = h ∧ nb w h b ∧ b ≠ src) ∧ j = k then 1 else 0) := by
  show (if a = h ∧ nb w h b ∧ b ≠ src then s.qu a b ++ [k] else s.qu a b).count j = _
  by_cases c : a = h ∧ nb w h b ∧ b ≠ src
  · rw [if_pos c, List.count_append, List.count_singleton]
    by_cases e : j = k
    · subst e
      simp [c]
    · have e2 : k ≠ j := fun z => e z.symm
      simp [e, e2]
  · rw [if_neg c]
    simp [c]
theorem inv_mk {w : W} (ok : Ok w) {s : S} (I : Inv w s) {h k : Nat} (hk : k < w.hs.length) (hh : home w k = h) (nk : k ∉ s.bk h) (d : Dd) : Inv w (said (arrive w s k h h) d) := by
  subst hh
  refine ⟨fun u v j hj => ?_, fun x j hj => ?_, fun j lj par rank R u v hj => ?_, fun j lj par rank R v lv nv => ?_, fun j lj => ?_⟩
  · rcases arr_qmem.mp hj with z | ⟨e, n1, n2, e2⟩
    · obtain ⟨z1, z2, z3⟩ := I.q1 u v j z
      exact ⟨z1, z2, arr_l z3⟩
    · subst e2 e
      exact ⟨hk, n1, arr_r⟩
  · rcases (arr_mem (w := w) (src := 0)).mp hj with z | ⟨e, e2⟩
    · obtain ⟨z1, z3⟩ := I.b1 x j z
      exact ⟨z1, arr_l z3⟩
    · subst e2
      exact ⟨hk, arr_r⟩
  · rcases arr_qmem.mp hj with z | ⟨e, n1, n2, e2⟩
    · exact I.y1 j lj par rank R u v z
    · subst e2 e
      rcases R.2 _ _ n1 with ⟨z, _⟩ | z
      · exact absurd rfl z
      · exact z
  · have z := I.y2 j lj par rank R v lv nv
    show ((arrive w s k (home w k) (home w k)).bk (par v)).count j = ((arrive w s k (home w k) (home w k)).bk v).count j + ((arrive w s k (home w k) (home w k)).qu (par v) v).count j
    rw [arr_count, arr_count, arr_qcount, z]
    by_cases e : j = k
    · subst e
      have hp := R.1 v lv nv
      by_cases c : par v = home w j
      · have e3 : nb w (home w j) v := by rw [← c]; exact hp.2.1.symm
        simp [c, nv, e3]
        omega
      · simp [c, nv]
    · simp [e]
  · show ((arrive w s k (home w k) (home w k)).bk (home w j)).count j ≤ 1
    rw [arr_count]
    by_cases e : j = k
    · subst e
      rw [List.count_eq_zero.mpr nk]
      simp
    · have := I.y3 j lj
      simp [e]
      exact this
theorem pop_qmem {s : S} {u v a b j : Nat} (h : j ∈ (popQ s u v).qu a b) : j ∈ s.qu a b := by
  have h : j ∈ (if a = u ∧ b = v then (s.qu u v).tail else s.qu a b) := h
  by_cases c : a = u ∧ b = v
  · rw [if_pos c] at h
    rw [c.1, c.2]
    exact List.mem_of_mem_tail h
  · rw [if_neg c] at h
    exact h
theorem pop_qcount {s : S} {u v a b j k : Nat} {r : List Nat} (h : s.qu u v = k :: r) : ((popQ s u v).qu a b).count j + (if (a = u ∧ b = v) ∧ j = k then 1 else 0) = (s.qu a b).count j := by
  show (if a = u ∧ b = v then (s.qu u v).tail else s.qu a b).count j + _ = _
  by_cases c : a = u ∧ b = v
  · rw [if_pos c, c.1, c.2, h, List.tail_cons, List.count_cons]
    by_cases e : j = k
    · subst e
      simp
    · have e2 : k ≠ j := fun z => e z.symm
      simp [e, e2]
  · rw [if_neg c]
    simp [c]
theorem inv_hd {w : W} (ok : Ok w) {s : S} (I : Inv w s) {u v k : Nat} {r : List Nat} (hq : s.qu u v = k :: r) (d : Dd) : Inv w (said (arrive w (popQ s u v) k u v) d) := by
  have kin : k ∈ s.qu u v := by rw [hq]; exact .head _
  obtain ⟨hk, huv, hhome⟩ := I.q1 u v k kin
  refine ⟨fun a b j hj => ?_, fun x j hj => ?_, fun j lj par rank R a b hj => ?_, fun j lj par rank R x lx nx => ?_, fun j lj => ?_⟩
  · rcases arr_qmem.mp hj with z | ⟨e, n1, n2, e2⟩
    · obtain ⟨z1, z2, z3⟩ := I.q1 a b j (pop_qmem z)
      exact ⟨z1, z2, arr_l z3⟩
    · subst e2 e
      exact ⟨hk, n1, arr_l (s := popQ s u _) hhome⟩
  · rcases (arr_mem (w := w) (src := 0)).mp hj with z | ⟨e, e2⟩
    · obtain ⟨z1, z3⟩ := I.b1 x j z
      exact ⟨z1, arr_l z3⟩
    · subst e2
      exact ⟨hk, arr_l (s := popQ s u _) hhome⟩
  · rcases arr_qmem.mp hj with z | ⟨e, n1, n2, e2⟩
    · exact I.y1 j lj par rank R a b (pop_qmem z)
    · subst e2 e
      obtain ⟨y, yu⟩ := I.y1 j lj par rank R u a kin
      rcases R.2 _ _ n1 with ⟨_, z⟩ | z
      · exact absurd (z.symm.trans yu) n2
      · exact z
  · have z := I.y2 j lj par rank R x lx nx
    have p := pop_qcount (a := par x) (b := x) (j := j) hq
    show ((arrive w (popQ s u v) k u v).bk (par x)).count j = ((arrive w (popQ s u v) k u v).bk x).count j + ((arrive w (popQ s u v) k u v).qu (par x) x).count j
    rw [arr_count, arr_count, arr_qcount]
    show (s.bk (par x)).count j + _ = (s.bk x).count j + _ + _
    by_cases e : j = k
    · subst e
      obtain ⟨yv, yu⟩ := I.y1 j lj par rank R u v kin
      have hp := R.1 x lx nx
      have lv : v < w.n := nb_r ok huv
      have hv := R.1 v lv yv
      by_cases c : x = v
      · subst c
        have n1 : u ≠ x := fun z => by
          have := hv.2.2
          rw [yu, z] at this
          omega
        have n2 : par x ≠ x := by rw [yu]; exact n1
        simp [yu, n1] at p z ⊢
        omega
      · by_cases c2 : par x = v
        · have e3 : nb w v x := by rw [← c2]; exact hp.2.1.symm
          have e4 : x ≠ u := fun z => by
            subst z
            have a1 := hp.2.2
            have a2 := hv.2.2
            rw [c2] at a1
            rw [yu] at a2
            omega
          simp [c, c2, e3, e4] at p z ⊢
          omega
        · simp [c, c2] at p z ⊢
          omega
    · simp [e] at p ⊢
      omega
  · show ((arrive w (popQ s u v) k u v).bk (home w j)).count j ≤ 1
    rw [arr_count]
    by_cases e : j = k
    · subst e
      obtain ⟨par, rank, R⟩ := ok.root (home w j) (home_lt ok lj)
      obtain ⟨y, _⟩ := I.y1 j lj par rank R u v kin
      have := I.y3 j lj
      simp [Ne.symm y]
      exact this
    · have := I.y3 j lj
      simp [e]
      exact this
theorem left_mem {w : W} {s : S} {h k : Nat} : k ∈ left w s h ↔ k < w.hs.length ∧ home w k = h ∧ k ∉ s.bk h := by
  unfold left
  simp [and_assoc]
theorem step_mk {w : W} {s t : S} {h k : Nat} (e : step w s (.mk h) = some (t, k)) : ∃ r, left w s h = k :: r ∧ h < w.n ∧ t = said (arrive w s k h h) (.mk h) := by
  have e : (match left w s h with | [] => none | k :: _ => if h < w.n then some (said (arrive w s k h h) (.mk h), k) else none) = some (t, k) := e
  cases z : left w s h with
  | nil => rw [z] at e; cases e
  | cons j r =>
    simp only [z] at e
    by_cases q : h < w.n
    · rw [if_pos q] at e
      cases e
      exact ⟨r, rfl, q, rfl⟩
    · rw [if_neg q] at e
      cases e
theorem step_hd {w : W} {s t : S} {u v k : Nat} (e : step w s (.hd u v) = some (t, k)) : ∃ r, s.qu u v = k :: r ∧ nb w u v ∧ t = said (arrive w (popQ s u v) k u v) (.hd u v) := by
  have e : (match s.qu u v with | [] => none | k :: _ => if nb w u v then some (said (arrive w (popQ s u v) k u v) (.hd u v), k) else none) = some (t, k) := e
  cases z : s.qu u v with
  | nil => rw [z] at e; cases e
  | cons j r =>
    simp only [z] at e
    by_cases q : nb w u v
    · rw [if_pos q] at e
      cases e
      exact ⟨r, rfl, q, rfl⟩
    · rw [if_neg q] at e
      cases e
theorem mk_step {w : W} {s : S} {h k : Nat} {r : List Nat} (e : left w s h = k :: r) (hh : h < w.n) : step w s (.mk h) = some (said (arrive w s k h h) (.mk h), k) := by
  show (match left w s h with | [] => none | k :: _ => if h < w.n then some (said (arrive w s k h h) (.mk h), k) else none) = _
  simp only [e]
  rw [if_pos hh]
theorem hd_step {w : W} {s : S} {u v k : Nat} {r : List Nat} (e : s.qu u v = k :: r) (hh : nb w u v) : step w s (.hd u v) = some (said (arrive w (popQ s u v) k u v) (.hd u v), k) := by
  show (match s.qu u v with | [] => none | k :: _ => if nb w u v then some (said (arrive w (popQ s u v) k u v) (.hd u v), k) else none) = _
  simp only [e]
  rw [if_pos hh]
theorem Run.inv {w : W} (ok : Ok w) {s : S} (h : Run w s) : Inv w s := by
  induction h with
  | nil => exact inv_nil w
  | @on s t d k _ e I =>
    cases d with
    | mk h =>
      obtain ⟨r, z, q, rfl⟩ := step_mk e
      have hj : k ∈ left w s h := by rw [z]; exact .head _
      obtain ⟨a, b, c⟩ := left_mem.mp hj
      exact inv_mk ok I a b c _
    | hd u v =>
      obtain ⟨r, z, q, rfl⟩ := step_hd e
      exact inv_hd ok I z _
/-- no write comes twice to a house -/
theorem Inv.once {w : W} (ok : Ok w) {s : S} (I : Inv w s) {k : Nat} (hk : k < w.hs.length) {v : Nat} (hv : v < w.n) : (s.bk v).count k ≤ 1 := by
  obtain ⟨par, rank, R⟩ := ok.root (home w k) (home_lt ok hk)
  have go : ∀ (m v : Nat), rank v ≤ m → v < w.n → (s.bk v).count k ≤ 1 := by
    intro m
    induction m with
    | zero =>
      intro v hm lv
      by_cases c : v = home w k
      · rw [c]; exact I.y3 k hk
      · have := (R.1 v lv c).2.2
        omega
    | succ m ih =>
      intro v hm lv
      by_cases c : v = home w k
      · rw [c]; exact I.y3 k hk
      · have a := R.1 v lv c
        have b := I.y2 k hk par rank R v lv c
        have d := ih (par v) (by omega) a.1
        omega
  exact go _ v (Nat.le_refl _) hv
theorem Inv.nodup {w : W} (ok : Ok w) {s : S} (I : Inv w s) {v : Nat} (hv : v < w.n) : (s.bk v).Nodup := List.nodup_iff_count.mpr fun k => by
  by_cases c : k ∈ s.bk v
  · exact I.once ok (I.b1 v k c).1 hv
  · rw [List.count_eq_zero.mpr c]
    exact Nat.zero_le _
theorem Inv.few {w : W} (ok : Ok w) {s : S} (I : Inv w s) {v : Nat} (hv : v < w.n) : (s.bk v).length ≤ w.hs.length := by
  have := List.Nodup.length_le_of_subset (l₂ := List.range w.hs.length) (I.nodup ok hv) fun k hk => List.mem_range.mpr (I.b1 v k hk).1
  rw [List.length_range] at this
  exact this
def Stuck (w : W) (s : S) : Prop := (∀ h, h < w.n → left w s h = []) ∧ ∀ u v, nb w u v → s.qu u v = []
/-- where nothing can be done any more, all has come to all -/
theorem Inv.full {w : W} (ok : Ok w) {s : S} (I : Inv w s) (st : Stuck w s) {v : Nat} (hv : v < w.n) : (s.bk v).length = w.hs.length := by
  have all : ∀ k, k < w.hs.length → ∀ v, v < w.n → (s.bk v).count k = 1 := by
    intro k hk
    obtain ⟨par, rank, R⟩ := ok.root (home w k) (home_lt ok hk)
    have go : ∀ (m v : Nat), rank v ≤ m → v < w.n → (s.bk v).count k = 1 := by
      intro m
      have base : (s.bk (home w k)).count k = 1 := by
        have a : k ∈ s.bk (home w k) := Classical.byContradiction fun c => by
          have z : k ∈ left w s (home w k) := left_mem.mpr ⟨hk, rfl, c⟩
          rw [st.1 _ (home_lt ok hk)] at z
          cases z
        have := List.count_pos_iff.mpr a
        have := I.y3 k hk
        omega
      induction m with
      | zero =>
        intro v hm lv
        by_cases c : v = home w k
        · rw [c]; exact base
        · have := (R.1 v lv c).2.2
          omega
      | succ m ih =>
        intro v hm lv
        by_cases c : v = home w k
        · rw [c]; exact base
        · have a := R.1 v lv c
          have b := I.y2 k hk par rank R v lv c
          have d := ih (par v) (by omega) a.1
          rw [st.2 _ _ a.2.1.symm] at b
          simp at b
          omega
    exact fun v hv => go _ v (Nat.le_refl _) hv
  have h1 := I.few ok hv
  have h2 := List.Nodup.length_le_of_subset (l₁ := List.range w.hs.length) (l₂ := s.bk v) List.nodup_range fun k hk => by
    have := all k (List.mem_range.mp hk) v hv
    exact List.count_pos_iff.mp (by omega)
  rw [List.length_range] at h2
  omega
/-- where all has come to all, nothing can be done -/
theorem Inv.stuck {w : W} (ok : Ok w) {s : S} (I : Inv w s) (f : ∀ v, v < w.n → (s.bk v).length = w.hs.length) : Stuck w s := by
  have all : ∀ v, v < w.n → ∀ k, k < w.hs.length → k ∈ s.bk v := fun v hv k hk => Classical.byContradiction fun c => by
    have nd : (k :: s.bk v).Nodup := List.nodup_cons.mpr ⟨c, I.nodup ok hv⟩
    have := List.Nodup.length_le_of_subset (l₂ := List.range w.hs.length) nd fun j hj => by
      rcases List.mem_cons.mp hj with z | z
      · exact List.mem_range.mpr (z ▸ hk)
      · exact List.mem_range.mpr (I.b1 v j z).1
    rw [List.length_range, List.length_cons, f v hv] at this
    omega
  refine ⟨fun h hh => ?_, fun u v huv => ?_⟩
  · refine List.eq_nil_iff_forall_not_mem.mpr fun k hk => ?_
    obtain ⟨a, b, c⟩ := left_mem.mp hk
    exact c (all h hh k a)
  · refine List.eq_nil_iff_forall_not_mem.mpr fun k hk => ?_
    obtain ⟨lk, _, _⟩ := I.q1 u v k hk
    obtain ⟨par, rank, R⟩ := ok.root (home w k) (home_lt ok lk)
    obtain ⟨nv, pv⟩ := I.y1 k lk par rank R u v hk
    have lv : v < w.n := nb_r ok huv
    have b := I.y2 k lk par rank R v lv nv
    have a := R.1 v lv nv
    have c1 := List.count_pos_iff.mpr (all v lv k lk)
    have c2 := I.once ok lk (v := par v) a.1
    rw [pv] at b c2
    have c3 := List.count_pos_iff.mpr hk
    omega
/-! how many have come -/
def total (w : W) (s : S) : Nat := ((List.range w.n).map fun h => (s.bk h).length).sum
theorem sum_upd : ∀ (n : Nat) (f g : Nat → Nat) (h : Nat), h < n → (∀ x, x ≠ h → f x = g x) → f h = g h + 1 → ((List.range n).map f).sum = ((List.range n).map g).sum + 1
  | 0, _, _, h, lt, _, _ => absurd lt (Nat.not_lt_zero _)
  | n + 1, f, g, h, lt, e, e1 => by
    rw [List.range_succ, List.map_append, List.map_append, List.sum_append, List.sum_append]
    simp only [List.map_cons, List.map_nil, List.sum_cons, List.sum_nil]
    by_cases c : h = n
    · subst c
      have z : (List.range h).map f = (List.range h).map g := List.map_congr_left fun x hx => e x (by have := List.mem_range.mp hx; omega)
      rw [z]
      omega
    · have z := sum_upd n f g h (by omega) e e1
      have := e n (fun z => c z.symm)
      omega
theorem total_arr {w : W} {s : S} {k src h : Nat} (hh : h < w.n) : total w (arrive w s k src h) = total w s + 1 :=
  sum_upd w.n _ _ h hh (fun x nx => by rw [arr_bk, if_neg nx]) (by rw [arr_bk, if_pos rfl, List.length_append]; rfl)
theorem step_total {w : W} (ok : Ok w) {s t : S} {d : Dd} {k : Nat} (e : step w s d = some (t, k)) : total w t = total w s + 1 := by
  cases d with
  | mk h =>
    obtain ⟨r, z, q, rfl⟩ := step_mk e
    exact total_arr (s := s) (src := h) q
  | hd u v =>
    obtain ⟨r, z, q, rfl⟩ := step_hd e
    exact total_arr (s := popQ s u v) (src := u) (nb_r ok q)
theorem sum_le : ∀ (n m : Nat) (f : Nat → Nat), (∀ x, x < n → f x ≤ m) → ((List.range n).map f).sum ≤ n * m
  | 0, _, _, _ => Nat.zero_le _
  | n + 1, m, f, h => by
    rw [List.range_succ, List.map_append, List.sum_append]
    simp only [List.map_cons, List.map_nil, List.sum_cons, List.sum_nil]
    have a := sum_le n m f fun x hx => h x (by omega)
    have b := h n (by omega)
    rw [Nat.succ_mul]
    omega
theorem sum_full : ∀ (n m : Nat) (f : Nat → Nat), (∀ x, x < n → f x ≤ m) → n * m ≤ ((List.range n).map f).sum → ∀ x, x < n → f x = m
  | 0, _, _, _, _, x, hx => absurd hx (Nat.not_lt_zero _)
  | n + 1, m, f, h, e, x, hx => by
    rw [List.range_succ, List.map_append, List.sum_append] at e
    simp only [List.map_cons, List.map_nil, List.sum_cons, List.sum_nil] at e
    have a := sum_le n m f fun x hx => h x (by omega)
    have b := h n (by omega)
    rw [Nat.succ_mul] at e
    by_cases c : x = n
    · subst c
      omega
    · exact sum_full n m f (fun x hx => h x (by omega)) (by omega) x (by omega)
theorem Inv.total_stuck {w : W} (ok : Ok w) {s : S} (I : Inv w s) (h : w.n * w.hs.length ≤ total w s) : Stuck w s :=
  I.stuck ok fun v hv => sum_full w.n w.hs.length (fun h => (s.bk h).length) (fun x hx => I.few ok hx) h v hv
theorem Inv.total_le {w : W} (ok : Ok w) {s : S} (I : Inv w s) : total w s ≤ w.n * w.hs.length := sum_le w.n w.hs.length (fun h => (s.bk h).length) fun x hx => I.few ok hx
end Km

set_option maxHeartbeats 4000000
/-! ### runnings: the lists that change, and all else that stays -/
namespace Km
theorem Inv.qone {w : W} (ok : Ok w) {s : S} (I : Inv w s) (u v k : Nat) : (s.qu u v).count k ≤ 1 := by
  by_cases m : k ∈ s.qu u v
  · obtain ⟨hk, hn, _⟩ := I.q1 u v k m
    obtain ⟨par, rank, hR⟩ := ok.root (home w k) (home_lt ok hk)
    obtain ⟨hv, hp⟩ := I.y1 k hk par rank hR u v m
    have e := I.y2 k hk par rank hR v (nb_r ok hn) hv
    rw [hp] at e
    have := I.once ok hk (nb_r ok hn.symm)
    omega
  · rw [List.count_eq_zero_of_not_mem m]
    omega
theorem Inv.qfew {w : W} (ok : Ok w) {s : S} (I : Inv w s) (u v : Nat) : (s.qu u v).length ≤ w.hs.length := by
  have nd : (s.qu u v).Nodup := List.nodup_iff_count.mpr fun k => I.qone ok u v k
  have := List.Nodup.length_le_of_subset (l₂ := List.range w.hs.length) nd fun k hk => List.mem_range.mpr (I.q1 u v k hk).1
  rwa [List.length_range] at this
theorem Run.dd {w : W} (ok : Ok w) {s : S} (h : Run w s) : s.dd.length = total w s := by
  induction h with
  | nil =>
    unfold total begun
    have : ∀ l : List Nat, (l.map fun _ => 0).sum = 0 := by
      intro l
      induction l with
      | nil => rfl
      | cons a l ih => rw [List.map_cons, List.sum_cons, ih]
    exact (this _).symm
  | @on s t d k r e ih =>
    have h1 := step_total ok e
    cases d with
    | mk h =>
      obtain ⟨_, _, _, rfl⟩ := step_mk e
      show (s.dd ++ [_]).length = _
      rw [List.length_append, h1, ih]
      rfl
    | hd u v =>
      obtain ⟨_, _, _, rfl⟩ := step_hd e
      show (s.dd ++ [_]).length = _
      rw [List.length_append, h1, ih]
      rfl
theorem Run.ddfew {w : W} (ok : Ok w) {s : S} (h : Run w s) : s.dd.length ≤ 192 := by
  rw [h.dd ok]
  have h1 := (h.inv ok).total_le ok
  have h2 := ok.most
  have h3 := ok.few
  have : w.n * w.hs.length ≤ 16 * 12 := Nat.mul_le_mul h2 h3
  omega
end Km
namespace Tr
open PySem PySem.Spec PyProof.Rows L2 LK Evl
/-- all but the objects of F stay -/
def Fr (F : Addr → Prop) (H H' : Hp) : Prop := ∀ a o, ¬ F a → H a = some o → H' a = some o
theorem Fr.refl {F : Addr → Prop} {H : Hp} : Fr F H H := fun _ _ _ e => e
theorem Fr.trans {F : Addr → Prop} {A B D : Hp} (h : Fr F A B) (k : Fr F B D) : Fr F A D := fun a o n e => k a o n (h a o n e)
theorem Fr.of {F : Addr → Prop} {A B : Hp} (h : Ex A B) : Fr F A B := fun a o _ e => h a o e
theorem Fr.up {F G : Addr → Prop} {A B : Hp} (h : Fr F A B) (k : ∀ a, F a → G a) : Fr G A B := fun a o n e => h a o (fun z => n (k a z)) e
theorem Fr.at {F : Addr → Prop} {A : Hp} {x : Addr} {o : HO} (hx : F x) : Fr F A (upd A x o) := fun a u n e => by
  rw [upd_ne (fun z : a = x => n (by rw [z]; exact hx))]
  exact e
open Classical in
noncomputable def hidF (F : Addr → Prop) (H : Hp) : Hp := fun a => if F a then none else H a
theorem hidF_some {F : Addr → Prop} {H : Hp} {a : Addr} {o : HO} (h : hidF F H a = some o) : ¬ F a ∧ H a = some o := by
  unfold hidF at h
  split at h
  · cases h
  · exact ⟨by assumption, h⟩
theorem hidF_eq {F : Addr → Prop} {H : Hp} {a : Addr} (h : ¬ F a) : hidF F H a = H a := by
  unfold hidF
  rw [if_neg h]
theorem hidF_le {F : Addr → Prop} {H : Hp} : Ex (hidF F H) H := fun a o h => (hidF_some h).2
theorem Fr.hid {F : Addr → Prop} {H H' : Hp} (h : Fr F H H') : Ex (hidF F H) (hidF F H') := fun a o e => by
  obtain ⟨n, e⟩ := hidF_some e
  rw [hidF_eq n]
  exact h a o n e
theorem hidF_up {F G : Addr → Prop} {H : Hp} (h : ∀ a, F a → G a) : Ex (hidF G H) (hidF F H) := fun a o e => by
  obtain ⟨n, e⟩ := hidF_some e
  rw [hidF_eq (fun z => n (h a z))]
  exact e
/-- the places of the lists that change -/
inductive Slot where
  | un (h : Nat)
  | bk (h : Nat)
  | qu (u v : Nat)
  | dd
  deriving DecidableEq
def Slot.ok (w : Km.W) (r : Bool) : Slot → Prop
  | .un h => r = true ∧ h < w.n
  | .bk h => h < w.n
  | .qu u v => Km.nb w u v
  | .dd => True
def In (w : Km.W) (r : Bool) (ad : Slot → Addr) (a : Addr) : Prop := ∃ s : Slot, s.ok w r ∧ ad s = a
structure Cells (w : Km.W) (r : Bool) (ad : Slot → Addr) (H : Hp) (ct : Slot → List V) : Prop where
  inj : ∀ s t : Slot, s.ok w r → t.ok w r → ad s = ad t → s = t
  at' : ∀ s : Slot, s.ok w r → H (ad s) = some (.lst (ct s))
section
variable {w : Km.W} {r : Bool} {ad : Slot → Addr} {H H' : Hp} {ct ct' : Slot → List V}
theorem Cells.mono (h : Cells w r ad H ct) (e : Ex H H') : Cells w r ad H' ct := ⟨h.inj, fun s k => e _ _ (h.at' s k)⟩
theorem Cells.fr {F : Addr → Prop} (h : Cells w r ad H ct) (e : Fr F H H') (n : ∀ a, In w r ad a → ¬ F a) : Cells w r ad H' ct := ⟨h.inj, fun s k => e _ _ (n _ ⟨s, k, rfl⟩) (h.at' s k)⟩
theorem Cells.congr (h : Cells w r ad H ct) (e : ∀ s : Slot, s.ok w r → ct s = ct' s) : Cells w r ad H ct' := ⟨h.inj, fun s k => by rw [← e s k]; exact h.at' s k⟩
theorem Cells.set {s : Slot} {xs : List V} (h : Cells w r ad H ct) (hs : s.ok w r) (e : ct' s = xs) (n : ∀ t : Slot, t ≠ s → ct' t = ct t) : Cells w r ad (upd H (ad s) (.lst xs)) ct' := ⟨h.inj, fun t k => by
  by_cases c : t = s
  · subst c
    rw [upd_same, e]
  · rw [upd_ne (fun z => c (h.inj t s k hs z)), n t c]
    exact h.at' t k⟩
end
/-- a deed as a tuple -/
def deedV : Km.Dd → List V
  | .mk h => [.str "make", natV h]
  | .hd u v => [.str "hand", natV u, natV v]
def deedD : Km.Dd → PyData
  | .mk h => .tuple [.str "make", natD h]
  | .hd u v => .tuple [.str "hand", natD u, natD v]
def Deeds (G : Hp) (vs : List V) (ds : List Km.Dd) : Prop := DqAll G vs (ds.map deedD)
/-- what the lists hold -/
def ctOf (w : Km.W) (s : Km.S) (ds : List V) : Slot → List V
  | .un h => (Km.left w s h).map natV
  | .bk h => (s.bk h).map natV
  | .qu u v => (s.qu u v).map natV
  | .dd => ds
def arrC (w : Km.W) (k src h : Nat) (ct : Slot → List V) : Slot → List V
  | .bk x => if x = h then ct (.bk x) ++ [natV k] else ct (.bk x)
  | .qu a b => if a = h ∧ Km.nb w h b ∧ b ≠ src then ct (.qu a b) ++ [natV k] else ct (.qu a b)
  | .un x => ct (.un x)
  | .dd => ct .dd
/-- a running at x: all but its lists stands in what stays -/
structure Sk (K : PySem.W.Frag) (C CS CR : Addr) (G : Hp) (x : Addr) (w : Km.W) (ad : Slot → Addr) (dx st ul bl dt : Addr) (kvs : List (List Key × V)) : Prop where
  hx : G x = some (.ins CR dx [("store", .ref st), ("_unmade", .ref ul), ("_books", .ref bl), ("_handed_on", .ref dt), ("_deeds", .ref (ad .dd))])
  hst : StoreAt K C CS G st w.n w.ps w.hs w.cs
  hu : G ul = some (.lst ((List.range w.n).map fun h => V.ref (ad (.un h))))
  hb : G bl = some (.lst ((List.range w.n).map fun h => V.ref (ad (.bk h))))
  hd : G dt = some (.dT kvs)
  hq : ∀ u v, Km.nb w u v → valV kvs [Sum.inl (u : Int), Sum.inl (v : Int)] = some (.ref (ad (.qu u v)))
theorem Sk.mono {K : PySem.W.Frag} {C CS CR : Addr} {G G' : Hp} {x : Addr} {w : Km.W} {ad : Slot → Addr} {dx st ul bl dt : Addr} {kvs : List (List Key × V)} (h : Sk K C CS CR G x w ad dx st ul bl dt kvs) (e : Ex G G') : Sk K C CS CR G' x w ad dx st ul bl dt kvs := by
  obtain ⟨h1, h2, h3, h4, h5, h6⟩ := h
  refine ⟨e _ _ h1, ?_, e _ _ h3, e _ _ h4, e _ _ h5, h6⟩
  obtain ⟨d1, tr, ht, ct, z1, z2, z3, z4⟩ := h2
  exact ⟨d1, tr, ht, ct, e _ _ z1, z2.mono e, ex_t e z3, ex_t e z4⟩
def RunC (K : PySem.W.Frag) (C CS CR : Addr) (F : Addr → Prop) (H : Hp) (x : Addr) (w : Km.W) (ad : Slot → Addr) (ct : Slot → List V) : Prop :=
  (∃ dx st ul bl dt kvs, Sk K C CS CR (hidF F H) x w ad dx st ul bl dt kvs) ∧ (∀ a, In w true ad a → F a) ∧ Cells w true ad H ct
def RunAt (K : PySem.W.Frag) (C CS CR : Addr) (F : Addr → Prop) (H : Hp) (x : Addr) (w : Km.W) (ad : Slot → Addr) (s : Km.S) : Prop :=
  ∃ ds, RunC K C CS CR F H x w ad (ctOf w s ds) ∧ Deeds (hidF F H) ds s.dd
theorem RunC.mono {K : PySem.W.Frag} {C CS CR : Addr} {F : Addr → Prop} {H H' : Hp} {x : Addr} {w : Km.W} {ad : Slot → Addr} {ct : Slot → List V} (h : RunC K C CS CR F H x w ad ct) (e : Ex H H') : RunC K C CS CR F H' x w ad ct := by
  obtain ⟨⟨dx, st, ul, bl, dt, kvs, h1⟩, h2, h3⟩ := h
  exact ⟨⟨dx, st, ul, bl, dt, kvs, h1.mono (Fr.of e).hid⟩, h2, h3.mono e⟩
theorem RunC.set {K : PySem.W.Frag} {C CS CR : Addr} {F : Addr → Prop} {H : Hp} {x : Addr} {w : Km.W} {ad : Slot → Addr} {ct ct' : Slot → List V} {s : Slot} {xs : List V} (h : RunC K C CS CR F H x w ad ct) (hs : s.ok w true) (e : ct' s = xs) (n : ∀ t : Slot, t ≠ s → ct' t = ct t) : RunC K C CS CR F (upd H (ad s) (.lst xs)) x w ad ct' := by
  obtain ⟨⟨dx, st, ul, bl, dt, kvs, h1⟩, h2, h3⟩ := h
  exact ⟨⟨dx, st, ul, bl, dt, kvs, h1.mono (Fr.at (h2 _ ⟨s, hs, rfl⟩)).hid⟩, h2, h3.set hs e n⟩
theorem RunC.congr {K : PySem.W.Frag} {C CS CR : Addr} {F : Addr → Prop} {H : Hp} {x : Addr} {w : Km.W} {ad : Slot → Addr} {ct ct' : Slot → List V} (h : RunC K C CS CR F H x w ad ct) (e : ∀ s : Slot, s.ok w true → ct s = ct' s) : RunC K C CS CR F H x w ad ct' := ⟨h.1, h.2.1, h.2.2.congr e⟩
theorem RunAt.mono {K : PySem.W.Frag} {C CS CR : Addr} {F : Addr → Prop} {H H' : Hp} {x : Addr} {w : Km.W} {ad : Slot → Addr} {s : Km.S} (h : RunAt K C CS CR F H x w ad s) (e : Ex H H') : RunAt K C CS CR F H' x w ad s := by
  obtain ⟨ds, h1, h2⟩ := h
  exact ⟨ds, h1.mono e, DqAll.mono (Fr.of e).hid h2⟩
theorem StoreAt.mono {K : PySem.W.Frag} {C CS : Addr} {G G' : Hp} {x : Addr} {n : Nat} {ps : List (Nat × Nat)} {hs cs : List Nat} (h : StoreAt K C CS G x n ps hs cs) (e : Ex G G') : StoreAt K C CS G' x n ps hs cs := by
  obtain ⟨d1, tr, ht, ct, z1, z2, z3, z4⟩ := h
  exact ⟨d1, tr, ht, ct, e _ _ z1, z2.mono e, ex_t e z3, ex_t e z4⟩
end Tr

set_option maxHeartbeats 4000000
/-! ### walks with new things; looksleft.trees.both_ways; looksleft.stores.made_in -/
namespace Tr
open PySem PySem.Spec PyProof.Rows L2 LK Evl
inductive All2 {α : Type} (R : α → V → Prop) : List α → List V → Prop
  | nil : All2 R [] []
  | cons {a : α} {v : V} {l : List α} {m : List V} (h : R a v) (r : All2 R l m) : All2 R (a :: l) (v :: m)
section
variable {α : Type} {R S : α → V → Prop} {l : List α} {m : List V}
theorem All2.imp (h : All2 R l m) (k : ∀ a v, a ∈ l → R a v → S a v) : All2 S l m := by
  induction h with
  | nil => exact .nil
  | cons x r ih => exact .cons (k _ _ List.mem_cons_self x) (ih fun a v m => k a v (List.mem_cons_of_mem _ m))
theorem All2.snoc {a : α} {v : V} (h : All2 R l m) (x : R a v) : All2 R (l ++ [a]) (m ++ [v]) := by
  induction h with
  | nil => exact .cons x .nil
  | cons y r ih => exact .cons y ih
theorem All2.len (h : All2 R l m) : m.length = l.length := by
  induction h with
  | nil => rfl
  | cons y r ih => exact congrArg Nat.succ ih
theorem All2.get (h : All2 R l m) {i : Nat} {a : α} (e : l[i]? = some a) : ∃ v, m[i]? = some v ∧ R a v := by
  induction h generalizing i with
  | nil => cases e
  | cons y r ih =>
    cases i with
    | zero => cases e; exact ⟨_, rfl, y⟩
    | succ i => exact ih e
theorem All2.of {i : Nat} {v : V} (h : All2 R l m) (e : m[i]? = some v) : ∃ a, l[i]? = some a ∧ R a v := by
  induction h generalizing i with
  | nil => cases e
  | cons y r ih =>
    cases i with
    | zero => cases e; exact ⟨_, rfl, y⟩
    | succ i => exact ih e
theorem All2.mem {v : V} (h : All2 R l m) (e : v ∈ m) : ∃ a ∈ l, R a v := by
  obtain ⟨i, hi⟩ := List.mem_iff_getElem?.mp e
  obtain ⟨a, ha, r⟩ := h.of hi
  exact ⟨a, List.mem_of_getElem? ha, r⟩
theorem all2_map {f : α → V} (h : All2 (fun a v => v = f a) l m) : m = l.map f := by
  induction h with
  | nil => rfl
  | cons y r ih => rw [y, ih]; rfl
theorem map_all2 {f : α → V} (h : ∀ a ∈ l, R a (f a)) : All2 R l (l.map f) := by
  induction l with
  | nil => exact .nil
  | cons a l ih => exact .cons (h a List.mem_cons_self) (ih fun b hb => h b (List.mem_cons_of_mem _ hb))
theorem All2.app {l' : List α} {m' : List V} (h : All2 R l m) (k : All2 R l' m') : All2 R (l ++ l') (m ++ m') := by
  induction h with
  | nil => exact k
  | cons y r ih => exact .cons y ih
end
/-- turns of any walk -/
theorem outer_it {J : It} {n : Nat} {G : Hp → Prop} {Y : Nat → Hp → V → Hp → Prop} (w : Walk J n G Y) {B : V → Hp → (Hp → Prop) → Prop} {Qd : Hp → Prop} {H0 : Hp} (Pv : Nat → Hp → Prop) (h0 : Pv 0 H0) (hG : ∀ i H, i ≤ n → Pv i H → G H)
    (hs : ∀ i x H H', i < n → Pv i H → Y i H x H' → B x H' (Pv (i + 1))) (hd : ∀ H, Pv n H → Qd H) :
    ∃ W : Nat → Nat → Hp → Prop, (∃ m, W 0 m H0) ∧ ∀ i m H, W i m H →
      (J.stop i H ∧ Qd H) ∨ (J.go i H ∧ ∃ Nx : Hp → Prop, (∀ H', Nx H' → ∃ m', m' < m ∧ W (i + 1) m' H') ∧ ∀ x H', J.yld i H x H' → B x H' Nx) := by
  refine ⟨fun i m H => m = n - i ∧ i ≤ n ∧ Pv i H, ⟨n, by simp, Nat.zero_le _, h0⟩, ?_⟩
  rintro i m H ⟨rfl, hi, p⟩
  have q := hG i H hi p
  by_cases hlt : i < n
  · exact .inr ⟨w.goes i H hlt q, Pv (i + 1), fun H' p' => ⟨n - (i + 1), by omega, rfl, hlt, p'⟩, fun x H' y => hs i x H H' hlt p (w.yields i H x H' hlt q y)⟩
  · have e : i = n := by omega
    subst e
    exact .inl ⟨w.stops H q, hd H p⟩
theorem walk_R {n : Nat} : Walk (Itr 0 n) n (fun _ => True) (YFn fun i => .int (i : Int)) := walk_range.mono (fun _ _ => trivial) fun i H x H' _ _ y => ⟨y.1, y.2.trans (congrArg V.int (Int.zero_add _))⟩
/-- something of which FF is told -/
def EvF (te : TE) (σ : L2.St) (H : Hp) (FF : V → Hp → Prop) : Prop := ∀ H1, Ex H H1 → ∀ Q : VK, (∀ v H2, Ex H1 H2 → FF v H2 → Q v H2) → te σ H1 Q
/-- what the turns of a comprehension keep: the new list, what is in it -/
def CwF (H1 : Hp) (D : Addr) (f : Nat → Bool) (FF : Nat → V → Hp → Prop) (i : Nat) (H : Hp) : Prop := Ex H1 H ∧ ∃ vs, H D = some (.lst vs) ∧ All2 (fun k v => FF k v H) ((List.range i).filter f) vs
theorem filter_len {f : Nat → Bool} {i : Nat} : ((List.range i).filter f).length ≤ i := by
  have := List.length_filter_le f (List.range i)
  rwa [List.length_range] at this
/-- a comprehension over any walk: H1 where the new list D is not yet -/
theorem lcF {J : It} {n : Nat} {G : Hp → Prop} {Y : Nat → Hp → V → Hp → Prop} (w : Walk J n G Y) {g : TG} {tt : TT} {te : TE} {vs : List Nat} {σ : L2.St} {H1 : Hp} {Q : VK} (f : Nat → Bool) (FF : Nat → V → Hp → Prop) (hn : n ≤ 40000) (mono : ∀ i v H H', Ex H H' → FF i v H → FF i v H') (mono2 : ∀ i v H D xs ys, H D = some (.lst xs) → H1 D = none → FF i v H → FF i v (upd H D (.lst ys)))
    (hG : ∀ H, Ex H1 H → G H)
    (hs : ∀ i x H H', i < n → Ex H1 H → Y i H x H' → Ex H H' ∧ ∀ k : L2.St → Hp → Prop, (∀ σ2 H2, Ex H' H2 → wipe σ2 vs = wipe σ vs → EvT tt σ2 H2 (f i) → (f i = true → EvF te σ2 H2 (FF i)) → k σ2 H2) → g x (wipe σ vs) H' k)
    (q : ∀ p us H2, H1 p = none → Ex H1 H2 → H2 p = some (.lst us) → All2 (fun k v => FF k v H2) ((List.range n).filter f) us → Q (.ref p) H2) :
    ∀ D, H1 D = none → ∃ W : Nat → Nat → Hp → Prop, (∃ m, W 0 m (upd H1 D (.lst []))) ∧ ∀ i m H, W i m H →
      (J.stop i H ∧ Q (.ref D) H) ∨ (J.go i H ∧ ∃ Nx : Hp → Prop, (∀ H', Nx H' → ∃ m', m' < m ∧ W (i + 1) m' H') ∧ ∀ x H', J.yld i H x H' → g x (wipe σ vs) H' fun σ2 H2 => wipe σ2 vs = wipe σ vs ∧ tt σ2 H2 fun b H3 =>
        if b = true then te σ2 H3 fun y H4 => ∃ acc, H4 D = some (.lst acc) ∧ acc.length < sizeLine ∧ Nx (upd H4 D (.lst (acc ++ [y]))) else Nx H3) := by
  intro D hD
  refine lc_it w (CwF H1 D f FF) ⟨Ex.new hD, [], upd_same, .nil⟩ (fun i H _ p => hG H p.1) (fun i x H H' hi p y => ?_) fun H p => ?_
  · obtain ⟨eH, go⟩ := hs i x H H' hi p.1 y
    refine go _ fun σ2 H2 e2 hw ht he => ⟨hw, ht H2 (Ex.refl _) _ fun H3 e3 => ?_⟩
    obtain ⟨pe, us, pD, pa⟩ := p
    have e13 := (eH.trans e2).trans e3
    have l := pa.len
    have lf := filter_len (f := f) (i := i)
    cases hf : f i with
    | false =>
      rw [if_neg Bool.false_ne_true]
      refine ⟨pe.trans e13, us, e13 _ _ pD, ?_⟩
      rw [List.range_succ, List.filter_append]
      simp only [List.filter_cons, hf, List.filter_nil, List.append_nil, Bool.false_eq_true, if_false]
      exact pa.imp fun k v _ z => mono _ _ _ _ e13 z
    | true =>
      rw [if_pos rfl]
      refine he hf H3 e3 _ fun v H4 e4 z => ?_
      have e14 := e13.trans e4
      refine ⟨us, e14 _ _ pD, sz_lt (by omega), Ex.mut (pe.trans e14) hD, us ++ [v], upd_same, ?_⟩
      rw [List.range_succ, List.filter_append]
      simp only [List.filter_cons, hf, List.filter_nil, if_true]
      refine All2.snoc ?_ (mono2 _ _ _ _ _ _ (e14 _ _ pD) hD z)
      exact pa.imp fun k v _ z => mono2 _ _ _ _ _ _ (e14 _ _ pD) hD (mono _ _ _ _ e14 z)
  · obtain ⟨pe, us, pD, pa⟩ := p
    exact q D us H hD pe pD pa
/-- what the turns of a comprehension of new lists keep -/
def CwN (H1 : Hp) (D : Addr) (xs : Nat → List V) (i : Nat) (H : Hp) : Prop := Ex H1 H ∧ ∃ vs, H D = some (.lst vs) ∧ vs.Nodup ∧ All2 (fun k v => ∃ p, v = .ref p ∧ p ≠ D ∧ H1 p = none ∧ H p = some (.lst (xs k))) (List.range i) vs
/-- a comprehension of new lists -/
theorem lcN {J : It} {n : Nat} {G : Hp → Prop} {Y : Nat → Hp → V → Hp → Prop} (w : Walk J n G Y) {g : TG} {te : TE} {vs : List Nat} {σ : L2.St} {H1 : Hp} {Q : VK} (xs : Nat → List V) (hn : n ≤ 40000)
    (hG : ∀ H, Ex H1 H → G H)
    (hs : ∀ i x H H', i < n → Ex H1 H → Y i H x H' → Ex H H' ∧ ∀ k : L2.St → Hp → Prop, (∀ σ2 H2, Ex H' H2 → wipe σ2 vs = wipe σ vs → EvL te σ2 H2 (xs i) → k σ2 H2) → g x (wipe σ vs) H' k)
    (q : ∀ p us H2, H1 p = none → Ex H1 H2 → H2 p = some (.lst us) → us.Nodup → All2 (fun k v => ∃ a, v = .ref a ∧ a ≠ p ∧ H1 a = none ∧ H2 a = some (.lst (xs k))) (List.range n) us → Q (.ref p) H2) :
    ∀ D, H1 D = none → ∃ W : Nat → Nat → Hp → Prop, (∃ m, W 0 m (upd H1 D (.lst []))) ∧ ∀ i m H, W i m H →
      (J.stop i H ∧ Q (.ref D) H) ∨ (J.go i H ∧ ∃ Nx : Hp → Prop, (∀ H', Nx H' → ∃ m', m' < m ∧ W (i + 1) m' H') ∧ ∀ x H', J.yld i H x H' → g x (wipe σ vs) H' fun σ2 H2 => wipe σ2 vs = wipe σ vs ∧ tYes σ2 H2 fun b H3 =>
        if b = true then te σ2 H3 fun y H4 => ∃ acc, H4 D = some (.lst acc) ∧ acc.length < sizeLine ∧ Nx (upd H4 D (.lst (acc ++ [y]))) else Nx H3) := by
  intro D hD
  refine lc_it w (CwN H1 D xs) ⟨Ex.new hD, [], upd_same, List.nodup_nil, .nil⟩ (fun i H _ p => hG H p.1) (fun i x H H' hi p y => ?_) fun H p => ?_
  · obtain ⟨eH, go⟩ := hs i x H H' hi p.1 y
    refine go _ fun σ2 H2 e2 hw he => ⟨hw, ?_⟩
    unfold tYes
    simp only [↓reduceIte]
    obtain ⟨pe, us, pD, pn, pa⟩ := p
    have e12 := eH.trans e2
    have l := pa.len
    rw [List.length_range] at l
    refine he H2 (Ex.refl _) _ fun a H4 na e4 ha => ?_
    have e14 := e12.trans e4
    have aD : a ≠ D := (ne_of_none (e12 _ _ pD) na).symm
    have ag : ∀ v ∈ us, v ≠ .ref a := fun v hv z => by
      obtain ⟨k, _, p, rfl, _, _, hp⟩ := pa.mem hv
      cases z
      have z2 := e12 _ _ hp
      rw [na] at z2
      cases z2
    refine ⟨us, e14 _ _ pD, sz_lt (by omega), Ex.mut (pe.trans e14) hD, us ++ [.ref a], upd_same, ?_, ?_⟩
    · refine List.nodup_append.mpr ⟨pn, by simp, fun v hv u hu z => ?_⟩
      rw [List.mem_singleton] at hu
      exact ag v hv (z.trans hu)
    · rw [List.range_succ]
      refine All2.snoc (pa.imp fun k v hv z => ?_) ⟨a, rfl, aD, fresh_back (pe.trans e12) na, by rw [upd_ne aD]; exact ha⟩
      obtain ⟨p, rfl, c, np, hp⟩ := z
      exact ⟨p, rfl, c, np, by rw [upd_ne c]; exact e14 _ _ hp⟩
  · obtain ⟨pe, us, pD, pn, pa⟩ := p
    exact q D us H hD pe pD pn pa
end Tr

set_option maxHeartbeats 4000000
/-! ### looksleft.trees.both_ways; looksleft.stores.made_in -/
namespace Tr
open PySem PySem.Spec PyProof.Rows L2 LK Evl
theorem mem_adj {n : Nat} {ps : List (Nat × Nat)} (hr : ∀ p ∈ ps, p.1 < n ∧ p.2 < n) {u v : Nat} (hv : v < n) : u ∈ (adjOf n ps).getD v [] ↔ (u, v) ∈ ps ∨ (v, u) ∈ ps := by
  have go : ∀ (ps : List (Nat × Nat)) (adj : List (List Nat)), adj.length = n → (∀ p ∈ ps, p.1 < n ∧ p.2 < n) → (u ∈ (ps.foldl addR adj).getD v [] ↔ u ∈ adj.getD v [] ∨ (u, v) ∈ ps ∨ (v, u) ∈ ps) := by
    intro ps
    induction ps with
    | nil => intro adj _ _; simp
    | cons p r ih =>
      intro adj hl h
      obtain ⟨h1, h2⟩ := h p List.mem_cons_self
      rw [List.foldl_cons, ih (addR adj p) (by rw [addR_len]; exact hl) fun q hq => h q (List.mem_cons_of_mem _ hq)]
      have key : u ∈ (addR adj p).getD v [] ↔ u ∈ adj.getD v [] ∨ (u, v) = p ∨ (v, u) = p := by
        unfold addR
        obtain ⟨a, b⟩ := p
        dsimp only at h1 h2 ⊢
        rw [List.getD_eq_getElem?_getD, List.getD_eq_getElem?_getD, List.getElem?_modify, List.getElem?_modify]
        have hv' : v < adj.length := by omega
        rw [List.getElem?_eq_getElem hv']
        by_cases c1 : a = v
        · subst c1
          by_cases c2 : b = a
          · subst c2
            simp
          · simp [c2]
            constructor
            · rintro (z | z)
              · exact .inl z
              · exact .inr (.inr z)
            · rintro (z | ⟨rfl, z⟩ | z)
              · exact .inl z
              · exact absurd z.symm c2
              · exact .inr z
        · by_cases c2 : b = v
          · subst c2
            simp [c1, Ne.symm c1]
          · simp [c1, c2, Ne.symm c1, Ne.symm c2]
      rw [key]
      simp only [List.mem_cons]
      constructor
      · rintro ((z | z | z) | z | z)
        · exact .inl z
        · exact .inr (.inl (.inl z))
        · exact .inr (.inr (.inl z))
        · exact .inr (.inl (.inr z))
        · exact .inr (.inr (.inr z))
      · rintro (z | (z | z) | (z | z))
        · exact .inl (.inl z)
        · exact .inl (.inr (.inl z))
        · exact .inr (.inl z)
        · exact .inl (.inr (.inr z))
        · exact .inr (.inr z)
  rw [adjOf, go ps _ (by rw [List.length_replicate]) hr]
  have : u ∉ (List.replicate n ([] : List Nat)).getD v [] := by
    rw [List.getD_eq_getElem?_getD, List.getElem?_replicate]
    split <;> simp
  exact ⟨fun z => z.resolve_left this, .inr⟩
/-- what the world of a tree says of it -/
structure Wd (w : Km.W) : Prop where
  ok : Km.Ok w
  right : Right w.n w.ps
  joined : Joined w.n w.ps
theorem Wd.nb {w : Km.W} (W : Wd w) {u v : Nat} (hu : u < w.n) (hv : v < w.n) : nearB w.n w.ps u v = decide (Km.nb w u v) := by
  unfold nearB
  have hr : ∀ p ∈ w.ps, p.1 < w.n ∧ p.2 < w.n := fun p hp => ⟨(W.ok.ed p hp).1, (W.ok.ed p hp).2.1⟩
  have m := mem_adj (u := u) hr hv
  have e : decide (u ∈ (adjOf w.n w.ps).getD v []) = decide (Km.nb w u v) := decide_eq_decide.mpr m
  rw [e]
  by_cases c : u = v
  · subst c
    have : ¬ Km.nb w u u := fun z => by
      rcases z with z | z <;> (have := (W.ok.ed _ z).2.2; exact absurd this (Nat.lt_irrefl _))
    simp [this]
  · simp [c]
theorem Wd.near {w : Km.W} (W : Wd w) {h : Nat} (hh : h < w.n) : nearL w.n w.ps h = Km.near w h := by
  unfold nearL Km.near
  refine List.filter_congr fun o ho => ?_
  exact W.nb hh (List.mem_range.mp ho)
/-- all roads, both ways, in the order of both_ways -/
def waysL (n : Nat) (ps : List (Nat × Nat)) : List (Nat × Nat) := (List.range n).flatMap fun u => (nearL n ps u).map fun v => (u, v)
abbrev Tps (H : Hp) : List (Nat × Nat) → List V → Prop := All2 fun p v => ∃ t, v = .ref t ∧ H t = some (.tup [natV p.1, natV p.2])
theorem Tps.mono {H H' : Hp} {l : List (Nat × Nat)} {m : List V} (e : Ex H H') (h : Tps H l m) : Tps H' l m := All2.imp h fun _ _ _ z => by
  obtain ⟨t, z1, z2⟩ := z
  exact ⟨t, z1, e _ _ z2⟩
theorem Tps.put {H : Hp} {l : List (Nat × Nat)} {m : List V} {D : Addr} {xs ys : List V} (hD : H D = some (.lst xs)) (h : Tps H l m) : Tps (upd H D (.lst ys)) l m := All2.imp h fun _ _ _ z => by
  obtain ⟨t, z1, z2⟩ := z
  exact ⟨t, z1, by rw [upd_ne (ne_of z2 hD (fun z => nomatch z))]; exact z2⟩
abbrev sBoth : Stmt := top 31
abbrev nBoth : List Str := ["tree", "u", "v"]
theorem scBoth : FnScope nBoth ["tree"] (defScope sBoth) := ⟨rfl, rfl, rfl, by decide +kernel, rfl, by decide +kernel, by decide +kernel⟩
def spBoth (K : PySem.W.Frag) (C : Addr) : Sp := fun vs H Q _ => ∃ (x : Addr) (n : Nat) (ps : List (Nat × Nat)), vs = [.ref x] ∧ TreeAt K C H x n ps ∧ Joined n ps ∧ n ≤ 100 ∧
  ∀ p us H2, H p = none → Ex H H2 → H2 p = some (.lst us) → Tps H2 (waysL n ps) us → Q (.ref p) H2
section
variable {P : Program} {w : World} {K : PySem.W.Frag} {mg : Str → Option Value} {base : Heap} {C CS f f1 f2 : Addr} {fd d1 d2 : FuncData}
theorem ok_both (F : FnP K "both_ways" sBoth f fd) (cl : Cls K C) (n1 : NoAttr K C "houses") (G1 : FnOk P w K mg base CX0 5 f1 d1 ["tree", "house"] (spNear K C)) (k1 : Kd K mg "neighbours" ["tree", "house"] f1 d1) (mr : mg "range" = none) :
    FnOk P w K mg base CX0 6 f fd ["tree"] (spBoth K C) := by
  refine F.ok scBoth (fun vs H Q E h => ?_) fun cdv A outer s H0 vs Q E hr h => ⟨_, PSs.nox (
    pss_one (ps_ret (pe_lc2 (own := [("u", 1), ("v", 2)]) (vs1 := [2]) (wi1 := iList K (tCall (spNear K C) [] E0 (tCons (tVar 0) (tCons (tVar 1) tNil)))) (g := gName 1) (g1 := gName 2) rfl scBoth.nd (pi_range1 (by rfl) mr (pa_cons (pe_fld (pv 0) rfl) pa_nil)) (blkOk_by (N := nBoth) (sc := defScope sBoth) (by decide +kernel)) (by decide)
      (fun _ _ _ _ _ => pg_name (i := 1) scBoth.nd rfl (.inl rfl)) (fun _ _ _ _ _ => pts_nil)
      (fun _ _ _ _ _ => by exact pi_list (pe_call G1 hr (by rfl) k1.m k1.k k1.b .nil pass0 (pa_cons (pv 0) (pa_cons (pv 1) pa_nil))))
      (fun _ _ _ _ _ => pg_name (i := 2) scBoth.nd rfl (.inl rfl)) (fun _ _ _ _ _ => pts_nil)
      (fun _ _ _ _ _ => pe_tup (pa_cons (pv 1) (pa_cons (pv 2) pa_nil)))))), ?_⟩
  · obtain ⟨x, n, ps, rfl, _⟩ := h
    rfl
  · obtain ⟨x, n, ps, rfl, hT, hJ, hn, hQ⟩ := h
    obtain ⟨dx, rt, l, us, ts, wl, h1, _⟩ := id hT
    refine ⟨_, rfl, x, C, dx, _, _, rfl, h1, cl, n1, rfl, (n : Int), rfl, by omega, by omega, fun D hD => ?_⟩
    refine outer_it (walk_R (n := n)) (fun i H => Ex H0 H ∧ ∃ vs, H D = some (.lst vs) ∧ Tps H ((List.range i).flatMap fun u => (nearL n ps u).map fun v => (u, v)) vs ∧ vs.length ≤ i * n) ⟨Ex.new hD, [], upd_same, .nil, by simp⟩ (fun _ _ _ _ => trivial) (fun i y H H' hi p yy => ?_) fun H p => ?_
    · obtain ⟨rfl, yy⟩ := yy
      obtain rfl : y = V.int (i : Int) := yy
      obtain ⟨e, vs, hv, ht, hl⟩ := p
      refine ⟨rfl, ?_⟩
      have hT1 := hT.mono e
      refine ⟨_, rfl, _, rfl, x, n, ps, i, rfl, hT1, hJ, hi, hn, fun p H3 np e3 hp => ⟨p, rfl, ⟨_, sq_of hp⟩, ?_⟩⟩
      have ln : (nearL n ps i).length ≤ n := filter_len
      have lm : ((nearL n ps i).map natV).length = (nearL n ps i).length := List.length_map _
      have pD : p ≠ D := (ne_of_none hv np).symm
      refine outer_it (walk_list (K := K) (a := p) (xs := (nearL n ps i).map natV)) (fun j H => H p = some (.lst ((nearL n ps i).map natV)) ∧ Ex H0 H ∧ ∃ vs, H D = some (.lst vs) ∧ Tps H (((List.range i).flatMap fun u => (nearL n ps u).map fun v => (u, v)) ++ ((nearL n ps i).take j).map fun v => (i, v)) vs ∧ vs.length ≤ i * n + j)
        ⟨hp, e.trans e3, vs, e3 _ _ hv, by simpa using ht.mono e3, by omega⟩ (fun j H _ q => sq_of q.1) (fun j y H H4 hj q yy => ?_) fun H q => ?_
      · obtain ⟨rfl, hy⟩ := yy
        obtain ⟨qp, qe, us, qu, qt, ql⟩ := q
        rw [lm] at hj
        have hy' : y = natV (nearL n ps i)[j] := by
          rw [List.getElem?_map, List.getElem?_eq_getElem hj] at hy
          exact (Option.some.inj hy).symm
        subst hy'
        refine ⟨rfl, ?_⟩
        unfold tYes
        simp only [↓reduceIte]
        refine ⟨_, rfl, _, rfl, sz_of (by show 2 ≤ 100000; decide), fun t nt => ?_⟩
        have e5 : Ex H4 (upd H4 t (.tup [V.int (i : Int), natV (nearL n ps i)[j]])) := Ex.new nt
        have qu5 := e5 _ _ qu
        have h1 : i * n ≤ n * n := Nat.mul_le_mul_right _ (by omega)
        have h2 : n * n ≤ 100 * 100 := Nat.mul_le_mul hn hn
        refine ⟨us, qu5, sz_lt (by omega), by rw [upd_ne pD]; exact e5 _ _ qp, Ex.mut (qe.trans e5) hD, us ++ [.ref t], upd_same, ?_, by rw [List.length_append]; simp; omega⟩
        rw [List.take_succ, List.getElem?_eq_getElem hj]
        simp only [Option.toList_some, List.map_append, List.map_cons, List.map_nil]
        rw [← List.append_assoc]
        refine All2.snoc (Tps.put qu5 (qt.mono e5)) ⟨t, rfl, ?_⟩
        rw [upd_ne (ne_of_none qu nt).symm]
        exact upd_same
      · obtain ⟨qp, qe, us, qu, qt, ql⟩ := q
        rw [lm] at ql qt
        rw [List.take_length] at qt
        refine ⟨qe, us, qu, ?_, by have : (i + 1) * n = i * n + n := Nat.succ_mul i n; omega⟩
        rw [List.range_succ, List.flatMap_append]
        simpa using qt
    · obtain ⟨e, vs, hv, ht, _⟩ := p
      exact hQ D vs H hD e hv ht
end
end Tr

set_option maxHeartbeats 4000000
/-! ### lists put together; repr of data; how long it gets -/
namespace PySem.PyData
open PySem
def okD (d : PyData) : Bool := d.showable && (decide (d.depth ≤ 60) && decide (d.shown.length ≤ 100000))
mutual
def fine : PyData → Bool
  | .none | .bool _ => true
  | .int i => decide (-1 ≤ i) && decide (i ≤ 200) || decide (i = 10 ^ 19)
  | .str x => decide ((PySem.reprText x).length ≤ 40)
  | .list xs | .tuple xs => fineAll xs
  | .dict _ => false
def fineAll : List PyData → Bool
  | [] => true
  | x :: xs => fine x && fineAll xs
end
mutual
def szD : PyData → Nat
  | .none | .bool _ | .int _ | .str _ | .dict _ => 40
  | .list xs | .tuple xs => szAll xs + 4
def szAll : List PyData → Nat
  | [] => 0
  | x :: xs => szD x + 2 + szAll xs
end
theorem int_len {i : Int} (h : (decide (-1 ≤ i) && decide (i ≤ 200) || decide (i = 10 ^ 19)) = true) : ((toString i : String) : Str).length ≤ 40 ∧ i.natAbs.log2 < 1920 := by
  rcases Bool.or_eq_true_iff.mp h with z | z
  · rw [Bool.and_eq_true] at z
    have h1 := of_decide_eq_true z.1
    have h2 := of_decide_eq_true z.2
    have all : ∀ n : _root_.Fin 202, (((toString ((n.val : Int) - 1) : String) : Str).length ≤ 40 ∧ ((n.val : Int) - 1).natAbs.log2 < 1920) := by decide +kernel
    have := all ⟨(i + 1).toNat, by omega⟩
    have e : (((i + 1).toNat : Nat) : Int) - 1 = i := by omega
    dsimp only at this
    rw [e] at this
    exact this
  · have := of_decide_eq_true z
    subst this
    decide +kernel
theorem list_len (ts : List Str) : (listText ts).length ≤ piled ts + 4 := by
  have go : ∀ (ts : List Str) (k : Nat) (acc : Str), (textFrom k acc ts).length ≤ acc.length + piled ts := by
    intro ts
    induction ts with
    | nil => intro k acc; exact Nat.le_add_right _ _
    | cons t r ih =>
      intro k acc
      have h := ih (k + 1) (acc ++ (if k > 0 then ", " else "" : String) ++ t)
      have e : (acc ++ (if k > 0 then ", " else "" : String) ++ t).length = acc.length + (if k > 0 then 2 else 0) + t.length := by
        rw [strLen_append, strLen_append]
        split <;> rfl
      have e2 : textFrom k acc (t :: r) = textFrom (k + 1) (acc ++ (if k > 0 then ", " else "" : String) ++ t) r := rfl
      rw [e2, piled_cons]
      rw [e] at h
      have i2 : (if k > 0 then 2 else 0 : Nat) ≤ 2 := by split <;> omega
      omega
  unfold listText
  rw [strLen_append]
  have h := go ts 0 "["
  have e1 : ((("[" : String) : Str)).length = 1 := rfl
  have e2 : ((("]" : String) : Str)).length = 1 := rfl
  rw [e1] at h
  rw [e2]
  omega
theorem tup_len (ts : List Str) : (tupleText ts).length ≤ piled ts + 4 := by
  unfold tupleText
  rw [strLen_append, strLen_append]
  have e1 : ((("(" : String) : Str)).length = 1 := rfl
  have e3 : (((if ts.length == 1 then ",)" else ")" : String) : Str)).length ≤ 2 := by split <;> decide
  rw [e1]
  by_cases c : ts = []
  · subst c
    have : (Str.join ", " []).length = 0 := rfl
    omega
  · have := join_length_add ts c
    omega
mutual
theorem shown_sz : ∀ d : PyData, fine d = true → d.shown.length ≤ szD d ∧ d.showable = true
  | .none, _ => by decide +kernel
  | .bool b, _ => by cases b <;> decide +kernel
  | .int i, h => by
    have := int_len h
    simp only [shown, szD, showable]
    exact ⟨this.1, decide_eq_true this.2⟩
  | .str x, h => by
    simp only [shown, szD, showable]
    exact ⟨of_decide_eq_true (by simpa only [fine] using h), trivial⟩
  | .list xs, h => by
    obtain ⟨h1, h2⟩ := shown_all xs (by simpa only [fine] using h)
    simp only [shown, szD, showable]
    have := list_len (shownAll xs)
    exact ⟨by omega, h2⟩
  | .tuple xs, h => by
    obtain ⟨h1, h2⟩ := shown_all xs (by simpa only [fine] using h)
    simp only [shown, szD, showable]
    have := tup_len (shownAll xs)
    exact ⟨by omega, h2⟩
  | .dict _, h => by simp [fine] at h
theorem shown_all : ∀ xs : List PyData, fineAll xs = true → piled (shownAll xs) ≤ szAll xs ∧ showableAll xs = true
  | [], _ => by simp [shownAll, szAll, showableAll, piled]
  | x :: xs, h => by
    have h' : fine x = true ∧ fineAll xs = true := by simpa [fineAll] using h
    obtain ⟨a1, a2⟩ := shown_sz x h'.1
    obtain ⟨b1, b2⟩ := shown_all xs h'.2
    simp only [shownAll, szAll, showableAll, piled_cons, a2, b2, Bool.and_self, and_true]
    omega
end
theorem ok_fine {d : PyData} (h : fine d = true) (hd : d.depth ≤ 60) (hs : szD d ≤ 100000) : okD d = true := by
  obtain ⟨h1, h2⟩ := shown_sz d h
  unfold okD
  rw [h2, decide_eq_true hd, decide_eq_true (show d.shown.length ≤ 100000 by omega)]
  rfl
end PySem.PyData
namespace Tr
open PySem PySem.Spec PyProof.Rows L2 LK Evl PySem.PyData
section
variable {K : PySem.W.Frag} {σ : L2.St} {H : Hp} {ta tb te : TE} {t : TT} {xs ys : List V} {v : V} {d : PyData} {D : Ends} {tz : TS}
theorem el_cat {l : Addr} (h1 : Ev ta σ H (.ref l)) (hl : H l = some (.lst xs)) (h2 : EvL tb σ H ys) (hz : xs.length + ys.length ≤ 100000) : EvL (tOp rCat ta tb) σ H (xs ++ ys) := fun H1 e Q q =>
  h1 H1 e _ fun H2 e2 => h2 H2 (e.trans e2) _ fun p H3 np e3 hp => by
    refine ⟨l, p, xs, ys, rfl, rfl, ((e.trans e2).trans e3) l _ hl, hp, sz_of hz, fun r hr => ?_⟩
    exact q r _ (fresh_back (e2.trans e3) hr) ((e2.trans e3).trans (Ex.new hr)) upd_same
theorem el_cat2 (h1 : EvL ta σ H xs) (h2 : EvL tb σ H ys) (hz : xs.length + ys.length ≤ 100000) : EvL (tOp rCat ta tb) σ H (xs ++ ys) := fun H1 e Q q =>
  h1 H1 e _ fun l H2 nl e2 hl => h2 H2 (e.trans e2) _ fun p H3 np e3 hp => by
    refine ⟨l, p, xs, ys, rfl, rfl, e3 l _ hl, hp, sz_of hz, fun r hr => ?_⟩
    exact q r _ (fresh_back (e2.trans e3) hr) ((e2.trans e3).trans (Ex.new hr)) upd_same
/-- a call that makes a list -/
theorem el_call {sp : Sp} {t : TA} {vs : List V} (h : EvA t σ H vs) (hc : ∀ H1, Ex H H1 → ∀ Q, RetL xs H1 Q → sp (vs ++ []) H1 Q E0) : EvL (tCall sp [] E0 t) σ H xs := fun H1 e Q q =>
  h H1 e _ fun H2 e2 => hc H2 (e.trans e2) Q fun p H3 np e3 hp => q p H3 (fresh_back e2 np) (e2.trans e3) hp
theorem ev_call' {sp : Sp} {t : TA} {vs : List V} {v : V} (h : EvA t σ H vs) (hc : ∀ H1, Ex H H1 → ∀ Q, RetV v H1 Q → sp (vs ++ []) H1 Q E0) : Ev (tCall sp [] E0 t) σ H v := fun H1 e Q q =>
  h H1 e _ fun H2 e2 => hc H2 (e.trans e2) Q fun H3 e3 => q H3 (e2.trans e3)
theorem ex_dp {H H' : Hp} (e : Ex H H') : ∀ {v : V} {d : PyData}, Dp K H v d → Dp K H' v d := fun {v d} h => by
  refine Dp.rec (motive_1 := fun v d _ => Dp K H' v d) (motive_2 := fun vs ds _ => DpAll K H' vs ds) .non .bl .int .str (fun h _ i => .lst (ex_l e h) i) (fun h _ i => .tup (ex_t e h) i) .nil (fun _ _ a b => .cons a b) h
theorem rv_eqD {x y : V} {d e : PyData} (h1 : Dp K H x d) (h2 : Dp K H y e) (s1 : SeqAt.shaped d = true) (s2 : SeqAt.shaped e = true) : RV (rEqD K) x y H (.bl (PyData.eqv d e)) := fun H1 z _ q => ⟨d, e, ex_dp z h1, ex_dp z h2, s1, s2, q H1 (Ex.refl H1)⟩
theorem rv_neD {x y : V} {d e : PyData} (h1 : Dp K H x d) (h2 : Dp K H y e) (s1 : SeqAt.shaped d = true) (s2 : SeqAt.shaped e = true) : RV (rNeD K) x y H (.bl (!PyData.eqv d e)) := fun H1 z _ q => ⟨d, e, ex_dp z h1, ex_dp z h2, s1, s2, q H1 (Ex.refl H1)⟩
theorem ev_repr (h : Ev te σ H v) (hd : Dq H v d) (ok : okD d = true) : Ev (tCB rRepr (tCons te tNil)) σ H (.str d.shown) := fun H1 e Q q =>
  h H1 e _ fun H2 e2 => by
    unfold okD at ok
    simp only [Bool.and_eq_true, decide_eq_true_eq] at ok
    exact ⟨v, d, rfl, Dq.mono (e.trans e2) hd, ok.1, ok.2.1, sz_of ok.2.2, q H2 e2⟩
/-- repr of a new list -/
theorem ev_reprL {xs : List V} {ds : List PyData} (h : EvL te σ H xs) (hd : DqAll H xs ds) (ok : okD (.list ds) = true) : Ev (tCB rRepr (tCons te tNil)) σ H (.str (PyData.list ds).shown) := fun H1 e Q q =>
  h H1 e _ fun p H2 np e2 hp => by
    unfold okD at ok
    simp only [Bool.and_eq_true, decide_eq_true_eq] at ok
    exact ⟨.ref p, .list ds, rfl, .lst hp (DqAll.mono (e.trans e2) hd), ok.1, ok.2.1, sz_of ok.2.2, q H2 e2⟩
theorem el_if {b : Bool} {xs : List V} (h : EvT t σ H b) (h1 : b = true → EvL ta σ H xs) (h2 : b = false → EvL tb σ H xs) : EvL (tIf t ta tb) σ H xs := fun H1 e Q q => h H1 e _ fun H2 e2 => by
  cases b with
  | true =>
    show ta σ H2 Q
    exact h1 rfl H2 (e.trans e2) Q fun p H3 np e3 hp => q p H3 (fresh_back e2 np) (e2.trans e3) hp
  | false =>
    show tb σ H2 Q
    exact h2 rfl H2 (e.trans e2) Q fun p H3 np e3 hp => q p H3 (fresh_back e2 np) (e2.trans e3) hp
def EvT2 (te : TE) (σ : L2.St) (H : Hp) (d : PyData) : Prop := ∀ H1, Ex H H1 → ∀ Q : VK, (∀ v H2, Ex H1 H2 → Dq H2 v d → Q v H2) → te σ H1 Q
def EvTs (ta : TA) (σ : L2.St) (H : Hp) (ds : List PyData) : Prop := ∀ H1, Ex H H1 → ∀ Q : List V → Hp → Prop, (∀ vs H2, Ex H1 H2 → DqAll H2 vs ds → Q vs H2) → ta σ H1 Q
theorem et_v {v : V} {d : PyData} (h : Ev ta σ H v) (hd : Dq H v d) : EvT2 ta σ H d := fun H1 e Q q => h H1 e Q fun H2 e2 => q v H2 e2 (Dq.mono (e.trans e2) hd)
theorem ets_nil : EvTs tNil σ H [] := fun H1 _ Q q => q [] H1 (Ex.refl H1) .nil
theorem ets_cons {d : PyData} {ds : List PyData} {tr : TA} (h : EvT2 ta σ H d) (hr : EvTs tr σ H ds) : EvTs (tCons ta tr) σ H (d :: ds) := fun H1 e Q q =>
  h H1 e _ fun v H2 e2 hv => hr H2 (e.trans e2) _ fun vs H3 e3 hs => q (v :: vs) H3 (e2.trans e3) (.cons (Dq.mono e3 hv) hs)
theorem et_lst {ds : List PyData} {tr : TA} (h : EvTs tr σ H ds) (hl : ds.length ≤ 100000) : EvT2 (tLst tr) σ H (.list ds) := fun H1 e Q q =>
  h H1 e _ fun vs H2 e2 hs => ⟨sz_of (by rw [dq_len hs]; exact hl), fun a ha => q (.ref a) _ (e2.trans (Ex.new ha)) (.lst upd_same (DqAll.mono (Ex.new ha) hs))⟩
theorem ev_reprT {d : PyData} (h : EvT2 ta σ H d) (ok : okD d = true) : Ev (tCB rRepr (tCons ta tNil)) σ H (.str d.shown) := fun H1 e Q q =>
  h H1 e _ fun v H2 e2 hd => by
    unfold okD at ok
    simp only [Bool.and_eq_true, decide_eq_true_eq] at ok
    exact ⟨v, d, rfl, hd, ok.1, ok.2.1, sz_of ok.2.2, q H2 e2⟩
end
end Tr

set_option maxHeartbeats 4000000
/-! ### looksleft.stores: made_in, len, ==; looksleft.trees: == -/
namespace Tr
open PySem PySem.Spec PyProof.Rows L2 LK Evl
abbrev sMade : Stmt := top 36
abbrev sLenS : Stmt := inClass sStore 1
abbrev sEqS : Stmt := inClass sStore 2
abbrev sEqT : Stmt := inClass sTree 3
abbrev nMade : List Str := ["store", "house", "write", "home"]
theorem scMade : FnScope nMade ["store", "house"] (defScope sMade) := ⟨rfl, rfl, rfl, by decide +kernel, rfl, by decide +kernel, by decide +kernel⟩
theorem scLenS : FnScope ["self"] ["self"] (defScope sLenS) := ⟨rfl, rfl, rfl, by decide +kernel, rfl, by decide +kernel, by decide +kernel⟩
theorem scEqS : FnScope ["self", "other"] ["self", "other"] (defScope sEqS) := ⟨rfl, rfl, rfl, by decide +kernel, rfl, by decide +kernel, by decide +kernel⟩
theorem scEqT : FnScope ["self", "other"] ["self", "other"] (defScope sEqT) := ⟨rfl, rfl, rfl, by decide +kernel, rfl, by decide +kernel, by decide +kernel⟩
def madeL (hs : List Nat) (h : Nat) : List Nat := (List.range hs.length).filter fun k => decide (hs.getD k 0 = h)
def spMade (K : PySem.W.Frag) (C CS : Addr) : Sp := fun vs H Q _ => ∃ (x : Addr) (n : Nat) (ps : List (Nat × Nat)) (hs cs : List Nat) (h : Nat), vs = [.ref x, .int (h : Int)] ∧ StoreAt K C CS H x n ps hs cs ∧ h < n ∧ hs.length ≤ 12 ∧ RetL ((madeL hs h).map natV) H Q
def spLenS (K : PySem.W.Frag) (C CS : Addr) : Sp := fun vs H Q _ => ∃ (x : Addr) (n : Nat) (ps : List (Nat × Nat)) (hs cs : List Nat), vs = [.ref x] ∧ StoreAt K C CS H x n ps hs cs ∧ RetV (.int (hs.length : Int)) H Q
/-- what == of own things asks of the class -/
structure OwnCls (K : PySem.W.Frag) (C : Addr) : Prop where
  cl : Cls K C
  ha : PySem.W.findIn K (.ref C) "__class__" = some (some (.builtin "object.__class__"))
  hn : PySem.W.specialIn K (.builtin "object.__class__") "__get__" = some (some (.builtin "getset_descriptor.__get__"))
  ht : PySem.W.takesIn K (.builtin "object.__class__") = some true
  hm : PySem.W.mroIn K C (.type "object") = some true
  kit : PySem.W.kitOne K (.ref C) (.ref C) = some true
theorem OwnCls.ty {K : PySem.W.Frag} {C a dx : Addr} {H : Hp} {fs : List (Str × V)} (o : OwnCls K C) (e : H a = some (.ins C dx fs)) : TyX K H (.ref a) (.ref C) := .base (.ins e o.cl o.ha o.hn o.ht o.hm)
def Tree2 (K : PySem.W.Frag) (C : Addr) (a b : Addr) (H : Hp) : Prop := ∃ n ps, TreeAt K C H a n ps ∧ TreeAt K C H b n ps ∧ ps.length ≤ 100
def Store2 (K : PySem.W.Frag) (C CS : Addr) (a b : Addr) (H : Hp) : Prop := ∃ n ps hs cs, StoreAt K C CS H a n ps hs cs ∧ StoreAt K C CS H b n ps hs cs ∧ ps.length ≤ 100
theorem shaped_nats (ns : List Nat) : SeqAt.shaped (.tuple (ns.map natD)) = true := by
  have h1 : PyData.depthAll (ns.map natD) = 0 := by
    induction ns with
    | nil => simp [PyData.depthAll]
    | cons p r ih =>
      simp only [List.map_cons, PyData.depthAll, natD, PyData.depth]
      omega
  have h2 : PyData.canLayAll0 (ns.map natD) = true := by
    clear h1
    induction ns with
    | nil => simp [PyData.canLayAll0]
    | cons p r ih =>
      simp only [List.map_cons, PyData.canLayAll0, natD, PyData.canLay0, Bool.true_and]
      simpa using ih
  show (PyData.canLay0 (.tuple (ns.map natD)) && decide (PyData.depth (.tuple (ns.map natD)) ≤ 64)) = true
  rw [Bool.and_eq_true]
  exact ⟨by simp only [PyData.canLay0]; exact h2, decide_eq_true (by simp only [PyData.depth]; omega)⟩
theorem shaped_prs (ps : List (Nat × Nat)) : SeqAt.shaped (.tuple (ps.map prD)) = true := by
  have h1 : PyData.depthAll (ps.map prD) ≤ 2 := by
    induction ps with
    | nil => simp [PyData.depthAll]
    | cons p r ih =>
      simp only [List.map_cons, PyData.depthAll, prD, PyData.depth]
      omega
  have h2 : PyData.canLayAll0 (ps.map prD) = true := by
    induction ps with
    | nil => simp [PyData.canLayAll0]
    | cons p r ih =>
      have h3 : PyData.depthAll (r.map prD) ≤ 2 := by
        simp only [List.map_cons, PyData.depthAll] at h1
        omega
      simp only [List.map_cons, PyData.canLayAll0, prD, PyData.canLay0, Bool.true_and]
      simpa using ih h3
  show (PyData.canLay0 (.tuple (ps.map prD)) && decide (PyData.depth (.tuple (ps.map prD)) ≤ 64)) = true
  rw [Bool.and_eq_true]
  exact ⟨by simp only [PyData.canLay0]; exact h2, decide_eq_true (by simp only [PyData.depth]; omega)⟩
theorem dp_nats {K : PySem.W.Frag} {H : Hp} {a : Addr} {ns : List Nat} (h : SqT K H a (ns.map natV)) : Dp K H (.ref a) (.tuple (ns.map natD)) := by
  refine .tup h ?_
  clear h
  induction ns with
  | nil => exact .nil
  | cons n r ih => exact .cons (.int _) ih
theorem dp_prs {K : PySem.W.Frag} {H : Hp} {a : Addr} {ts : List Addr} {ps : List (Nat × Nat)} (h : SqT K H a (ts.map V.ref)) (l : ts.length = ps.length) (e : ∀ (i : Nat) (t : Addr) (p : Nat × Nat), ts[i]? = some t → ps[i]? = some p → SqT K H t [natV p.1, natV p.2]) : Dp K H (.ref a) (.tuple (ps.map prD)) := by
  refine .tup h ?_
  clear h
  induction ts generalizing ps with
  | nil =>
    cases ps with
    | nil => exact .nil
    | cons _ _ => cases l
  | cons t ts ih =>
    cases ps with
    | nil => cases l
    | cons p ps =>
      exact .cons (.tup (e 0 t p rfl rfl) (.cons (.int _) (.cons (.int _) .nil))) (ih (by simpa using l) fun i t p z1 z2 => e (i + 1) t p z1 z2)
section
variable {P : Program} {w : World} {K : PySem.W.Frag} {mg : Str → Option Value} {base : Heap} {C CS f f1 f2 : Addr} {fd d1 d2 : FuncData}
theorem ok_made (F : FnP K "made_in" sMade f fd) (cs : Cls K CS) (n1 : NoAttr K CS "tree") (n2 : NoAttr K CS "homes") (G1 : FnOk P w K mg base CX0 4 f1 d1 ["tree", "house"] (spCheck K C)) (k1 : Kd K mg "check_house" ["tree", "house"] f1 d1) (me : mg "enumerate" = none) :
    FnOk P w K mg base CX0 5 f fd ["store", "house"] (spMade K C CS) := by
  refine F.ok scMade (fun vs H Q E h => ?_) fun cdv A outer s H0 vs Q E hr h => ⟨_, PSs.nox (
    pss_cons (ps_expr (pe_call G1 hr (by rfl) k1.m k1.k k1.b .nil pass0 (pa_cons (pe_fld (pv 0) rfl) (pa_cons (pv 1) pa_nil))))
    (pss_one (ps_ret (pe_lc (own := [("write", 2), ("home", 3)]) rfl scMade.nd (pi_enumT (by rfl) me (pa_cons (pe_fld (pv 0) rfl) pa_nil)) (blkOk_by (N := nMade) (sc := defScope sMade) (by decide +kernel)) (g := gTup K 2 (gCons (gName 2) (gCons (gName 3) gNil)))
      (fun _ _ _ _ _ => by exact pg_tup rfl (pgs_cons (pg_name (i := 2) scMade.nd rfl (.inl rfl)) (pgs_cons (pg_name (i := 3) scMade.nd rfl (.inl rfl)) pgs_nil)))
      (fun _ _ _ _ _ => pts_one (pt_cmpR op_eq (pv 3) (pv 1) (nomark _))) (fun _ _ _ _ _ => pv 2))))), ?_⟩
  · obtain ⟨x, n, ps, hs, cs, h, rfl, _⟩ := h
    rfl
  · obtain ⟨x, n, ps, hs, cs', h, rfl, hS, hh, h12, hQ⟩ := h
    obtain ⟨dx, tr, ht, ct, x1, hT, hH, hC⟩ := id hS
    refine q_drop (ev_callP (v := .non) (ea_cons (ev_fld cs n1 (ev_var rfl) x1 rfl) (ea_cons (ev_var rfl) ea_nil)) fun H1 e1 Q q => ⟨tr, n, ps, h, rfl, hT.mono e1, hh, q⟩) fun H1 e1 => ?_
    refine ⟨_, rfl, x, CS, dx, _, _, rfl, e1 _ _ x1, cs, n2, rfl, ht, _, rfl, ex_t e1 hH, ?_⟩
    refine lcF (walk_enumT (K := K) (a := ht) (xs := hs.map natV)) (fun k => decide (hs.getD k 0 = h)) (fun k v _ => v = natV k) (by rw [List.length_map]; omega) (fun _ _ _ _ _ z => z) (fun _ _ _ _ _ _ _ _ z => z) (fun H e => ex_t (e1.trans e) hH) (fun i y H H' hi e yy => ?_) fun p us H2 np e2 hp ha => ?_
    · obtain ⟨T, u, v, rfl, nT, rfl, hu, hv⟩ := yy
      cases hu
      rw [List.length_map] at hi
      have hv' : v = natV (hs.getD i 0) := by
        have hv : (hs.map natV)[i]? = some v := hv
        rw [List.getElem?_map, List.getElem?_eq_getElem hi] at hv
        rw [List.getD_eq_getElem?_getD, List.getElem?_eq_getElem hi]
        exact (Option.some.inj hv).symm
      subst hv'
      refine ⟨Ex.new nT, fun k hk => ⟨T, _, rfl, st_of upd_same, rfl, _, _, rfl, _, _, rfl, rfl, ?_⟩⟩
      refine hk _ _ (Ex.refl _) rfl ?_ fun _ => fun H3 e3 Q q => ⟨_, rfl, q _ H3 (Ex.refl _) rfl⟩
      refine et_is (et_test (ev_op (ev_var rfl) (ev_var rfl) (rv_eq rfl))) ?_
      refine decide_eq_decide.mpr ⟨fun z => ?_, fun z => by subst z; rfl⟩
      have := V.int.inj z
      omega
    · rw [List.length_map] at ha
      have e := all2_map ha
      subst e
      exact hQ p H2 (fresh_back e1 np) (e1.trans e2) hp
theorem ok_lenS (F : FunD K "__len__" "Store.__len__" (defArgs sLenS) (defBody sLenS) (defScope sLenS) [] [] f fd) (cs : Cls K CS) (n2 : NoAttr K CS "homes") (ml : mg "len" = none) : FnOk P w K mg base CX0 1 f fd ["self"] (spLenS K C CS) := by
  refine F.ok scLenS (fun vs H Q E h => ?_) fun cdv A outer s H0 vs Q E hr h => ⟨_, PSs.nox (pss_one (ps_ret (pe_callB call_len_seq (by rfl) ml PySem.boot_len (pa_cons (pe_fld (pv 0) rfl) pa_nil)))), ?_⟩
  · obtain ⟨x, n, ps, hs, cs, rfl, _⟩ := h
    rfl
  · obtain ⟨x, n, ps, hs, cs', rfl, ⟨dx, tr, ht, ct, x1, hT, hH, hC⟩, hQ⟩ := h
    refine s_ret (v := .int (hs.length : Int)) ?_ hQ
    have e : (hs.map natV).length = hs.length := List.length_map _
    rw [← e]
    exact ev_len2 (ev_fld cs n2 (ev_var rfl) x1 rfl) (.inr hH)
theorem ok_eqT (F : FunD K "__eq__" "Tree.__eq__" (defArgs sEqT) (defBody sEqT) (defScope sEqT) [] [] f fd) (oc : OwnCls K C) (n1 : NoAttr K C "houses") (n2 : NoAttr K C "roads") (mi : mg "isinstance" = none) (mT : mg "Tree" = some (.ref C)) : FnOk P w K mg base CX0 1 f fd ["self", "other"] (spEq (Tree2 K C)) := by
  refine F.ok scEqT (fun vs H Q E h => ?_) fun cdv A outer s H0 vs Q E hr h => ⟨_, PSs.nox (pss_one (ps_ret (pe_and (pe_callB call_isi (by rfl) mi (by decide +kernel) (pa_cons (pv 1) (pa_cons (pe_glob (v := .ref C) (by rfl) mT rfl) pa_nil)))
    (pe_and (pe_cmpR op_eq (pe_fld (pv 0) rfl) (pe_fld (pv 1) rfl) (nomark _)) (pe_one (pe_cmpR (op_eqD hr.units) (pe_fld (pv 0) rfl) (pe_fld (pv 1) rfl) (nomark _))))))), ?_⟩
  · obtain ⟨a, b, rfl, _⟩ := h
    rfl
  · obtain ⟨a, b, rfl, ⟨n, ps, ha, hb, hz⟩, hQ⟩ := h
    obtain ⟨dx, rt, l, us, ts, wl, a1, a2, a3, a4, a5, a6, a7⟩ := id ha
    obtain ⟨dy, rt', l', us', ts', wl', b1, b2, b3, b4, b5, b6, b7⟩ := id hb
    have d1 := dp_prs a2 a3 a4
    have d2 := dp_prs b2 b3 b4
    have eqv : PyData.eqv (.tuple (ps.map prD)) (.tuple (ps.map prD)) = true := SeqAt.eqv_refl _ (SeqAt.canLay_of_shaped (shaped_prs ps))
    refine s_ret (v := .bl true) (ev_is (ev_andV (a := true) (b := true && true) (fun H1 e1 Q q => ⟨_, rfl, _, .ref C, _, _, true, rfl, .own C, oc.ty (e1 _ _ b1), oc.kit, q H1 (Ex.refl _)⟩) fun _ => ev_andV (a := true) (b := true) (ev_is (ev_op (ev_fld oc.cl n1 (ev_var rfl) a1 rfl) (ev_fld oc.cl n1 (ev_var rfl) b1 rfl) (rv_eq rfl)) (by simp)) fun _ => ?_) rfl) hQ
    exact ev_is (ev_op (ev_fld oc.cl n2 (ev_var rfl) a1 rfl) (ev_fld oc.cl n2 (ev_var rfl) b1 rfl) (rv_eqD d1 d2 (shaped_prs ps) (shaped_prs ps))) (by rw [eqv])
theorem ok_eqS (F : FunD K "__eq__" "Store.__eq__" (defArgs sEqS) (defBody sEqS) (defScope sEqS) [] [] f fd) (oc : OwnCls K CS) (n1 : NoAttr K CS "tree") (n2 : NoAttr K CS "homes") (n3 : NoAttr K CS "cells") (mi : mg "isinstance" = none) (mS : mg "Store" = some (.ref CS))
    (G : FnOk P w K mg base CX0 1 f1 d1 ["self", "other"] (spEq (Tree2 K C))) (hb1 : Binds K d1 ["self", "other"] []) (hs : PySem.W.findIn K (.ref C) "__eq__" = some (some (.ref f1))) (hf : PySem.W.isFn K (.ref f1) = true) : FnOk P w K mg base CX0 3 f fd ["self", "other"] (spEq (Store2 K C CS)) := by
  refine F.ok scEqS (fun vs H Q E h => ?_) fun cdv A outer s H0 vs Q E hr h => ⟨_, PSs.nox (pss_one (ps_ret (pe_and (pe_callB call_isi (by rfl) mi (by decide +kernel) (pa_cons (pv 1) (pa_cons (pe_glob (v := .ref CS) (by rfl) mS rfl) pa_nil)))
    (pe_and (pe_cmpR (op_eqG (rcG_ins (C := C) (E := E0) G hs hf hb1 pass0) (hr.mono (by decide))) (pe_fld (pv 0) rfl) (pe_fld (pv 1) rfl) (nomark _)) (pe_and (pe_cmpR (op_eqD hr.units) (pe_fld (pv 0) rfl) (pe_fld (pv 1) rfl) (nomark _)) (pe_one (pe_cmpR (op_eqD hr.units) (pe_fld (pv 0) rfl) (pe_fld (pv 1) rfl) (nomark _)))))))), ?_⟩
  · obtain ⟨a, b, rfl, _⟩ := h
    rfl
  · obtain ⟨a, b, rfl, ⟨n, ps, hh, cc, ha, hb, hz⟩, hQ⟩ := h
    obtain ⟨dx, tr, ht, ct, x1, xT, xH, xC⟩ := id ha
    obtain ⟨dy, tr', ht', ct', y1, yT, yH, yC⟩ := id hb
    have eqv : ∀ ns : List Nat, PyData.eqv (.tuple (ns.map natD)) (.tuple (ns.map natD)) = true := fun ns => SeqAt.eqv_refl _ (SeqAt.canLay_of_shaped (shaped_nats ns))
    refine s_ret (v := .bl true) (ev_is (ev_andV (a := true) (b := true && (true && true)) (fun H1 e1 Q q => ⟨_, rfl, _, .ref CS, _, _, true, rfl, .own CS, oc.ty (e1 _ _ y1), oc.kit, q H1 (Ex.refl _)⟩) fun _ => ev_andV (a := true) (b := true && true) (ev_op (ev_fld oc.cl n1 (ev_var rfl) x1 rfl) (ev_fld oc.cl n1 (ev_var rfl) y1 rfl) fun H1 e1 Q q => ?_) fun _ => ev_andV (a := true) (b := true) ?_ fun _ => ?_) rfl) hQ
    · have t1 := xT.mono e1
      have t2 := yT.mono e1
      obtain ⟨d1, _, _, _, _, _, z1, _⟩ := id t1
      obtain ⟨d2, _, _, _, _, _, z2, _⟩ := id t2
      exact ⟨⟨tr, tr', _, _, _, _, rfl, rfl, z1, z2, n, ps, t1, t2, hz⟩, fun H2 e2 => q H2 e2⟩
    · exact ev_is (ev_op (ev_fld oc.cl n2 (ev_var rfl) x1 rfl) (ev_fld oc.cl n2 (ev_var rfl) y1 rfl) (rv_eqD (dp_nats xH) (dp_nats yH) (shaped_nats _) (shaped_nats _))) (by rw [eqv])
    · exact ev_is (ev_op (ev_fld oc.cl n3 (ev_var rfl) x1 rfl) (ev_fld oc.cl n3 (ev_var rfl) y1 rfl) (rv_eqD (dp_nats xC) (dp_nats yC) (shaped_nats _) (shaped_nats _))) (by rw [eqv])
end
end Tr

set_option maxHeartbeats 4000000
/-! ### looksleft.running: _arrive, book, under_way, finished, script -/
namespace Tr
open PySem PySem.Spec PyProof.Rows L2 LK Evl
abbrev sRun : Stmt := top 39
abbrev sInitR : Stmt := inClass sRun 0
abbrev sMake : Stmt := inClass sRun 1
abbrev sHand : Stmt := inClass sRun 2
abbrev sArr : Stmt := inClass sRun 3
abbrev sBook : Stmt := inClass sRun 4
abbrev sUnder : Stmt := inClass sRun 5
abbrev sShows : Stmt := inClass sRun 6
abbrev nArr : List Str := ["self", "write", "origin", "house", "further"]
theorem scArr : FnScope nArr ["self", "write", "origin", "house"] (defScope sArr) := ⟨rfl, rfl, rfl, by decide +kernel, rfl, by decide +kernel, by decide +kernel⟩
theorem scBook : FnScope ["self", "house"] ["self", "house"] (defScope sBook) := ⟨rfl, rfl, rfl, by decide +kernel, rfl, by decide +kernel, by decide +kernel⟩
theorem scUnder : FnScope ["self", "u", "v"] ["self", "u", "v"] (defScope sUnder) := ⟨rfl, rfl, rfl, by decide +kernel, rfl, by decide +kernel, by decide +kernel⟩
/-- what is known of the class Running -/
structure RunCls (K : PySem.W.Frag) (CR : Addr) : Prop where
  cl : Cls K CR
  nS : NoAttr K CR "store"
  nU : NoAttr K CR "_unmade"
  nB : NoAttr K CR "_books"
  nQ : NoAttr K CR "_handed_on"
  nD : NoAttr K CR "_deeds"
theorem ev_dgT {σ : L2.St} {H : Hp} {td ty : TE} {a : Addr} {kvs : List (List Key × V)} {k : List Key} {v : V} (hd : Ev td σ H (.ref a)) (ha : H a = some (.dT kvs)) (ek : EvU ty σ H (k.map kV)) (hv : valV kvs k = some v) : Ev (tDGet td ty) σ H v := fun H1 e Q q =>
  hd H1 e _ fun H2 e2 => ek H2 (e.trans e2) _ fun p H3 np e3 hp => ⟨a, v, rfl, by
    have := DGet.t (k := k) (((e.trans e2).trans e3) _ _ ha) hp
    rw [hv] at this
    exact this, q H3 (e2.trans e3)⟩
theorem rng_at {w : Km.W} {h : Nat} {f : Nat → V} (hh : h < w.n) : ((List.range w.n).map f)[h]? = some (f h) := by
  rw [List.getElem?_map, List.getElem?_range hh]
  rfl
/-- the part of the arrival that is done -/
def arrP (k src h : Nat) (dn : List Nat) (ct : Slot → List V) : Slot → List V
  | .bk x => if x = h then ct (.bk x) ++ [natV k] else ct (.bk x)
  | .qu a b => if a = h ∧ b ∈ dn ∧ b ≠ src then ct (.qu a b) ++ [natV k] else ct (.qu a b)
  | .un x => ct (.un x)
  | .dd => ct .dd
def spArr (K : PySem.W.Frag) (C CS CR : Addr) : Sp := fun vs H Q _ => ∃ (F : Addr → Prop) (x : Addr) (w : Km.W) (ad : Slot → Addr) (ct : Slot → List V) (k src h : Nat), vs = [.ref x, .int (k : Int), .int (src : Int), .int (h : Int)] ∧ RunC K C CS CR F H x w ad ct ∧ Wd w ∧ h < w.n ∧ (∀ s : Slot, s.ok w true → (ct s).length ≤ 5000) ∧
  ∀ H2, Fr (In w true ad) H H2 → RunC K C CS CR F H2 x w ad (arrC w k src h ct) → Q .non H2
def spBook (K : PySem.W.Frag) (C CS CR CI : Addr) : Sp := fun vs H Q E => ∃ (F : Addr → Prop) (x : Addr) (w : Km.W) (ad : Slot → Addr) (ct : Slot → List V) (v : V) (d : PyData), vs = [.ref x, v] ∧ RunC K C CS CR F H x w ad ct ∧ Dq H v d ∧
  (houseD w.n d = false → Out1 CI "given" v H E) ∧ ∀ h : Nat, d = .int (h : Int) → h < w.n → ∀ t H2, Ex H H2 → H2 t = some (.tup (ct (.bk h))) → Q (.ref t) H2
def spUnder (K : PySem.W.Frag) (C CS CR CI CN : Addr) : Sp := fun vs H Q E => ∃ (F : Addr → Prop) (x : Addr) (w : Km.W) (ad : Slot → Addr) (ct : Slot → List V) (a b : V) (d e : PyData), vs = [.ref x, a, b] ∧ RunC K C CS CR F H x w ad ct ∧ Wd w ∧ Dq H a d ∧ Dq H b e ∧
  (houseD w.n d = false → Out1 CI "given" a H E) ∧ (houseD w.n d = true → houseD w.n e = false → Out1 CI "given" b H E) ∧
  ∀ u v : Nat, d = .int (u : Int) → e = .int (v : Int) → u < w.n → v < w.n → (Km.nb w u v → ∀ t H2, Ex H H2 → H2 t = some (.tup (ct (.qu u v))) → Q (.ref t) H2) ∧ (¬ Km.nb w u v → Out2 CN "u" "v" a b H E)
section
variable {P : Program} {w : World} {K : PySem.W.Frag} {mg : Str → Option Value} {base : Heap} {C CS CR CI CN f f1 f2 : Addr} {fd d1 d2 : FuncData}
theorem ok_arr (F : FunD K "_arrive" "Running._arrive" (defArgs sArr) (defBody sArr) (defScope sArr) [] [] f fd) (cs : Cls K CS) (nT : NoAttr K CS "tree") (R : RunCls K CR) (G1 : FnOk P w K mg base CX0 5 f1 d1 ["tree", "house"] (spNear K C)) (k1 : Kd K mg "neighbours" ["tree", "house"] f1 d1) :
    FnOk P w K mg base CX0 6 f fd ["self", "write", "origin", "house"] (spArr K C CS CR) := by
  refine F.ok scArr (fun vs H Q E h => ?_) fun cdv A outer s H0 vs Q E hr h => ⟨_, PSs.nox (
    pss_cons (ps_expr (pe_bm PySem.F.plainAttrs_list PySem.F.slot_list_append PySem.F.type_list_append mt_append (pe_ix ix_list (pe_fld (pv 0) rfl) (pv 3) (fun _ _ => rfl)) (pa_cons (pv 1) pa_nil)))
    (pss_one (ps_for PassesOwn.never rfl (pi_list (pe_call G1 hr (by rfl) k1.m k1.k k1.b .nil pass0 (pa_cons (pe_fld (pe_fld (pv 0) rfl) rfl) (pa_cons (pv 3) pa_nil)))) (pg_name (i := 4) scArr.nd rfl (.inl rfl))
      (pss_one (ps_if (pt_cmpR op_ne (pv 4) (pv 2) (nomark _)) (pss_one (ps_expr (pe_bm PySem.F.plainAttrs_list PySem.F.slot_list_append PySem.F.type_list_append mt_append (pe_dget (hu_of hr) (pe_fld (pv 0) rfl) (pe_tup (pa_cons (pv 3) (pa_cons (pv 4) pa_nil))) (fun _ _ => rfl)) (pa_cons (pv 1) pa_nil)))) pss_nil))))), ?_⟩
  · obtain ⟨F, x, w, ad, ct, k, src, h, rfl, _⟩ := h
    rfl
  · obtain ⟨F, x, w, ad, ct, k, src, h, rfl, hR, W, hh, hz, hQ⟩ := h
    obtain ⟨⟨dx, st, ul, bl, dt, kvs, hS⟩, hF, hC⟩ := id hR
    have x1 := hidF_le _ _ hS.hx
    have okb : (Slot.bk h).ok w true := hh
    refine q_app (xs := ct (.bk h)) (hC.at' _ okb) (ev_op (ev_fld R.cl R.nB (ev_var rfl) x1 rfl) (ev_var rfl) (rv_ixL (sq_of (hidF_le _ _ hS.hb)) (atI_nat (rng_at hh)))) (ev_var rfl) (by have := hz _ okb; omega) fun H1 e1 => ?_
    have R1 : RunC K C CS CR F (upd H1 (ad (.bk h)) (.lst (ct (.bk h) ++ [V.int (k : Int)]))) x w ad (arrP k src h [] ct) := (hR.mono e1).set okb (if_pos rfl) fun t ht => by
      cases t with
      | bk y => exact if_neg fun z => ht (by rw [z])
      | qu a b => exact if_neg fun z => by simp at z
      | un y => rfl
      | dd => rfl
    have fr1 : Fr (In w true ad) H0 (upd H1 (ad (.bk h)) (.lst (ct (.bk h) ++ [V.int (k : Int)]))) := (Fr.of e1).trans (Fr.at ⟨_, okb, rfl⟩)
    generalize upd H1 (ad (.bk h)) (.lst (ct (.bk h) ++ [V.int (k : Int)])) = H2 at R1 fr1 ⊢
    obtain ⟨⟨dx, st, ul, bl, dt, kvs, hS⟩, _, hC⟩ := id R1
    have x2 := hidF_le _ _ hS.hx
    have hSt := hS.hst.mono hidF_le
    obtain ⟨dy, tr, ht, cc, s1, sT, _⟩ := id hSt
    refine s_forNL (xs := (nearL w.n w.ps h).map natV) (el_call (ea_cons (ev_fld cs nT (ev_fld R.cl R.nS (ev_var rfl) x2 rfl) s1 rfl) (ea_cons (ev_var rfl) ea_nil)) fun H3 e3 Q q => ⟨tr, w.n, w.ps, h, rfl, sT.mono e3, W.joined, hh, by have := W.ok.most; omega, q⟩)
      (fun p j (σ' : L2.St) (H' : Hp) => (∃ y, σ' = [some (.ref x), some (.int (k : Int)), some (.int (src : Int)), some (.int (h : Int)), y]) ∧ H' p = some (.lst ((nearL w.n w.ps h).map natV)) ∧ (¬ In w true ad p) ∧ Fr (In w true ad) H0 H' ∧ RunC K C CS CR F H' x w ad (arrP k src h ((nearL w.n w.ps h).take j) ct))
      (fun p H3 np e3 hp => ⟨⟨_, rfl⟩, hp, fun z => ?_, fr1.trans (Fr.of e3), R1.mono e3⟩) (fun p j σ' H' _ q => sq_of q.2.1) (fun p j y σ' H' hy q => ?_) fun p σ' H' q => ?_
    · obtain ⟨s, hs, rfl⟩ := z
      have := hC.at' s hs
      rw [np] at this
      cases this
    · obtain ⟨⟨z, rfl⟩, hp, npi, fr, Rj⟩ := q
      have hj : j < (nearL w.n w.ps h).length := by
        have := (List.getElem?_eq_some_iff.mp hy).1
        rwa [List.length_map] at this
      obtain ⟨b, hb⟩ : ∃ b, (nearL w.n w.ps h)[j]? = some b := ⟨_, List.getElem?_eq_getElem hj⟩
      have hy' : y = natV b := by
        rw [List.getElem?_map, hb] at hy
        exact (Option.some.inj hy).symm
      subst hy'
      have bm : b ∈ Km.near w h := by rw [← W.near hh]; exact List.mem_of_getElem? hb
      have hn : Km.nb w h b := of_decide_eq_true (List.mem_filter.mp bm).2
      have tk : (nearL w.n w.ps h).take (j + 1) = (nearL w.n w.ps h).take j ++ [b] := by rw [List.take_succ, hb]; rfl
      have nd : (nearL w.n w.ps h).Nodup := List.Pairwise.sublist List.filter_sublist List.nodup_range
      have bn : b ∉ (nearL w.n w.ps h).take j := fun z => by
        have n2 : ((nearL w.n w.ps h).take (j + 1)).Nodup := List.Pairwise.sublist (List.take_sublist _ _) nd
        rw [tk] at n2
        exact (List.nodup_append.mp n2).2.2 b z b (List.mem_singleton.mpr rfl) rfl
      show tIfS _ _ _ _ _ _
      refine s_when (b := !decide (V.int (b : Int) = V.int (src : Int))) (et_test (ev_op (ev_var rfl) (ev_var rfl) (rv_ne rfl))) (fun hb1 H4 e4 => ?_) fun hb1 H4 e4 => ?_
      · have ne : b ≠ src := fun z => by
          rw [z] at hb1
          simp at hb1
        obtain ⟨⟨dx, st, ul, bl, dt, kvs, hS⟩, _, hC⟩ := id (Rj.mono e4)
        have okq : (Slot.qu h b).ok w true := hn
        have x4 := hidF_le _ _ hS.hx
        have ct' : arrP k src h ((nearL w.n w.ps h).take j) ct (.qu h b) = ct (.qu h b) := if_neg fun z => bn z.2.1
        refine s_app (hC.at' _ okq) (ev_dgT (k := [Sum.inl (h : Int), Sum.inl (b : Int)]) (ev_fld R.cl R.nQ (ev_var rfl) x4 rfl) (hidF_le _ _ hS.hd) (eu_tup (ea_cons (ev_var rfl) (ea_cons (ev_var rfl) ea_nil)) (by show 2 ≤ 100000; decide)) (hS.hq h b hn)) (ev_var rfl) (by rw [ct']; have := hz _ okq; omega) fun H5 e5 => ?_
        refine ⟨⟨_, rfl⟩, ?_, npi, ((fr.trans (Fr.of e4)).trans (Fr.of e5)).trans (Fr.at ⟨_, okq, rfl⟩), ?_⟩
        · rw [upd_ne (fun z => npi ⟨_, okq, z.symm⟩)]
          exact e5 _ _ (e4 _ _ hp)
        · rw [tk]
          refine ((Rj.mono e4).mono e5).set okq ?_ fun t ht => ?_
          · rw [ct']
            exact if_pos ⟨rfl, List.mem_append_right _ (List.mem_singleton.mpr rfl), ne⟩
          · cases t with
            | bk y => rfl
            | un y => rfl
            | dd => rfl
            | qu a c =>
              show (if a = h ∧ c ∈ _ ++ [b] ∧ c ≠ src then _ else _) = if a = h ∧ c ∈ _ ∧ c ≠ src then _ else _
              by_cases c1 : a = h ∧ c = b
              · exact absurd (by rw [c1.1, c1.2]) ht
              · have e : (a = h ∧ c ∈ (nearL w.n w.ps h).take j ++ [b] ∧ c ≠ src) ↔ (a = h ∧ c ∈ (nearL w.n w.ps h).take j ∧ c ≠ src) := by
                  rw [List.mem_append, List.mem_singleton]
                  constructor
                  · rintro ⟨q1, q2 | q2, q3⟩
                    · exact ⟨q1, q2, q3⟩
                    · exact absurd ⟨q1, q2⟩ c1
                  · rintro ⟨q1, q2, q3⟩
                    exact ⟨q1, .inl q2, q3⟩
                simp only [e]
      · have eq : b = src := by
          have : decide (V.int (b : Int) = V.int (src : Int)) = true := by simpa using hb1
          have := V.int.inj (of_decide_eq_true this)
          omega
        refine ⟨⟨_, rfl⟩, e4 _ _ hp, npi, fr.trans (Fr.of e4), ?_⟩
        rw [tk]
        refine (Rj.mono e4).congr fun s _ => ?_
        cases s with
        | bk y => rfl
        | un y => rfl
        | dd => rfl
        | qu a c =>
          show (if a = h ∧ c ∈ _ ∧ c ≠ src then _ else _) = if a = h ∧ c ∈ _ ++ [b] ∧ c ≠ src then _ else _
          have e : (a = h ∧ c ∈ (nearL w.n w.ps h).take j ++ [b] ∧ c ≠ src) ↔ (a = h ∧ c ∈ (nearL w.n w.ps h).take j ∧ c ≠ src) := by
            rw [List.mem_append, List.mem_singleton]
            constructor
            · rintro ⟨q1, q2 | q2, q3⟩
              · exact ⟨q1, q2, q3⟩
              · exact absurd (q2.trans eq) q3
            · rintro ⟨q1, q2, q3⟩
              exact ⟨q1, .inl q2, q3⟩
          simp only [e]
    · obtain ⟨_, _, _, fr, Rj⟩ := q
      refine hQ H' fr (Rj.congr fun s hs => ?_)
      rw [List.length_map, List.take_length]
      cases s with
      | bk y => rfl
      | un y => rfl
      | dd => rfl
      | qu a b =>
        show (if a = h ∧ b ∈ _ ∧ b ≠ src then _ else _) = if a = h ∧ Km.nb w h b ∧ b ≠ src then _ else _
        by_cases c : a = h
        · subst c
          have hb : Km.nb w a b := hs
          have bm : b ∈ nearL w.n w.ps a := by
            rw [W.near hh]
            exact List.mem_filter.mpr ⟨List.mem_range.mpr (Km.nb_r W.ok hb), decide_eq_true hb⟩
          simp [bm, hb]
        · simp [c]
end
end Tr

set_option maxHeartbeats 4000000
/-! ### looksleft.running: book, under_way, shows, finished, script -/
namespace Tr
open PySem PySem.Spec PyProof.Rows L2 LK Evl
abbrev sFin : Stmt := inClass sRun 7
abbrev sScr : Stmt := inClass sRun 8
abbrev sLast : Stmt := top 40
theorem scShows : FnScope ["self", "house"] ["self", "house"] (defScope sShows) := ⟨rfl, rfl, rfl, by decide +kernel, rfl, by decide +kernel, by decide +kernel⟩
theorem scFin : FnScope ["self", "book"] ["self"] (defScope sFin) := ⟨rfl, rfl, rfl, by decide +kernel, rfl, by decide +kernel, by decide +kernel⟩
theorem scScr : FnScope ["self"] ["self"] (defScope sScr) := ⟨rfl, rfl, rfl, by decide +kernel, rfl, by decide +kernel, by decide +kernel⟩
abbrev nLast : List Str := ["store", "book", "last", "write"]
theorem scLast : FnScope nLast ["store", "book"] (defScope sLast) := ⟨rfl, rfl, rfl, by decide +kernel, rfl, by decide +kernel, by decide +kernel⟩
/-- what a copy shows -/
def lastS (cs : List Nat) (l : List (Option Nat)) (b : Nat) : List (Option Nat) := l.set (cs.getD b 0) (some b)
def lastL (cs bs : List Nat) : List (Option Nat) := bs.foldl (lastS cs) (List.replicate 6 none)
theorem lastS_len {cs : List Nat} {l : List (Option Nat)} {b : Nat} : (lastS cs l b).length = l.length := List.length_set
theorem lastF_len {cs bs : List Nat} : ∀ {l : List (Option Nat)}, (bs.foldl (lastS cs) l).length = l.length := by
  induction bs with
  | nil => intro l; rfl
  | cons b r ih => intro l; rw [List.foldl_cons, ih, lastS_len]
theorem lastL_get {cs bs : List Nat} {c : Nat} (h : c < 6) : (lastL cs bs)[c]? = some (bs.filter fun b => decide (cs.getD b 0 = c)).getLast? := by
  have go : ∀ (bs : List Nat) (l : List (Option Nat)) (o : Option Nat), l[c]? = some o → (bs.foldl (lastS cs) l)[c]? = some (match (bs.filter fun b => decide (cs.getD b 0 = c)).getLast? with | some b => some b | none => o) := by
    intro bs
    induction bs with
    | nil => intro l o e; exact e
    | cons b r ih =>
      intro l o e
      have lc : c < l.length := (List.getElem?_eq_some_iff.mp e).1
      rw [List.foldl_cons, List.filter_cons]
      by_cases k : cs.getD b 0 = c
      · rw [if_pos (decide_eq_true k), ih (lastS cs l b) (some b) (by unfold lastS; rw [k, List.getElem?_set_self lc])]
        cases z : (r.filter fun b => decide (cs.getD b 0 = c)) with
        | nil => rfl
        | cons x t =>
          obtain ⟨y, hy⟩ : ∃ y, (x :: t).getLast? = some y := Option.isSome_iff_exists.mp (by simp)
          rw [List.getLast?_cons_cons, hy]
      · rw [if_neg (by simpa using k), ih (lastS cs l b) o (by unfold lastS; rw [List.getElem?_set_ne k]; exact e)]
  have := go bs (List.replicate 6 none) none (by rw [List.getElem?_replicate, if_pos h])
  unfold lastL
  rw [this]
  cases (bs.filter fun b => decide (cs.getD b 0 = c)).getLast? <;> rfl
def spLast (K : PySem.W.Frag) (C CS : Addr) : Sp := fun vs H Q _ => ∃ (x l : Addr) (n : Nat) (ps : List (Nat × Nat)) (hs cs bs : List Nat), vs = [.ref x, .ref l] ∧ StoreAt K C CS H x n ps hs cs ∧ H l = some (.lst (bs.map natV)) ∧ (∀ b ∈ bs, b < cs.length) ∧ (∀ c ∈ cs, c < 6) ∧
  ∀ t H2, Ex H H2 → H2 t = some (.tup ((lastL cs bs).map optV)) → Q (.ref t) H2
def spShows (K : PySem.W.Frag) (C CS CR CI : Addr) : Sp := fun vs H Q E => ∃ (F : Addr → Prop) (x : Addr) (w : Km.W) (ad : Slot → Addr) (ct : Slot → List V) (bk : Nat → List Nat) (v : V) (d : PyData), vs = [.ref x, v] ∧ RunC K C CS CR F H x w ad ct ∧ Dq H v d ∧ (∀ h, ct (.bk h) = (bk h).map natV) ∧
  (∀ h, ∀ b ∈ bk h, b < w.cs.length) ∧ (∀ c ∈ w.cs, c < 6) ∧ (houseD w.n d = false → Out1 CI "given" v H E) ∧ ∀ h : Nat, d = .int (h : Int) → h < w.n → ∀ t H2, Ex H H2 → H2 t = some (.tup ((lastL w.cs (bk h)).map optV)) → Q (.ref t) H2
def spFin (K : PySem.W.Frag) (C CS CR : Addr) : Sp := fun vs H Q _ => ∃ (F : Addr → Prop) (x : Addr) (w : Km.W) (ad : Slot → Addr) (ct : Slot → List V), vs = [.ref x] ∧ RunC K C CS CR F H x w ad ct ∧ w.n ≤ 100 ∧ (∀ h, h < w.n → (ct (.bk h)).length ≤ 1000) ∧ w.hs.length ≤ 1000 ∧
  RetV (.bl ((List.range w.n).all fun h => decide ((ct (.bk h)).length = w.hs.length))) H Q
def spScr (K : PySem.W.Frag) (C CS CR : Addr) : Sp := fun vs H Q _ => ∃ (F : Addr → Prop) (x : Addr) (w : Km.W) (ad : Slot → Addr) (ct : Slot → List V), vs = [.ref x] ∧ RunC K C CS CR F H x w ad ct ∧ ∀ t H2, Ex H H2 → H2 t = some (.tup (ct .dd)) → Q (.ref t) H2
section
variable {P : Program} {w : World} {K : PySem.W.Frag} {mg : Str → Option Value} {base : Heap} {C CS CR CI CN f f1 f2 : Addr} {fd d1 d2 : FuncData} {tk : Tok}
theorem q_chk {tz : TS} {ta : TA} {E : XK} {D : Ends} {σ : L2.St} {H : Hp} {tr : Addr} {n : Nat} {ps : List (Nat × Nat)} {v : V} {d : PyData} (ha : EvA ta σ H [.ref tr, v]) (hT : TreeAt K C H tr n ps) (hd : Dq H v d) (hN : houseD n d = false → Out1 CI "given" v H E) (hY : houseD n d = true → ∀ H1, Ex H H1 → tz D σ H1) :
    tSeq (tDrop (tCall (spCheckX K C CI) [] E ta)) tz D σ H := ha H (Ex.refl H) _ fun H1 e1 => ⟨tr, n, ps, v, d, rfl, hT.mono e1, Dq.mono e1 hd, fun c H2 e2 => hY c H2 (e1.trans e2), fun c => (hN c).mono e1⟩
theorem Out2.mono {C : Addr} {f g : Str} {v u : V} {H H' : Hp} {E : XK} (e : Ex H H') (h : Out2 C f g v u H E) : Out2 C f g v u H' E := fun dx H2 e2 n z => h dx H2 (e.trans e2) (fresh_back e n) z
theorem q_chkR {tz : TS} {ta : TA} {E : XK} {D : Ends} {σ : L2.St} {H : Hp} {tr : Addr} {n : Nat} {ps : List (Nat × Nat)} {a b : V} {d e : PyData} (ha : EvA ta σ H [.ref tr, a, b]) (hT : TreeAt K C H tr n ps) (hJ : Joined n ps) (hd : Dq H a d) (he : Dq H b e) (hN1 : houseD n d = false → Out1 CI "given" a H E) (hN2 : houseD n d = true → houseD n e = false → Out1 CI "given" b H E)
    (hY : ∀ u v : Nat, d = .int (u : Int) → e = .int (v : Int) → u < n → v < n → (nearB n ps u v = true → ∀ H1, Ex H H1 → tz D σ H1) ∧ (nearB n ps u v = false → Out2 CN "u" "v" a b H E)) :
    tSeq (tDrop (tCall (spChkR K C CI CN) [] E ta)) tz D σ H := ha H (Ex.refl H) _ fun H1 e1 => ⟨tr, n, ps, a, b, d, e, rfl, hT.mono e1, hJ, Dq.mono e1 hd, Dq.mono e1 he, fun c => (hN1 c).mono e1, fun c c2 => (hN2 c c2).mono e1, fun u v z1 z2 l1 l2 => by
      obtain ⟨y1, y2⟩ := hY u v z1 z2 l1 l2
      exact ⟨fun c H2 e2 => y1 c H2 (e1.trans e2), fun c => (y2 c).mono e1⟩⟩
/-- return f(..) -/
theorem s_retC {sp : Sp} {dvs : List V} {E : XK} {σ : L2.St} {H : Hp} {ta : TA} {vs : List V} {D : Ends} (h : EvA ta σ H vs) (k : ∀ H1, Ex H H1 → sp (vs ++ dvs) H1 D.rt E) : tRet (tCall sp dvs E ta) D σ H := h H (Ex.refl H) _ k
/-- tuple(l), l a list -/
theorem s_tupL {σ : L2.St} {H : Hp} {te : TE} {a : Addr} {xs : List V} {D : Ends} (h : Ev te σ H (.ref a)) (hs : H a = some (.lst xs)) (k : ∀ t H2, Ex H H2 → H2 t = some (.tup xs) → D.rt (.ref t) H2) :
    tRet (tCB (fun xs H Q => ∃ p ys, xs = [.ref p] ∧ ((SqL K H p ys ∧ ∀ l, H l = none → Q (.ref l) (upd H l (.tup ys))) ∨ (SqT K H p ys ∧ Q (.ref p) H))) (tCons te tNil)) D σ H := h H (Ex.refl H) _ fun H1 e1 => ⟨a, xs, rfl, .inl ⟨sq_of (e1 _ _ hs), fun t nt => k t _ (e1.trans (Ex.new nt)) upd_same⟩⟩
theorem ok_book (F : FunD K "book" "Running.book" (defArgs sBook) (defBody sBook) (defScope sBook) [] [] f fd) (cs : Cls K CS) (nT : NoAttr K CS "tree") (R : RunCls K CR) (G1 : FnOk P w K mg base (L2N.CX P w) 4 f1 d1 ["tree", "house"] (spCheckX K C CI)) (k1 : Kd K mg "check_house" ["tree", "house"] f1 d1) (mt : mg "tuple" = none) :
    FnOk P w K mg base (L2N.CX P w) 5 f fd ["self", "house"] (spBook K C CS CR CI) := by
  refine F.ok scBook (fun vs H Q E h => ?_) fun cdv A outer s H0 vs Q E hr h => ⟨_,
    pss_cons (ps_expr (pe_call G1 hr (by rfl) k1.m k1.k k1.b .nil (L2N.passes_call (L2N.takes_of rfl rfl rfl rfl) fun _ _ _ _ h => h) (pa_cons (pe_fld (pe_fld (pv 0) rfl) rfl) (pa_cons (pv 1) pa_nil))))
    (pss_one (ps_ret (pe_callTy call_tuple_of (by rfl) mt (by decide +kernel) (pa_cons (pe_ix ix_list (pe_fld (pv 0) rfl) (pv 1) (fun _ _ => rfl)) pa_nil)))), ?_⟩
  · obtain ⟨F, x, w, ad, ct, v, d, rfl, _⟩ := h
    rfl
  · obtain ⟨F, x, w, ad, ct, v, d, rfl, hR, hd, hN, hY⟩ := h
    obtain ⟨⟨dx, st, ul, bl, dt, kvs, hS⟩, hF, hC⟩ := id hR
    have x1 := hidF_le _ _ hS.hx
    obtain ⟨dy, tr, ht, cc, s1, sT, _⟩ := hS.hst.mono hidF_le
    refine q_chk (n := w.n) (ps := w.ps) (d := d) (ea_cons (ev_fld cs nT (ev_fld R.cl R.nS (ev_var rfl) x1 rfl) s1 rfl) (ea_cons (ev_var rfl) ea_nil)) sT hd hN fun c H1 e1 => ?_
    obtain ⟨h, rfl, hh⟩ := house_of c
    cases hd
    have okb : (Slot.bk h).ok w true := hh
    exact s_tupL (ev_op (ev_fld R.cl R.nB (ev_var rfl) (e1 _ _ x1) rfl) (ev_var rfl) (rv_ixL (sq_of (e1 _ _ (hidF_le _ _ hS.hb))) (atI_nat (rng_at hh)))) (e1 _ _ (hC.at' _ okb)) fun t H2 e2 ht => hY h rfl hh t H2 (e1.trans e2) ht
theorem ok_under (F : FunD K "under_way" "Running.under_way" (defArgs sUnder) (defBody sUnder) (defScope sUnder) [] [] f fd) (cs : Cls K CS) (nT : NoAttr K CS "tree") (R : RunCls K CR) (G1 : FnOk P w K mg base (L2N.CX P w) 5 f1 d1 ["tree", "u", "v"] (spChkR K C CI CN)) (k1 : Kd K mg "check_road" ["tree", "u", "v"] f1 d1) (mt : mg "tuple" = none) :
    FnOk P w K mg base (L2N.CX P w) 6 f fd ["self", "u", "v"] (spUnder K C CS CR CI CN) := by
  refine F.ok scUnder (fun vs H Q E h => ?_) fun cdv A outer s H0 vs Q E hr h => ⟨_,
    pss_cons (ps_expr (pe_call G1 hr (by rfl) k1.m k1.k k1.b .nil (L2N.passes_call (L2N.takes_of rfl rfl rfl rfl) fun _ _ _ _ h => h) (pa_cons (pe_fld (pe_fld (pv 0) rfl) rfl) (pa_cons (pv 1) (pa_cons (pv 2) pa_nil)))))
    (pss_one (ps_ret (pe_callTy call_tuple_of (by rfl) mt (by decide +kernel) (pa_cons (pe_dget (hu_of hr) (pe_fld (pv 0) rfl) (pe_tup (pa_cons (pv 1) (pa_cons (pv 2) pa_nil))) (fun _ _ => rfl)) pa_nil)))), ?_⟩
  · obtain ⟨F, x, w, ad, ct, a, b, d, e, rfl, _⟩ := h
    rfl
  · obtain ⟨F, x, w, ad, ct, a, b, d, e, rfl, hR, W, hd, he, hN1, hN2, hY⟩ := h
    obtain ⟨⟨dx, st, ul, bl, dt, kvs, hS⟩, hF, hC⟩ := id hR
    have x1 := hidF_le _ _ hS.hx
    obtain ⟨dy, tr, ht, cc, s1, sT, _⟩ := hS.hst.mono hidF_le
    refine q_chkR (n := w.n) (ps := w.ps) (d := d) (e := e) (ea_cons (ev_fld cs nT (ev_fld R.cl R.nS (ev_var rfl) x1 rfl) s1 rfl) (ea_cons (ev_var rfl) (ea_cons (ev_var rfl) ea_nil))) sT W.joined hd he hN1 hN2 fun u v z1 z2 lu lv => ?_
    obtain ⟨y1, y2⟩ := hY u v z1 z2 lu lv
    have nb := W.nb lu lv
    refine ⟨fun c H1 e1 => ?_, fun c => y2 fun z => ?_⟩
    · have hn : Km.nb w u v := of_decide_eq_true (nb.symm.trans c)
      subst z1 z2
      cases hd
      cases he
      have okq : (Slot.qu u v).ok w true := hn
      exact s_tupL (ev_dgT (k := [Sum.inl (u : Int), Sum.inl (v : Int)]) (ev_fld R.cl R.nQ (ev_var rfl) (e1 _ _ x1) rfl) (e1 _ _ (hidF_le _ _ hS.hd)) (eu_tup (ea_cons (ev_var rfl) (ea_cons (ev_var rfl) ea_nil)) (by show 2 ≤ 100000; decide)) (hS.hq u v hn)) (e1 _ _ (hC.at' _ okq)) fun t H2 e2 ht => y1 hn t H2 (e1.trans e2) ht
    · rw [decide_eq_true z, c] at nb
      cases nb
theorem ok_last (F : FnP K "last_of_cells" sLast f fd) (cs : Cls K CS) (n3 : NoAttr K CS "cells") (mt : mg "tuple" = none) (mc : mg "CELLS" = some (.int 6 tk)) : FnOk P w K mg base CX0 1 f fd ["store", "book"] (spLast K C CS) := by
  refine F.ok scLast (fun vs H Q E h => ?_) fun cdv A outer s H0 vs Q E hr h => ⟨_, PSs.nox (
    pss_cons (ps_set (i := 2) scLast.nd rfl (.inl rfl) (pe_op op_rep (pe_lst (pa_cons pe_non pa_nil)) (pe_glob (v := .int 6) (by rfl) mc ⟨_, rfl⟩)))
    (pss_cons (ps_for PassesOwn.never rfl (pi_list (pv 1)) (pg_name (i := 3) scLast.nd rfl (.inl rfl)) (pss_one (ps_asg (pv 3) (pg_sub (pv 2) (pe_ix ix_tup (pe_fld (pv 0) rfl) (pv 3) (fun _ _ => rfl)) set_list))))
    (pss_one (ps_ret (pe_callTy call_tuple_of (by rfl) mt (by decide +kernel) (pa_cons (pv 2) pa_nil)))))), ?_⟩
  · obtain ⟨x, l, n, ps, hs, cs, bs, rfl, _⟩ := h
    rfl
  · obtain ⟨x, l, n, ps, hs, cs', bs, rfl, hS, hl, hb, h6, hQ⟩ := h
    refine q_asgL (xs := List.replicate 6 V.non) (el_rep (x := .non) (n := 6) (el_lst (ea_cons ev_c ea_nil) (by show 1 ≤ 100000; decide)) ev_c (by decide)) fun p H1 np e1 hp => ?_
    have pl : l ≠ p := ne_of_none hl np
    have hQ' : ∀ t H2, Ex H1 H2 → H2 t = some (.tup ((lastL cs' bs).map optV)) → Q (.ref t) H2 := fun t H2 e z => hQ t H2 (e1.trans e) z
    have hS1 := hS.mono e1
    obtain ⟨dx, tr, ht, ct, x1, hT, hH, hC⟩ := id hS
    refine q_forLn (xs := bs.map natV) (ev_var rfl) (sq_of (e1 _ _ hl)) (fun i (σ' : L2.St) (H' : Hp) => (∃ y, σ' = [some (.ref x), some (.ref l), some (.ref p), y]) ∧ Ex H0 H' ∧ H' p = some (.lst (((bs.take i).foldl (lastS cs') (List.replicate 6 none)).map optV)))
      (fun H2 e2 => ⟨⟨_, rfl⟩, e1.trans e2, e2 _ _ hp⟩) (fun i σ' H' _ q => sq_of (q.2.1 _ _ hl)) (fun i y σ' H' hy q => ?_) fun σ' H' q => ?_
    · obtain ⟨⟨z, rfl⟩, e, hp'⟩ := q
      rw [List.getElem?_map] at hy
      obtain ⟨b, hbi, rfl⟩ := Option.map_eq_some_iff.mp hy
      have hbl := hb b (List.mem_of_getElem? hbi)
      have hc6 : cs'.getD b 0 < 6 := by
        rw [List.getD_eq_getElem?_getD, List.getElem?_eq_getElem hbl]
        exact h6 _ (List.getElem_mem hbl)
      refine s_setL (j := cs'.getD b 0) hp' (ev_var rfl) (ev_var rfl) (ev_op (ev_fld cs n3 (ev_var rfl) (e _ _ x1) rfl) (ev_var rfl) (rv_ixT (ex_t e hC) (atI_nat (v := natV (cs'.getD b 0)) (by
        rw [List.getElem?_map, List.getD_eq_getElem?_getD, List.getElem?_eq_getElem hbl]
        rfl)))) (by rw [List.length_map, lastF_len, List.length_replicate]; exact hc6) fun H2 e2 => ?_
      refine ⟨⟨_, rfl⟩, Ex.mut (e.trans e2) np, ?_⟩
      rw [upd_same, List.take_succ, hbi]
      simp only [Option.toList_some, List.foldl_append, List.foldl_cons, List.foldl_nil]
      conv => rhs; unfold lastS
      rw [List.map_set]
      rfl
    · obtain ⟨⟨z, rfl⟩, e, hp'⟩ := q
      rw [List.length_map, List.take_length] at hp'
      exact s_tupL (ev_var rfl) hp' fun t H2 e2 ht => hQ t H2 (e.trans e2) ht
theorem ok_shows (F : FunD K "shows" "Running.shows" (defArgs sShows) (defBody sShows) (defScope sShows) [] [] f fd) (cs : Cls K CS) (nT : NoAttr K CS "tree") (R : RunCls K CR) (G1 : FnOk P w K mg base (L2N.CX P w) 4 f1 d1 ["tree", "house"] (spCheckX K C CI)) (k1 : Kd K mg "check_house" ["tree", "house"] f1 d1)
    (G2 : FnOk P w K mg base CX0 1 f2 d2 ["store", "book"] (spLast K C CS)) (k2 : Kd K mg "last_of_cells" ["store", "book"] f2 d2) :
    FnOk P w K mg base (L2N.CX P w) 5 f fd ["self", "house"] (spShows K C CS CR CI) := by
  refine F.ok scShows (fun vs H Q E h => ?_) fun cdv A outer s H0 vs Q E hr h => ⟨_,
    pss_cons (ps_expr (pe_call G1 hr (by rfl) k1.m k1.k k1.b .nil (L2N.passes_call (L2N.takes_of rfl rfl rfl rfl) fun _ _ _ _ h => h) (pa_cons (pe_fld (pe_fld (pv 0) rfl) rfl) (pa_cons (pv 1) pa_nil))))
    (pss_one (ps_ret (pe_call G2 (hr.mono (by decide)) (by rfl) k2.m k2.k k2.b .nil pass0 (pa_cons (pe_fld (pv 0) rfl) (pa_cons (pe_ix ix_list (pe_fld (pv 0) rfl) (pv 1) (fun _ _ => rfl)) pa_nil))))), ?_⟩
  · obtain ⟨F, x, w, ad, ct, bk, v, d, rfl, _⟩ := h
    rfl
  · obtain ⟨F, x, w, ad, ct, bk, v, d, rfl, hR, hd, hbk, hb, h6, hN, hY⟩ := h
    obtain ⟨⟨dx, st, ul, bl, dt, kvs, hS⟩, hF, hC⟩ := id hR
    have x1 := hidF_le _ _ hS.hx
    have hSt := hS.hst.mono hidF_le
    obtain ⟨dy, tr, ht, cc, s1, sT, _⟩ := id hSt
    refine q_chk (n := w.n) (ps := w.ps) (d := d) (ea_cons (ev_fld cs nT (ev_fld R.cl R.nS (ev_var rfl) x1 rfl) s1 rfl) (ea_cons (ev_var rfl) ea_nil)) sT hd hN fun c H1 e1 => ?_
    obtain ⟨h, rfl, hh⟩ := house_of c
    cases hd
    have okb : (Slot.bk h).ok w true := hh
    refine s_retC (ea_cons (ev_fld R.cl R.nS (ev_var rfl) (e1 _ _ x1) rfl) (ea_cons (ev_op (ev_fld R.cl R.nB (ev_var rfl) (e1 _ _ x1) rfl) (ev_var rfl) (rv_ixL (sq_of (e1 _ _ (hidF_le _ _ hS.hb))) (atI_nat (rng_at hh)))) ea_nil)) fun H2 e2 => ?_
    have e12 := e1.trans e2
    exact ⟨st, _, w.n, w.ps, w.hs, w.cs, bk h, rfl, hSt.mono e12, by rw [← hbk h]; exact e12 _ _ (hC.at' _ okb), hb h, h6, fun t H3 e3 ht => hY h rfl hh t H3 (e12.trans e3) ht⟩
theorem ok_fin (F : FunD K "finished" "Running.finished" (defArgs sFin) (defBody sFin) (defScope sFin) [] [] f fd) (R : RunCls K CR) (G1 : FnOk P w K mg base CX0 1 f1 d1 ["self"] (spLenS K C CS)) (hb1 : Binds K d1 ["self"] []) (hs1 : PySem.W.findIn K (.ref CS) "__len__" = some (some (.ref f1))) (hf1 : PySem.W.isFn K (.ref f1) = true) (ma : mg "all" = none) (ml : mg "len" = none) :
    FnOk P w K mg base CX0 3 f fd ["self"] (spFin K C CS CR) := by
  refine F.ok scFin (fun vs H Q E h => ?_) fun cdv A outer s H0 vs Q E hr h => ⟨_, PSs.nox (pss_one (ps_ret (pe_callB (cr_all rfl) (by rfl) ma (by decide +kernel) (pa_cons
    (pe_lc (own := [("book", 1)]) (g := gName 1) (tt := tYes) rfl scFin.nd (pi_list (pe_fld (pv 0) rfl)) (blkOk_by (N := ["self", "book"]) (sc := defScope sFin) (by decide +kernel)) (fun _ _ _ _ _ => pg_name (i := 1) scFin.nd rfl (.inl rfl)) (fun _ _ _ _ _ => pts_nil)
      (fun _ _ _ _ _ => pe_cmpR op_eq (pe_callB (r := rLenS K) call_len_seq (by rfl) ml PySem.boot_len (pa_cons (pv 1) pa_nil)) (pe_callB (r := rLenO CS (spLenS K C CS) E0) (t := tCons (tFld K (tVar 0) "store") tNil) (call_lenOwn (E := E0) G1 hr hb1 pass0 hs1 hf1) (by rfl) ml PySem.boot_len (pa_cons (pe_fld (pv 0) rfl) pa_nil)) (nomark _))) pa_nil)))), ?_⟩
  · obtain ⟨F, x, w, ad, ct, rfl, _⟩ := h
    rfl
  · obtain ⟨F, x, w, ad, ct, rfl, hR, hn, hz, h12, hQ⟩ := h
    obtain ⟨⟨dx, st, ul, bl, dt, kvs, hS⟩, hF, hC⟩ := id hR
    have x1 := hidF_le _ _ hS.hx
    have hSt := hS.hst.mono hidF_le
    obtain ⟨dy, tr, ht, cc, s1, sT, _⟩ := id hSt
    refine s_ret ?_ hQ
    have e : ((List.range w.n).all fun h => decide ((ct (.bk h)).length = w.hs.length)) = ((List.range w.n).map fun h => decide ((ct (.bk h)).length = w.hs.length)).all id := by rw [List.all_map]; rfl
    rw [e]
    refine ev_all ?_
    have key := el_lcL (K := K) (σ := start ["self", "book"] [.ref x]) (H := H0) (a := bl) (xs := (List.range w.n).map fun h => V.ref (ad (.bk h))) (tl := tFld K (tVar 0) "_books") (t := tYes) (te := tOp rEq (tCB (rLenS K) (tCons (tVar 1) tNil)) (tCB (rLenO CS (spLenS K C CS) E0) (tCons (tFld K (tVar 0) "store") tNil))) (j := 1) (vs := [1]) (fun _ => true) (fun i => .bl (decide ((ct (.bk i)).length = w.hs.length)))
      (ev_fld R.cl R.nB (ev_var rfl) x1 rfl) (sq_of (hidF_le _ _ hS.hb)) (by rw [List.length_map, List.length_range]; omega) (fun _ => rfl) (fun i y H1 e1 hy H2 e2 Q q => by unfold tYes; exact q H2 (Ex.refl _)) fun i y H1 e1 hy _ => ?_
    · have eL : given ((List.range w.n).map fun h => V.ref (ad (.bk h))).length (fun _ => true) (fun i => V.bl (decide ((ct (.bk i)).length = w.hs.length))) = ((List.range w.n).map fun h => decide ((ct (.bk h)).length = w.hs.length)).map V.bl := by
        unfold given
        rw [List.length_map, List.length_range, List.filter_eq_self.mpr (fun _ _ => rfl), List.map_map]
        rfl
      rw [eL] at key
      exact key
    · have hi : i < w.n := by
        have := (List.getElem?_eq_some_iff.mp hy).1
        rwa [List.length_map, List.length_range] at this
      have hy' : y = V.ref (ad (.bk i)) := by
        rw [rng_at hi] at hy
        exact (Option.some.inj hy).symm
      subst hy'
      have okb : (Slot.bk i).ok w true := hi
      refine ev_is (v := .bl (decide (V.int ((ct (.bk i)).length : Int) = V.int (w.hs.length : Int)))) (ev_op (ev_len (ev_var rfl) (sq_of (e1 _ _ (hC.at' _ okb)))) (fun H2 e2 Q q => ?_) (rv_eq rfl)) ?_
      · refine (ea_cons (ev_fld R.cl R.nS (ev_var rfl) (e1 _ _ x1) rfl) ea_nil) H2 e2 _ fun H3 e3 => ⟨st, dy, _, rfl, (e1.trans (e2.trans e3)) _ _ s1, st, w.n, w.ps, w.hs, w.cs, rfl, hSt.mono (e1.trans (e2.trans e3)), fun H4 e4 => ⟨_, rfl, by omega, by omega, q H4 (e3.trans e4)⟩⟩
      · congr 1
        refine decide_eq_decide.mpr ⟨fun z => by have := V.int.inj z; omega, fun z => by rw [z]⟩
theorem ok_scr (F : FunD K "script" "Running.script" (defArgs sScr) (defBody sScr) (defScope sScr) [] [] f fd) (R : RunCls K CR) (mt : mg "tuple" = none) :
    FnOk P w K mg base CX0 1 f fd ["self"] (spScr K C CS CR) := by
  refine F.ok scScr (fun vs H Q E h => ?_) fun cdv A outer s H0 vs Q E hr h => ⟨_, PSs.nox (pss_one (ps_ret (pe_callTy call_tuple_of (by rfl) mt (by decide +kernel) (pa_cons (pe_fld (pv 0) rfl) pa_nil)))), ?_⟩
  · obtain ⟨F, x, w, ad, ct, rfl, _⟩ := h
    rfl
  · obtain ⟨F, x, w, ad, ct, rfl, hR, hQ⟩ := h
    obtain ⟨⟨dx, st, ul, bl, dt, kvs, hS⟩, hF, hC⟩ := id hR
    have okd : Slot.dd.ok w true := trivial
    exact s_tupL (ev_fld R.cl R.nD (ev_var rfl) (hidF_le _ _ hS.hx) rfl) (hC.at' _ okd) hQ
end
end Tr

/-! What is left to make, behind a deed. -/
namespace Km
theorem left_nodup {w : W} {s : S} {h : Nat} : (left w s h).Nodup := List.Pairwise.sublist List.filter_sublist List.nodup_range
theorem left_eq {w : W} {s t : S} {h : Nat} (e : ∀ k, k < w.hs.length → home w k = h → ((t.bk h).contains k = (s.bk h).contains k)) : left w t h = left w s h := by
  unfold left
  refine List.filter_congr fun k hk => ?_
  by_cases c : home w k = h
  · rw [e k (List.mem_range.mp hk) c]
  · rw [decide_eq_false c, Bool.false_and, Bool.false_and]
theorem left_mk {w : W} {s : S} {h k : Nat} {r : List Nat} (e : left w s h = k :: r) (d : Dd) : left w (said (arrive w s k h h) d) h = r := by
  have nd := left_nodup (w := w) (s := s) (h := h)
  rw [e] at nd
  have nk := (List.nodup_cons.mp nd).1
  have z : left w (said (arrive w s k h h) d) h = (left w s h).filter fun j => decide (j ≠ k) := by
    unfold left
    rw [List.filter_filter]
    refine List.filter_congr fun j hj => ?_
    show (decide (home w j = h) && !((arrive w s k h h).bk h).contains j) = _
    rw [arr_bk, if_pos rfl]
    by_cases c : j = k
    · subst c; simp
    · simp [c]
  rw [z, e, List.filter_cons_of_neg (by simp)]
  exact List.filter_eq_self.mpr fun j hj => decide_eq_true fun q => nk (q ▸ hj)
theorem left_arr_ne {w : W} {s : S} {h k src x : Nat} (n : x ≠ h) (d : Dd) : left w (said (arrive w s k src h) d) x = left w s x := left_eq fun j _ _ => by
  show ((arrive w s k src h).bk x).contains j = _
  rw [arr_bk, if_neg n]
theorem left_hd {w : W} (ok : Ok w) {s : S} (I : Inv w s) {u v k : Nat} {r : List Nat} (hq : s.qu u v = k :: r) (d : Dd) (x : Nat) : left w (said (arrive w (popQ s u v) k u v) d) x = left w s x := left_eq fun j hj hx => by
  show ((arrive w (popQ s u v) k u v).bk x).contains j = _
  rw [arr_bk]
  by_cases c : x = v
  · subst c
    rw [if_pos rfl]
    have kin : k ∈ s.qu u x := by rw [hq]; exact .head _
    obtain ⟨hk, _, _⟩ := I.q1 u x k kin
    obtain ⟨par, rank, R⟩ := ok.root (home w k) (home_lt ok hk)
    have n := (I.y1 k hk par rank R u x kin).1
    have jk : j ≠ k := fun z => n (by rw [← z, hx])
    show (s.bk x ++ [k]).contains j = (s.bk x).contains j
    simp [jk]
  · rw [if_neg c]
    rfl
end Km

set_option maxHeartbeats 4000000
/-! ### looksleft.running: make, hand -/
namespace Tr
open PySem PySem.Spec PyProof.Rows L2 LK Evl
theorem scMake : FnScope ["self", "house", "write"] ["self", "house"] (defScope sMake) := ⟨rfl, rfl, rfl, by decide +kernel, rfl, by decide +kernel, by decide +kernel⟩
theorem scHand : FnScope ["self", "u", "v", "write"] ["self", "u", "v"] (defScope sHand) := ⟨rfl, rfl, rfl, by decide +kernel, rfl, by decide +kernel, by decide +kernel⟩
/-- what may change is there -/
def Live (F : Addr → Prop) (H : Hp) : Prop := ∀ a, F a → ∃ o, H a = some o
theorem Live.mono {F : Addr → Prop} {H H' : Hp} (h : Live F H) (e : Ex H H') : Live F H' := fun a k => by
  obtain ⟨o, z⟩ := h a k
  exact ⟨o, e _ _ z⟩
theorem Live.new {F : Addr → Prop} {H : Hp} (h : Live F H) {a : Addr} (n : H a = none) : ¬ F a := fun k => by
  obtain ⟨o, z⟩ := h a k
  rw [n] at z
  cases z
theorem dqAll_snoc {H : Hp} : ∀ {vs : List V} {ds : List PyData} {v : V} {d : PyData}, DqAll H vs ds → Dq H v d → DqAll H (vs ++ [v]) (ds ++ [d])
  | _, _, _, _, .nil, k => .cons k .nil
  | _, _, _, _, .cons h t, k => .cons h (dqAll_snoc t k)
theorem deed_dq {H : Hp} {t : Addr} {d : Km.Dd} (h : H t = some (.tup (deedV d))) : Dq H (.ref t) (deedD d) := by
  cases d with
  | mk x => exact .tup h (.cons (.str _) (.cons (.int _) .nil))
  | hd u v => exact .tup h (.cons (.str _) (.cons (.int _) (.cons (.int _) .nil)))
theorem ct_len {w : Km.W} (W : Wd w) {s : Km.S} (r : Km.Run w s) {G : Hp} {ds : List V} (hd : Deeds G ds s.dd) (t : Slot) (ht : t.ok w true) : (ctOf w s ds t).length ≤ 200 := by
  have I := r.inv W.ok
  have f := W.ok.few
  cases t with
  | un h =>
    show ((Km.left w s h).map natV).length ≤ 200
    rw [List.length_map]
    have := List.length_filter_le (fun k => decide (Km.home w k = h) && !(s.bk h).contains k) (List.range w.hs.length)
    rw [List.length_range] at this
    unfold Km.left
    omega
  | bk h =>
    show ((s.bk h).map natV).length ≤ 200
    rw [List.length_map]
    have := I.few W.ok (v := h) ht
    omega
  | qu u v =>
    show ((s.qu u v).map natV).length ≤ 200
    rw [List.length_map]
    have := I.qfew W.ok u v
    omega
  | dd =>
    have := dq_len hd
    rw [List.length_map] at this
    have := r.ddfew W.ok
    show ds.length ≤ 200
    omega
def spMake (K : PySem.W.Frag) (C CS CR CI CM : Addr) : Sp := fun vs H Q E => ∃ (F : Addr → Prop) (x : Addr) (w : Km.W) (ad : Slot → Addr) (s : Km.S) (v : V) (d : PyData), vs = [.ref x, v] ∧ RunAt K C CS CR F H x w ad s ∧ Live F H ∧ Wd w ∧ Km.Run w s ∧ Dq H v d ∧ (houseD w.n d = false → Out1 CI "given" v H E) ∧
  ∀ h : Nat, d = .int (h : Int) → h < w.n → (Km.left w s h = [] → Out1 CM "house" v H E) ∧ ∀ s' k, Km.step w s (.mk h) = some (s', k) → ∀ H2, Fr (In w true ad) H H2 → Live F H2 → RunAt K C CS CR F H2 x w ad s' → Q (.int (k : Int)) H2
def spHand (K : PySem.W.Frag) (C CS CR CI CN CW : Addr) : Sp := fun vs H Q E => ∃ (F : Addr → Prop) (x : Addr) (w : Km.W) (ad : Slot → Addr) (s : Km.S) (a b : V) (d e : PyData), vs = [.ref x, a, b] ∧ RunAt K C CS CR F H x w ad s ∧ Live F H ∧ Wd w ∧ Km.Run w s ∧ Dq H a d ∧ Dq H b e ∧
  (houseD w.n d = false → Out1 CI "given" a H E) ∧ (houseD w.n d = true → houseD w.n e = false → Out1 CI "given" b H E) ∧
  ∀ u v : Nat, d = .int (u : Int) → e = .int (v : Int) → u < w.n → v < w.n → (¬ Km.nb w u v → Out2 CN "u" "v" a b H E) ∧ (Km.nb w u v → s.qu u v = [] → Out2 CW "u" "v" a b H E) ∧
    ∀ s' k, Km.step w s (.hd u v) = some (s', k) → ∀ H2, Fr (In w true ad) H H2 → Live F H2 → RunAt K C CS CR F H2 x w ad s' → Q (.int (k : Int)) H2
section
variable {P : Program} {w : World} {K : PySem.W.Frag} {mg : Str → Option Value} {base : Heap} {C CS CR CI CN CM CW f f1 f2 : Addr} {fd d1 d2 : FuncData} {tk : Tok}
theorem et_truL {σ : L2.St} {H : Hp} {ta : TE} {l : Addr} {xs : List V} (h : Ev ta σ H (.ref l)) (hl : H l = some (.lst xs)) : EvT (fun σ H Q => ta σ H fun x H' => ∃ k, TruV K x H' k ∧ Q k H') σ H (!xs.isEmpty) := fun H1 e Q q => h H1 e _ fun H2 e2 => ⟨_, .inl ⟨_, sq_of (e2 _ _ (e _ _ hl)), rfl⟩, q H2 e2⟩
theorem q_pop0 {tz : TS} {D : Ends} {σ : L2.St} {H : Hp} {ta : TE} {i : Nat} {l : Addr} {x : V} {xs : List V} (hl : H l = some (.lst (x :: xs))) (ha : Ev ta σ H (.ref l)) (k : ∀ H1, Ex H H1 → tz D (σ.set i (some x)) (upd H1 l (.lst xs))) : tSeq (tAsg (tBM K "list" rPopAt ta (tCons (tC (.int 0)) tNil)) (gName i)) tz D σ H :=
  ha H (Ex.refl H) _ fun H1 e1 => ⟨.inl ⟨rfl, _, sq_of (e1 _ _ hl)⟩, ⟨l, x :: xs, 0, 0, x, rfl, rfl, e1 _ _ hl, by decide, by decide, by simp [seqIndex?], rfl, k H1 e1⟩⟩
theorem RunC.live {F : Addr → Prop} {H H2 : Hp} {x : Addr} {w : Km.W} {ad : Slot → Addr} {ct : Slot → List V} (h : RunC K C CS CR F H2 x w ad ct) (l : Live F H) (e : Fr (In w true ad) H H2) : Live F H2 := fun a k => by
  by_cases c : In w true ad a
  · obtain ⟨s, ok, rfl⟩ := c
    exact ⟨_, h.2.2.at' s ok⟩
  · obtain ⟨o, z⟩ := l a k
    exact ⟨o, e _ _ c z⟩
theorem ok_make (F : FunD K "make" "Running.make" (defArgs sMake) (defBody sMake) (defScope sMake) [] [] f fd) (cs : Cls K CS) (nT : NoAttr K CS "tree") (R : RunCls K CR) (G1 : FnOk P w K mg base (L2N.CX P w) 4 f1 d1 ["tree", "house"] (spCheckX K C CI)) (k1 : Kd K mg "check_house" ["tree", "house"] f1 d1)
    (hm : Meth K CR "_arrive" f2) (G2 : FnOk P w K mg base CX0 6 f2 d2 ["self", "write", "origin", "house"] (spArr K C CS CR)) (hb2 : Binds K d2 ["self", "write", "origin", "house"] []) (eM : Er1 P w K mg base "NothingToMake" "house" CM) :
    FnOk P w K mg base (L2N.CX P w) 7 f fd ["self", "house"] (spMake K C CS CR CI CM) := by
  obtain ⟨L, T⟩ := eM.ek
  obtain ⟨fI, dI, hI, bI⟩ := eM.ini
  refine F.ok scMake (fun vs H Q E h => ?_) fun cdv A outer s H0 vs Q E hr h => ⟨_,
    pss_cons (ps_expr (pe_call G1 (hr.mono (by decide)) (by rfl) k1.m k1.k k1.b .nil (L2N.passes_call (L2N.takes_of rfl rfl rfl rfl) fun _ _ _ _ h => h) (pa_cons (pe_fld (pe_fld (pv 0) rfl) rfl) (pa_cons (pv 1) pa_nil))))
    (pss_cons (ps_if (pt_not (pt_truth (pe_ix ix_list (pe_fld (pv 0) rfl) (pv 1) (fun _ _ => rfl)) (fun _ => rfl))) (pss_one (L2N.ps_raise rfl (L2N.takes_of rfl rfl rfl rfl) (pmk_newE T hI (hr.mono (by decide)) bI eM.m (pa_cons (pv 1) pa_nil)))) pss_nil)
    (pss_cons (ps_set (i := 2) scMake.nd rfl (.inl rfl) (pe_bm PySem.F.plainAttrs_list PySem.F.slot_list_pop PySem.F.type_list_pop mt_popAt (pe_ix ix_list (pe_fld (pv 0) rfl) (pv 1) (fun _ _ => rfl)) (pa_cons pe_int pa_nil)))
    (pss_cons (ps_expr (pe_meth (pv 0) R.cl hm G2 hr hb2 .nil pass0 (pa_cons (pv 2) (pa_cons (pv 1) (pa_cons (pv 1) pa_nil)))))
    (pss_cons (ps_expr (pe_bm PySem.F.plainAttrs_list PySem.F.slot_list_append PySem.F.type_list_append mt_append (pe_fld (pv 0) rfl) (pa_cons (pe_tup (pa_cons pe_str (pa_cons (pv 1) pa_nil))) pa_nil)))
    (pss_one (ps_ret (pv 2))))))), ?_⟩
  · obtain ⟨F, x, w, ad, s, v, d, rfl, _⟩ := h
    rfl
  · obtain ⟨F, x, w, ad, s, v, d, rfl, ⟨ds, hR, hD⟩, hL, W, r, hd, hN, hY⟩ := h
    obtain ⟨⟨dx, st, ul, bl, dt, kvs, hS⟩, hF, hC⟩ := id hR
    have x1 := hidF_le _ _ hS.hx
    obtain ⟨dy, tr, ht, cc, s1, sT, _⟩ := hS.hst.mono hidF_le
    refine q_chk (n := w.n) (ps := w.ps) (d := d) (ea_cons (ev_fld cs nT (ev_fld R.cl R.nS (ev_var rfl) x1 rfl) s1 rfl) (ea_cons (ev_var rfl) ea_nil)) sT hd hN fun c H1 e1 => ?_
    obtain ⟨h, rfl, hh⟩ := house_of c
    cases hd
    obtain ⟨hE, hOk⟩ := hY h rfl hh
    have oku : (Slot.un h).ok w true := ⟨rfl, hh⟩
    have cu : H1 (ad (.un h)) = some (.lst ((Km.left w s h).map natV)) := e1 _ _ (hC.at' _ oku)
    have ixu : ∀ H2, Ex H1 H2 → Ev (tOp (rIxL K) (tFld K (tVar 0) "_unmade") (tVar 1)) [some (.ref x), some (.int (h : Int)), none] H2 (.ref (ad (.un h))) := fun H2 e2 =>
      ev_op (ev_fld R.cl R.nU (ev_var rfl) (e2 _ _ (e1 _ _ x1)) rfl) (ev_var rfl) (rv_ixL (sq_of (e2 _ _ (e1 _ _ (hidF_le _ _ hS.hu)))) (atI_nat (rng_at hh)))
    refine q_when (et_not (et_truL (ixu H1 (Ex.refl _)) cu)) (fun hb H2 e2 => ?_) fun hb H2 e2 => ?_
    · have z : Km.left w s h = [] := by
        cases q : Km.left w s h with
        | nil => rfl
        | cons a b => rw [q] at hb; cases hb
      exact ⟨_, rfl, Nat.le_of_ble_eq_true rfl, rfl, fun dx nd => hE z dx _ ((e1.trans e2).trans (Ex.new nd)) (fresh_back (e1.trans e2) nd) upd_same⟩
    · obtain ⟨k, rs, hk⟩ : ∃ k rs, Km.left w s h = k :: rs := by
        cases q : Km.left w s h with
        | nil => rw [q] at hb; cases hb
        | cons a b => exact ⟨a, b, rfl⟩
      have e12 := e1.trans e2
      refine q_pop0 (x := natV k) (xs := rs.map natV) (by rw [e2 _ _ cu, hk]; rfl) (ixu H2 e2) fun H3 e3 => ?_
      have e13 := e12.trans e3
      -- the list of what is left, one less
      have R3 : RunC K C CS CR F (upd H3 (ad (.un h)) (.lst (rs.map natV))) x w ad (fun t => if t = .un h then rs.map natV else ctOf w s ds t) := (hR.mono e13).set oku (if_pos rfl) fun t nt => if_neg nt
      have fr3 : Fr (In w true ad) H0 (upd H3 (ad (.un h)) (.lst (rs.map natV))) := (Fr.of e13).trans (Fr.at ⟨_, oku, rfl⟩)
      have hD3 : Deeds (hidF F (upd H3 (ad (.un h)) (.lst (rs.map natV)))) ds s.dd := DqAll.mono ((Fr.of e13).trans (Fr.at (hF _ ⟨_, oku, rfl⟩))).hid hD
      generalize upd H3 (ad (.un h)) (.lst (rs.map natV)) = H4 at R3 fr3 hD3 ⊢
      obtain ⟨⟨dx4, st4, ul4, bl4, dt4, kvs4, hS4⟩, _, _⟩ := id R3
      refine ⟨_, rfl, x, dx4, _, rfl, hidF_le _ _ hS4.hx, rfl, _, rfl, _, rfl, _, rfl, F, x, w, ad, _, k, h, h, rfl, R3, W, hh, fun t ht => ?_, fun H5 fr5 R5 => ?_⟩
      · by_cases c : t = .un h
        · subst c
          have := ct_len W r hD _ oku
          have z : (ctOf w s ds (.un h)).length = ((Km.left w s h).map natV).length := rfl
          rw [hk] at z
          show (if _ then _ else _ : List V).length ≤ 5000
          rw [if_pos rfl]
          rw [List.map_cons, List.length_cons] at z
          omega
        · show (if _ then _ else _ : List V).length ≤ 5000
          rw [if_neg c]
          have := ct_len W r hD t ht
          omega
      · have fr05 := fr3.trans fr5
        have hD5 : Deeds (hidF F H5) ds s.dd := DqAll.mono (fr5.up hF).hid hD3
        obtain ⟨⟨dx5, st5, ul5, bl5, dt5, kvs5, hS5⟩, _, hC5⟩ := id R5
        have L5 : Live F H5 := R5.live hL fr05
        have okd : Slot.dd.ok w true := trivial
        have cd5 : H5 (ad .dd) = some (.lst ds) := hC5.at' _ okd
        dsimp only
        refine q_appU (xs := ds) (ys := deedV (.mk h)) cd5 (ev_fld R.cl R.nD (ev_var rfl) (hidF_le _ _ hS5.hx) rfl) (eu_tup (ea_cons ev_c (ea_cons (ev_var rfl) ea_nil)) (by show 2 ≤ 100000; decide)) (by
          have := ct_len W r hD5 .dd okd
          have z : (ctOf w s ds .dd).length = ds.length := rfl
          omega) fun t H6 nt e6 ht => ?_
        refine s_ret (ev_var rfl) fun H7 e7 => ?_
        have st := Km.mk_step hk hh
        refine hOk _ k st H7 ((fr05.trans (Fr.of e6)).trans ((Fr.at ⟨_, okd, rfl⟩).trans (Fr.of e7))) ?_ ?_
        · refine ((R5.mono e6).set (ct' := fun t' => if t' = .dd then ds ++ [.ref t] else arrC w k h h (fun t => if t = .un h then rs.map natV else ctOf w s ds t) t') okd (if_pos rfl) fun t' n => if_neg n).mono e7 |>.live hL ((fr05.trans (Fr.of e6)).trans ((Fr.at ⟨_, okd, rfl⟩).trans (Fr.of e7)))
        · refine ⟨ds ++ [.ref t], (((R5.mono e6).set (ct' := fun t' => if t' = .dd then ds ++ [.ref t] else arrC w k h h (fun t => if t = .un h then rs.map natV else ctOf w s ds t) t') okd (if_pos rfl) fun t' n => if_neg n).mono e7).congr fun t' ht' => ?_, ?_⟩
          · cases t' with
            | dd => rfl
            | un y =>
              show (if Slot.un y = .un h then rs.map natV else (Km.left w s y).map natV) = (Km.left w _ y).map natV
              by_cases c : y = h
              · subst c
                rw [if_pos rfl, Km.left_mk hk]
              · rw [if_neg (fun z => c (by injection z)), Km.left_arr_ne c]
            | bk y =>
              show (if y = h then (s.bk y).map natV ++ [natV k] else (s.bk y).map natV) = ((if y = h then s.bk h ++ [k] else s.bk y)).map natV
              by_cases c : y = h
              · rw [if_pos c, if_pos c, List.map_append, c]; rfl
              · rw [if_neg c, if_neg c]
            | qu a b =>
              show (if a = h ∧ Km.nb w h b ∧ b ≠ h then (s.qu a b).map natV ++ [natV k] else (s.qu a b).map natV) = ((if a = h ∧ Km.nb w h b ∧ b ≠ h then s.qu a b ++ [k] else s.qu a b)).map natV
              by_cases c : a = h ∧ Km.nb w h b ∧ b ≠ h
              · rw [if_pos c, if_pos c, List.map_append]; rfl
              · rw [if_neg c, if_neg c]
          · show DqAll _ (ds ++ [.ref t]) ((s.dd ++ [_]).map deedD)
            rw [List.map_append]
            have nF : ¬ F t := L5.new nt
            have t7 : hidF F H7 t = some (.tup (deedV (.mk h))) := by
              rw [hidF_eq nF]
              refine e7 _ _ ?_
              rw [upd_ne (fun z => nF (by rw [z]; exact hF _ ⟨_, okd, rfl⟩))]
              exact ht
            exact dqAll_snoc (DqAll.mono (((Fr.of e6).trans ((Fr.at (hF _ ⟨_, okd, rfl⟩)).trans (Fr.of e7))).hid) hD5) (deed_dq t7)
theorem ok_hand (F : FunD K "hand" "Running.hand" (defArgs sHand) (defBody sHand) (defScope sHand) [] [] f fd) (cs : Cls K CS) (nT : NoAttr K CS "tree") (R : RunCls K CR) (G1 : FnOk P w K mg base (L2N.CX P w) 5 f1 d1 ["tree", "u", "v"] (spChkR K C CI CN)) (k1 : Kd K mg "check_road" ["tree", "u", "v"] f1 d1)
    (hm : Meth K CR "_arrive" f2) (G2 : FnOk P w K mg base CX0 6 f2 d2 ["self", "write", "origin", "house"] (spArr K C CS CR)) (hb2 : Binds K d2 ["self", "write", "origin", "house"] []) (eW : Er2 P w K mg base "NothingUnderWay" "u" "v" CW) :
    FnOk P w K mg base (L2N.CX P w) 7 f fd ["self", "u", "v"] (spHand K C CS CR CI CN CW) := by
  obtain ⟨L, T⟩ := eW.ek
  obtain ⟨fI, dI, hI, bI⟩ := eW.ini
  refine F.ok scHand (fun vs H Q E h => ?_) fun cdv A outer s H0 vs Q E hr h => ⟨_,
    pss_cons (ps_expr (pe_call G1 (hr.mono (by decide)) (by rfl) k1.m k1.k k1.b .nil (L2N.passes_call (L2N.takes_of rfl rfl rfl rfl) fun _ _ _ _ h => h) (pa_cons (pe_fld (pe_fld (pv 0) rfl) rfl) (pa_cons (pv 1) (pa_cons (pv 2) pa_nil)))))
    (pss_cons (ps_if (pt_not (pt_truth (pe_dget (hu_of hr) (pe_fld (pv 0) rfl) (pe_tup (pa_cons (pv 1) (pa_cons (pv 2) pa_nil))) (fun _ _ => rfl)) (fun _ => rfl))) (pss_one (L2N.ps_raise rfl (L2N.takes_of rfl rfl rfl rfl) (pmk_newE T hI (hr.mono (by decide)) bI eW.m (pa_cons (pv 1) (pa_cons (pv 2) pa_nil))))) pss_nil)
    (pss_cons (ps_set (i := 3) scHand.nd rfl (.inl rfl) (pe_bm PySem.F.plainAttrs_list PySem.F.slot_list_pop PySem.F.type_list_pop mt_popAt (pe_dget (hu_of hr) (pe_fld (pv 0) rfl) (pe_tup (pa_cons (pv 1) (pa_cons (pv 2) pa_nil))) (fun _ _ => rfl)) (pa_cons pe_int pa_nil)))
    (pss_cons (ps_expr (pe_meth (pv 0) R.cl hm G2 hr hb2 .nil pass0 (pa_cons (pv 3) (pa_cons (pv 1) (pa_cons (pv 2) pa_nil)))))
    (pss_cons (ps_expr (pe_bm PySem.F.plainAttrs_list PySem.F.slot_list_append PySem.F.type_list_append mt_append (pe_fld (pv 0) rfl) (pa_cons (pe_tup (pa_cons pe_str (pa_cons (pv 1) (pa_cons (pv 2) pa_nil)))) pa_nil)))
    (pss_one (ps_ret (pv 3))))))), ?_⟩
  · obtain ⟨F, x, w, ad, s, a, b, d, e, rfl, _⟩ := h
    rfl
  · obtain ⟨F, x, w, ad, s, a, b, d, e, rfl, ⟨ds, hR, hD⟩, hL, W, r, hd, he, hN1, hN2, hY⟩ := h
    obtain ⟨⟨dx, st, ul, bl, dt, kvs, hS⟩, hF, hC⟩ := id hR
    have x1 := hidF_le _ _ hS.hx
    obtain ⟨dy, tr, ht, cc, s1, sT, _⟩ := hS.hst.mono hidF_le
    refine q_chkR (n := w.n) (ps := w.ps) (d := d) (e := e) (ea_cons (ev_fld cs nT (ev_fld R.cl R.nS (ev_var rfl) x1 rfl) s1 rfl) (ea_cons (ev_var rfl) (ea_cons (ev_var rfl) ea_nil))) sT W.joined hd he hN1 hN2 fun u v z1 z2 lu lv => ?_
    obtain ⟨hE1, hE2, hOk⟩ := hY u v z1 z2 lu lv
    have nb := W.nb lu lv
    refine ⟨fun c H1 e1 => ?_, fun c => hE1 fun z => by
      rw [decide_eq_true z, c] at nb
      cases nb⟩
    have hn : Km.nb w u v := of_decide_eq_true (nb.symm.trans c)
    subst z1 z2
    cases hd
    cases he
    have okq : (Slot.qu u v).ok w true := hn
    have cu : H1 (ad (.qu u v)) = some (.lst ((s.qu u v).map natV)) := e1 _ _ (hC.at' _ okq)
    have ixq : ∀ H2, Ex H1 H2 → Ev (tDGet (tFld K (tVar 0) "_handed_on") (tTup (tCons (tVar 1) (tCons (tVar 2) tNil)))) [some (.ref x), some (.int (u : Int)), some (.int (v : Int)), none] H2 (.ref (ad (.qu u v))) := fun H2 e2 =>
      ev_dgT (k := [Sum.inl (u : Int), Sum.inl (v : Int)]) (ev_fld R.cl R.nQ (ev_var rfl) (e2 _ _ (e1 _ _ x1)) rfl) (e2 _ _ (e1 _ _ (hidF_le _ _ hS.hd))) (eu_tup (ea_cons (ev_var rfl) (ea_cons (ev_var rfl) ea_nil)) (by show 2 ≤ 100000; decide)) (hS.hq u v hn)
    refine q_when (et_not (et_truL (ixq H1 (Ex.refl _)) cu)) (fun hb H2 e2 => ?_) fun hb H2 e2 => ?_
    · have z : s.qu u v = [] := by
        cases q : s.qu u v with
        | nil => rfl
        | cons a b => rw [q] at hb; cases hb
      exact ⟨_, rfl, _, rfl, Nat.le_of_ble_eq_true rfl, rfl, fun dx nd => hE2 hn z dx _ ((e1.trans e2).trans (Ex.new nd)) (fresh_back (e1.trans e2) nd) upd_same⟩
    · obtain ⟨k, rs, hk⟩ : ∃ k rs, s.qu u v = k :: rs := by
        cases q : s.qu u v with
        | nil => rw [q] at hb; cases hb
        | cons a b => exact ⟨a, b, rfl⟩
      have e12 := e1.trans e2
      refine q_pop0 (x := natV k) (xs := rs.map natV) (by rw [e2 _ _ cu, hk]; rfl) (ixq H2 e2) fun H3 e3 => ?_
      have e13 := e12.trans e3
      have R3 : RunC K C CS CR F (upd H3 (ad (.qu u v)) (.lst (rs.map natV))) x w ad (fun t => if t = .qu u v then rs.map natV else ctOf w s ds t) := (hR.mono e13).set okq (if_pos rfl) fun t nt => if_neg nt
      have fr3 : Fr (In w true ad) H0 (upd H3 (ad (.qu u v)) (.lst (rs.map natV))) := (Fr.of e13).trans (Fr.at ⟨_, okq, rfl⟩)
      have hD3 : Deeds (hidF F (upd H3 (ad (.qu u v)) (.lst (rs.map natV)))) ds s.dd := DqAll.mono ((Fr.of e13).trans (Fr.at (hF _ ⟨_, okq, rfl⟩))).hid hD
      generalize upd H3 (ad (.qu u v)) (.lst (rs.map natV)) = H4 at R3 fr3 hD3 ⊢
      obtain ⟨⟨dx4, st4, ul4, bl4, dt4, kvs4, hS4⟩, _, _⟩ := id R3
      refine ⟨_, rfl, x, dx4, _, rfl, hidF_le _ _ hS4.hx, rfl, _, rfl, _, rfl, _, rfl, F, x, w, ad, _, k, u, v, rfl, R3, W, lv, fun t ht => ?_, fun H5 fr5 R5 => ?_⟩
      · by_cases c : t = .qu u v
        · subst c
          have := ct_len W r hD _ okq
          have z : (ctOf w s ds (.qu u v)).length = ((s.qu u v).map natV).length := rfl
          rw [hk] at z
          show (if _ then _ else _ : List V).length ≤ 5000
          rw [if_pos rfl]
          rw [List.map_cons, List.length_cons] at z
          omega
        · show (if _ then _ else _ : List V).length ≤ 5000
          rw [if_neg c]
          have := ct_len W r hD t ht
          omega
      · have fr05 := fr3.trans fr5
        have hD5 : Deeds (hidF F H5) ds s.dd := DqAll.mono (fr5.up hF).hid hD3
        obtain ⟨⟨dx5, st5, ul5, bl5, dt5, kvs5, hS5⟩, _, hC5⟩ := id R5
        have L5 : Live F H5 := R5.live hL fr05
        have okd : Slot.dd.ok w true := trivial
        have cd5 : H5 (ad .dd) = some (.lst ds) := hC5.at' _ okd
        dsimp only
        refine q_appU (xs := ds) (ys := deedV (.hd u v)) cd5 (ev_fld R.cl R.nD (ev_var rfl) (hidF_le _ _ hS5.hx) rfl) (eu_tup (ea_cons ev_c (ea_cons (ev_var rfl) (ea_cons (ev_var rfl) ea_nil))) (by show 3 ≤ 100000; decide)) (by
          have := ct_len W r hD5 .dd okd
          have z : (ctOf w s ds .dd).length = ds.length := rfl
          omega) fun t H6 nt e6 ht => ?_
        refine s_ret (ev_var rfl) fun H7 e7 => ?_
        have st := Km.hd_step hk hn
        have I := r.inv W.ok
        have R7 := ((R5.mono e6).set (ct' := fun t' => if t' = .dd then ds ++ [.ref t] else arrC w k u v (fun t => if t = .qu u v then rs.map natV else ctOf w s ds t) t') okd (if_pos rfl) fun t' n => if_neg n).mono e7
        have fr7 := (fr05.trans (Fr.of e6)).trans ((Fr.at (o := .lst (ds ++ [.ref t])) (A := H6) ⟨_, okd, rfl⟩).trans (Fr.of e7))
        refine hOk _ k st H7 fr7 (R7.live hL fr7) ⟨ds ++ [.ref t], R7.congr fun t' ht' => ?_, ?_⟩
        · cases t' with
          | dd => rfl
          | un y =>
            show (Km.left w s y).map natV = (Km.left w _ y).map natV
            rw [Km.left_hd W.ok I hk]
          | bk y =>
            show (if y = v then (s.bk y).map natV ++ [natV k] else (s.bk y).map natV) = ((if y = v then s.bk v ++ [k] else s.bk y)).map natV
            by_cases c : y = v
            · rw [if_pos c, if_pos c, List.map_append, c]; rfl
            · rw [if_neg c, if_neg c]
          | qu a b =>
            have pq : (if Slot.qu a b = .qu u v then rs.map natV else (s.qu a b).map natV) = ((if a = u ∧ b = v then (s.qu u v).tail else s.qu a b)).map natV := by
              by_cases c : a = u ∧ b = v
              · rw [if_pos (by rw [c.1, c.2]), if_pos c, hk]; rfl
              · rw [if_neg (fun z => c (by injection z with z1 z2; exact ⟨z1, z2⟩)), if_neg c]
            show (if a = v ∧ Km.nb w v b ∧ b ≠ u then (if Slot.qu a b = .qu u v then rs.map natV else (s.qu a b).map natV) ++ [natV k] else (if Slot.qu a b = .qu u v then rs.map natV else (s.qu a b).map natV)) = ((if a = v ∧ Km.nb w v b ∧ b ≠ u then (if a = u ∧ b = v then (s.qu u v).tail else s.qu a b) ++ [k] else (if a = u ∧ b = v then (s.qu u v).tail else s.qu a b))).map natV
            rw [pq]
            by_cases c : a = v ∧ Km.nb w v b ∧ b ≠ u
            · rw [if_pos c, if_pos c, List.map_append]; rfl
            · rw [if_neg c, if_neg c]
        · show DqAll _ (ds ++ [.ref t]) ((s.dd ++ [_]).map deedD)
          rw [List.map_append]
          have nF : ¬ F t := L5.new nt
          have t7 : hidF F H7 t = some (.tup (deedV (.hd u v))) := by
            rw [hidF_eq nF]
            refine e7 _ _ ?_
            rw [upd_ne (fun z => nF (by rw [z]; exact hF _ ⟨_, okd, rfl⟩))]
            exact ht
          exact dqAll_snoc (DqAll.mono (((Fr.of e6).trans ((Fr.at (hF _ ⟨_, okd, rfl⟩)).trans (Fr.of e7))).hid) hD5) (deed_dq t7)
end
end Tr

set_option maxHeartbeats 4000000
/-! ### range(n) as a value, walked -/
namespace LK
open PySem PySem.Spec PyProof.Rows L2
section
variable {X : Cx} {tg : Expr}
def rRng1 : List V → Hp → VK → Prop := fun vs H Q => ∃ j, vs = [V.int j] ∧ ∀ p, H p = none → Q (.ref p) (upd H p (.rng 0 j))
theorem cr_range1 : CallR X (.type "range") rRng1 := by
  intro pins s σ H vs us Q I r h
  obtain ⟨j, rfl, q⟩ := h
  obtain ⟨u, rfl, rj⟩ := vals1 r
  obtain ⟨u, rfl⟩ := rj
  refine call_range_1 ⟨.ref s.heap.objs.size, upd H s.heap.objs.size (.rng 0 j), I.laid (t' := s.toks + 1 + 1) (fun b o e => Heap.get?_push_of_some _ e) (Nat.le_refl _) ?_, rfl, q _ (I.hok.fresh (Nat.le_refl _))⟩
  exact ⟨s.toks, u, s.toks + 1, Heap.get?_push_size _ rfl⟩
def iRngV (te : TE) : TI := fun σ H R => te σ H fun x H1 => ∃ (a : Addr) (n : Nat), x = .ref a ∧ H1 a = some (.rng 0 (n : Int)) ∧ n ≤ 100000 ∧ R (Itr 0 n) H1
theorem pi_rng {e : Expr} {te : TE} (he : PE X e te) : PI X tg e (iRngV te) := by
  refine ⟨fun pins s σ H R I h => ?_⟩
  refine thn (he.run pins s σ H _ I h) fun v s1 hh => ?_
  obtain ⟨x, H1, I1, r1, a, n, rfl, ha, hn, q⟩ := hh
  cases r1
  obtain ⟨t, u, k, hg⟩ := I1.hok a _ ha
  refine wpAny_pyIter_range hg (small_one (by decide) (by decide) (by omega) (by omega)) ?_
  refine pi_one I1 _ (turn_range _ 0 n) ?_ q
  have e1 : (0 : Int) + ((0 : Nat) : Int) * 1 = 0 := by simp
  have e2 : ((n : Nat) : Int) - ((0 : Nat) : Int) = Builtin.Range.rangeSize 0 (n : Int) 1 := by rw [rangeSize_one]; split <;> omega
  show IsRangeIter _ _ ((0 : Int) + ((0 : Nat) : Int) * 1) (((n : Nat) : Int) - ((0 : Nat) : Int)) 1
  rw [e1, e2]
  exact Heap.get?_push_size _ rfl
end
end LK

set_option maxHeartbeats 4000000
/-! ### looksleft.running: a running is made -/
namespace Tr
open PySem PySem.Spec PyProof.Rows L2 LK Evl
abbrev nInitR : List Str := ["self", "store", "houses", "house", "_", "road"]
theorem scInitR : FnScope nInitR ["self", "store"] (defScope sInitR) := ⟨rfl, rfl, rfl, by decide +kernel, rfl, by decide +kernel, by decide +kernel⟩
theorem left_begun {w : Km.W} (h : Nat) : Km.left w Km.begun h = madeL w.hs h := by
  unfold Km.left madeL Km.home Km.begun
  refine List.filter_congr fun k _ => ?_
  simp
def refAt (l : List V) (i : Nat) : Addr := match l[i]? with
  | some (.ref a) => a
  | _ => 0
def refD (kvs : List (List Key × V)) (u v : Nat) : Addr := match valV kvs [Sum.inl (u : Int), Sum.inl (v : Int)] with
  | some (.ref a) => a
  | _ => 0
def mkAd (us bs : List V) (kvs : List (List Key × V)) (dl : Addr) : Slot → Addr
  | .un h => refAt us h
  | .bk h => refAt bs h
  | .qu u v => refD kvs u v
  | .dd => dl
/-- lists told in a list -/
structure Cls2 (H : Hp) (n : Nat) (xs : Nat → List V) (p : Addr) (us : List V) (H2 : Hp) : Prop where
  eq : us = (List.range n).map fun h => V.ref (refAt us h)
  nw : ∀ h, h < n → H (refAt us h) = none
  nep : ∀ h, h < n → refAt us h ≠ p
  at' : ∀ h, h < n → H2 (refAt us h) = some (.lst (xs h))
  inj : ∀ h k, h < n → k < n → refAt us h = refAt us k → h = k
theorem cls2_of {H H2 : Hp} {n : Nat} {xs : Nat → List V} {p : Addr} {us : List V} (nd : us.Nodup) (ha : All2 (fun k v => ∃ a, v = .ref a ∧ a ≠ p ∧ H a = none ∧ H2 a = some (.lst (xs k))) (List.range n) us) : Cls2 H n xs p us H2 := by
  have len : us.length = n := by rw [ha.len, List.length_range]
  have get : ∀ h, h < n → ∃ a, us[h]? = some (.ref a) ∧ refAt us h = a ∧ a ≠ p ∧ H a = none ∧ H2 a = some (.lst (xs h)) := fun h hh => by
    obtain ⟨v, hv, a, rfl, z1, z2, z3⟩ := ha.get (List.getElem?_range hh)
    exact ⟨a, hv, by unfold refAt; rw [hv], z1, z2, z3⟩
  refine ⟨?_, fun h hh => ?_, fun h hh => ?_, fun h hh => ?_, fun h k hh hk e => ?_⟩
  · refine List.ext_getElem? fun i => ?_
    by_cases c : i < n
    · obtain ⟨a, e1, e2, _⟩ := get i c
      rw [e1, List.getElem?_map, List.getElem?_range c, Option.map_some, e2]
    · rw [List.getElem?_eq_none (by omega), List.getElem?_eq_none (by rw [List.length_map, List.length_range]; omega)]
  · obtain ⟨a, e1, e2, z1, z2, z3⟩ := get h hh
    rw [e2]; exact z2
  · obtain ⟨a, e1, e2, z1, z2, z3⟩ := get h hh
    rw [e2]; exact z1
  · obtain ⟨a, e1, e2, z1, z2, z3⟩ := get h hh
    rw [e2]; exact z3
  · obtain ⟨a, e1, e2, _⟩ := get h hh
    obtain ⟨b, f1, f2, _⟩ := get k hk
    rw [e2, f2] at e
    subst e
    exact (List.getElem?_inj (by omega) nd).mp (e1.trans f1.symm)
theorem mem_ways {w : Km.W} (W : Wd w) {u v : Nat} (h : Km.nb w u v) : (u, v) ∈ waysL w.n w.ps := by
  have lu := Km.nb_r W.ok h.symm
  have lv := Km.nb_r W.ok h
  refine List.mem_flatMap.mpr ⟨u, List.mem_range.mpr lu, List.mem_map.mpr ⟨v, ?_, rfl⟩⟩
  rw [W.near lu]
  exact List.mem_filter.mpr ⟨List.mem_range.mpr lv, decide_eq_true h⟩
theorem ways_len {w : Km.W} (W : Wd w) : (waysL w.n w.ps).length ≤ 256 := by
  have go : ∀ l : List Nat, ((l.flatMap fun u => (nearL w.n w.ps u).map fun v => (u, v))).length ≤ l.length * 16 := by
    intro l
    induction l with
    | nil => simp
    | cons a l ih =>
      rw [List.flatMap_cons, List.length_append, List.length_map, List.length_cons]
      have : (nearL w.n w.ps a).length ≤ w.n := filter_len
      have := W.ok.most
      omega
  have := go (List.range w.n)
  rw [List.length_range] at this
  have := W.ok.most
  unfold waysL
  omega
theorem Tps.putT {H : Hp} {l : List (Nat × Nat)} {m : List V} {D : Addr} {kvs : List (List Key × V)} {o : HO} (hD : H D = some (.dT kvs)) (h : Tps H l m) : Tps (upd H D o) l m := All2.imp h fun _ _ _ z => by
  obtain ⟨t, z1, z2⟩ := z
  exact ⟨t, z1, by rw [upd_ne (ne_of z2 hD (fun z => nomatch z))]; exact z2⟩
/-- the dict of new lists, as far as it is made -/
def DcI (H1 : Hp) (D : Addr) (ws : List (Nat × Nat)) (i : Nat) (H : Hp) : Prop := Ex H1 H ∧ ∃ kvs : List (List Key × V), H D = some (.dT kvs) ∧ kvs.length ≤ i ∧ (∀ k v, valV kvs k = some v → ∃ a, v = .ref a ∧ a ≠ D ∧ H1 a = none ∧ H a = some (.lst [])) ∧
  (∀ k k' a, valV kvs k = some (.ref a) → valV kvs k' = some (.ref a) → k = k') ∧ ∀ j p, j < i → ws[j]? = some p → ∃ v, valV kvs [Sum.inl (p.1 : Int), Sum.inl (p.2 : Int)] = some v
def spInitR (K : PySem.W.Frag) (C CS CR : Addr) : Sp := fun vs H Q _ => ∃ (F0 : Addr → Prop) (x dx st : Addr) (w : Km.W), vs = [.ref x, .ref st] ∧ H x = some (.ins CR dx []) ∧ Live F0 H ∧ ¬ F0 x ∧ StoreAt K C CS (hidF (fun a => F0 a ∨ a = x) H) st w.n w.ps w.hs w.cs ∧ Wd w ∧
  ∀ H2 ad, But x H H2 → (∀ s : Slot, s.ok w true → H (ad s) = none) → RunAt K C CS CR (fun a => F0 a ∨ In w true ad a) H2 x w ad Km.begun → Q .non H2
section
variable {P : Program} {w : World} {K : PySem.W.Frag} {mg : Str → Option Value} {base : Heap} {C CS CR f f1 f2 : Addr} {fd d1 d2 : FuncData} {tk : Tok}
theorem q_fldP {tz : TS} {D : Ends} {σ : L2.St} {H : Hp} {tv : TE} {g : Str} {i : Nat} {x C dx : Addr} {fs : List (Str × V)} (PP : V → Hp → Prop) (h : ∀ Q : VK, (∀ v H2, Ex H H2 → PP v H2 → Q v H2) → tv σ H Q) (hi : σ[i]? = some (some (.ref x))) (hx : H x = some (.ins C dx fs)) (cl : Cls K C) (na : NoAttr K C g) (hz : fs.length < 1000)
    (k : ∀ v H1, Ex H H1 → PP v H1 → tz D σ (upd H1 x (.ins C dx (putF g v fs)))) : tSeq (sFld K (tVar i) tv g) tz D σ H := h _ fun v H1 e1 p => ⟨_, hi, x, C, dx, fs, rfl, e1 _ _ hx, cl, na, hz, k v H1 e1 p⟩
theorem s_fldP {D : Ends} {σ : L2.St} {H : Hp} {tv : TE} {g : Str} {i : Nat} {x C dx : Addr} {fs : List (Str × V)} (PP : V → Hp → Prop) (h : ∀ Q : VK, (∀ v H2, Ex H H2 → PP v H2 → Q v H2) → tv σ H Q) (hi : σ[i]? = some (some (.ref x))) (hx : H x = some (.ins C dx fs)) (cl : Cls K C) (na : NoAttr K C g) (hz : fs.length < 1000)
    (k : ∀ v H1, Ex H H1 → PP v H1 → D.nx σ (upd H1 x (.ins C dx (putF g v fs)))) : sFld K (tVar i) tv g D σ H := h _ fun v H1 e1 p => ⟨_, hi, x, C, dx, fs, rfl, e1 _ _ hx, cl, na, hz, k v H1 e1 p⟩
theorem q_asgRng {tz : TS} {D : Ends} {σ : L2.St} {H : Hp} {te : TE} {i n : Nat} (h : Ev te σ H (.int (n : Int))) (k : ∀ r H1, H r = none → Ex H H1 → H1 r = some (.rng 0 (n : Int)) → tz D (σ.set i (some (.ref r))) H1) : tSeq (tAsg (tCB rRng1 (tCons te tNil)) (gName i)) tz D σ H :=
  h H (Ex.refl H) _ fun H1 e1 => ⟨(n : Int), rfl, fun r nr => k r _ (fresh_back e1 nr) (e1.trans (Ex.new nr)) upd_same⟩
theorem ok_initR (F : FunD K "__init__" "Running.__init__" (defArgs sInitR) (defBody sInitR) (defScope sInitR) [] [] f fd) (cl : Cls K C) (nh : NoAttr K C "houses") (cs : Cls K CS) (nT : NoAttr K CS "tree") (R : RunCls K CR) (G1 : FnOk P w K mg base CX0 5 f1 d1 ["store", "house"] (spMade K C CS)) (k1 : Kd K mg "made_in" ["store", "house"] f1 d1)
    (G2 : FnOk P w K mg base CX0 6 f2 d2 ["tree"] (spBoth K C)) (k2 : Kd K mg "both_ways" ["tree"] f2 d2) (mr : mg "range" = none) :
    FnOk P w K mg base CX0 7 f fd ["self", "store"] (spInitR K C CS CR) := by
  refine F.ok scInitR (fun vs H Q E h => ?_) fun cdv A outer s H0 vs Q E hr h => ⟨_, PSs.nox (
    pss_cons (ps_set (i := 2) scInitR.nd rfl (.inl rfl) (pe_callTy cr_range1 (by rfl) mr (by decide +kernel) (pa_cons (pe_fld (pe_fld (pv 1) rfl) rfl) pa_nil)))
    (pss_cons (ps_fld (pv 0) (pv 1) rfl)
    (pss_cons (ps_fld (pv 0) (pe_lc (own := [("house", 3)]) (g := gName 3) (tt := tYes) (te := tCall (spMade K C CS) [] E0 (tCons (tVar 1) (tCons (tVar 3) tNil))) rfl scInitR.nd (pi_rng (pv 2)) (blkOk_by (N := nInitR) (sc := defScope sInitR) (by decide +kernel)) (fun _ _ _ _ _ => pg_name (i := 3) scInitR.nd rfl (.inl rfl)) (fun _ _ _ _ _ => pts_nil)
      (fun _ _ _ _ _ => pe_call G1 (hr.mono (by decide)) (by rfl) k1.m k1.k k1.b .nil pass0 (pa_cons (pv 1) (pa_cons (pv 3) pa_nil)))) rfl)
    (pss_cons (ps_fld (pv 0) (pe_lc (own := [("_", 4)]) (g := gName 4) (tt := tYes) rfl scInitR.nd (pi_rng (pv 2)) (blkOk_by (N := nInitR) (sc := defScope sInitR) (by decide +kernel)) (fun _ _ _ _ _ => pg_name (i := 4) scInitR.nd rfl (.inl rfl)) (fun _ _ _ _ _ => pts_nil)
      (fun _ _ _ _ _ => pe_lst pa_nil)) rfl)
    (pss_cons (ps_fld (pv 0) (pe_dcT (own := [("road", 5)]) (g := gName 5) (hu_of hr) rfl scInitR.nd (pi_list (pe_call G2 hr (by rfl) k2.m k2.k k2.b .nil pass0 (pa_cons (pe_fld (pv 1) rfl) pa_nil))) (blkOk_by (N := nInitR) (sc := defScope sInitR) (by decide +kernel)) (fun _ _ _ _ _ => pg_name (i := 5) scInitR.nd rfl (.inl rfl))
      (fun _ _ _ _ _ => pv 5) (fun _ _ _ _ _ => pe_lst pa_nil)) rfl)
    (pss_one (ps_fld (pv 0) (pe_lst pa_nil) rfl))))))), ?_⟩
  · obtain ⟨F0, x, dx, st, w, rfl, _⟩ := h
    rfl
  · obtain ⟨F0, x, dx, st, w, rfl, hx, hL, nFx, hSt, W, hQ⟩ := h
    have hn16 := W.ok.most
    have stx : ∀ {a o}, hidF (fun a => F0 a ∨ a = x) H0 a = some o → a ≠ x ∧ ¬ F0 a ∧ H0 a = some o := fun {a o} h => by
      obtain ⟨n, e⟩ := hidF_some h
      exact ⟨fun z => n (.inr z), fun z => n (.inl z), e⟩
    have keepS : ∀ {H}, But x H0 H → Ex (hidF (fun a => F0 a ∨ a = x) H0) H := fun {H} b a o h => by
      obtain ⟨n, _, e⟩ := stx h
      exact b a o n e
    obtain ⟨dy, tr, ht, cc, s1, sT, _⟩ := hSt.mono (keepS But.refl)
    obtain ⟨dx1, rt, l, us, ts, wl, t1, _⟩ := id sT
    refine q_asgRng (n := w.n) (ev_fld cl nh (ev_fld cs nT (ev_var rfl) s1 rfl) t1 rfl) fun r H1 nr e1 hr1 => ?_
    have b1 : But x H0 H1 := But.of e1
    refine q_fldP (i := 0) (fun v _ => v = .ref st) (fun Q q => ⟨_, rfl, q _ H1 (Ex.refl _) rfl⟩) rfl (e1 _ _ hx) R.cl R.nS (by show 0 < 1000; decide) fun v H2 e2 hv => ?_
    subst hv
    have b2 := (b1.trans (But.of e2)).trans (But.at (x := x) (A := H2) (o := .ins CR dx (putF "store" (.ref st) [])))
    have x2 : upd H2 x (.ins CR dx (putF "store" (.ref st) [])) x = some (.ins CR dx [("store", .ref st)]) := upd_same
    have r2 : upd H2 x (.ins CR dx (putF "store" (.ref st) [])) r = some (.rng 0 (w.n : Int)) := by
      rw [upd_ne (fun z => by rw [z, hx] at nr; cases nr)]
      exact e2 _ _ hr1
    generalize upd H2 x (.ins CR dx (putF "store" (.ref st) [])) = H3 at b2 x2 r2 ⊢
    clear e1 e2 hr1 b1
    have hS3 := hSt.mono (keepS b2)
    -- what is left to make
    refine q_fldP (i := 0) (fun v H => ∃ ul us, v = .ref ul ∧ H3 ul = none ∧ H ul = some (.lst us) ∧ Cls2 H3 w.n (fun h => (madeL w.hs h).map natV) ul us H) (fun Q q => ⟨_, rfl, r, w.n, rfl, r2, by omega, lcN walk_R (fun h => (madeL w.hs h).map natV) (by omega) (fun _ _ => trivial) (fun i y H H' hi e yy => by
      obtain ⟨rfl, rfl⟩ := yy
      exact ⟨Ex.refl _, fun k hk => hk _ _ (Ex.refl _) rfl (el_call (ea_cons (ev_var rfl) (ea_cons (ev_var rfl) ea_nil)) fun H5 e5 Q q => ⟨st, w.n, w.ps, w.hs, w.cs, i, rfl, hS3.mono (e.trans e5), hi, W.ok.few, q⟩)⟩) fun p us H4 np e4 hp nd ha => q _ H4 e4 ⟨p, us, rfl, np, hp, cls2_of nd ha⟩⟩) rfl x2 R.cl R.nU (by show 1 < 1000; decide) fun v H4 e4 hv => ?_
    obtain ⟨ul, us, rfl, nul, hul, cu⟩ := hv
    have p2 : ∀ a : Addr, putF "_unmade" (.ref a) [(("store" : Str), V.ref st)] = [(("store" : Str), V.ref st), (("_unmade" : Str), .ref a)] := fun a => by
      unfold putF
      rw [if_neg (by decide)]
      rfl
    rw [p2]
    have x3ne : ∀ {a : Addr}, H3 a = none → a ≠ x := fun {a} n z => by rw [z, x2] at n; cases n
    have b4 : But x H3 (upd H4 x (.ins CR dx [("store", .ref st), ("_unmade", .ref ul)])) := (But.of e4).trans But.at
    have x4 : upd H4 x (.ins CR dx [("store", .ref st), ("_unmade", .ref ul)]) x = some (.ins CR dx [("store", .ref st), ("_unmade", .ref ul)]) := upd_same
    have ul4 : upd H4 x (.ins CR dx [("store", .ref st), ("_unmade", .ref ul)]) ul = some (.lst us) := by rw [upd_ne (x3ne nul)]; exact hul
    have un4 : ∀ h, h < w.n → upd H4 x (.ins CR dx [("store", .ref st), ("_unmade", .ref ul)]) (refAt us h) = some (.lst ((madeL w.hs h).map natV)) := fun h hh => by rw [upd_ne (x3ne (cu.nw h hh))]; exact cu.at' h hh
    generalize upd H4 x (.ins CR dx [("store", .ref st), ("_unmade", .ref ul)]) = H5 at b4 x4 ul4 un4 ⊢
    clear e4 hul
    have b05 := b2.trans b4
    -- the books
    refine q_fldP (i := 0) (fun v H => ∃ bl bs, v = .ref bl ∧ H5 bl = none ∧ H bl = some (.lst bs) ∧ Cls2 H5 w.n (fun h => []) bl bs H) (fun Q q => ⟨_, rfl, r, w.n, rfl, b4 _ _ (fun z => by rw [z, x2] at r2; cases r2) r2, by omega, lcN walk_R (fun h => []) (by omega) (fun _ _ => trivial) (fun i y H H' hi e yy => by
      obtain ⟨rfl, rfl⟩ := yy
      exact ⟨Ex.refl _, fun k hk => hk _ _ (Ex.refl _) rfl (el_lst ea_nil (Nat.zero_le _))⟩) fun p us H4 np e4 hp nd ha => q _ H4 e4 ⟨p, us, rfl, np, hp, cls2_of nd ha⟩⟩) rfl x4 R.cl R.nB (by show 2 < 1000; decide) fun v H6 e6 hv => ?_
    obtain ⟨bl, bs, rfl, nbl, hbl, cb⟩ := hv
    have p3 : ∀ a : Addr, putF "_books" (.ref a) [(("store" : Str), V.ref st), (("_unmade" : Str), .ref ul)] = [(("store" : Str), V.ref st), (("_unmade" : Str), .ref ul), (("_books" : Str), .ref a)] := fun a => by
      unfold putF
      rw [if_neg (by decide)]
      unfold putF
      rw [if_neg (by decide)]
      rfl
    rw [p3]
    have x5ne : ∀ {a : Addr}, H5 a = none → a ≠ x := fun {a} n z => by rw [z, x4] at n; cases n
    have b6 : But x H5 (upd H6 x (.ins CR dx [("store", .ref st), ("_unmade", .ref ul), ("_books", .ref bl)])) := (But.of e6).trans But.at
    have x6 : upd H6 x (.ins CR dx [("store", .ref st), ("_unmade", .ref ul), ("_books", .ref bl)]) x = some (.ins CR dx [("store", .ref st), ("_unmade", .ref ul), ("_books", .ref bl)]) := upd_same
    have bl6 : upd H6 x (.ins CR dx [("store", .ref st), ("_unmade", .ref ul), ("_books", .ref bl)]) bl = some (.lst bs) := by rw [upd_ne (x5ne nbl)]; exact hbl
    have bn6 : ∀ h, h < w.n → upd H6 x (.ins CR dx [("store", .ref st), ("_unmade", .ref ul), ("_books", .ref bl)]) (refAt bs h) = some (.lst []) := fun h hh => by rw [upd_ne (x5ne (cb.nw h hh))]; exact cb.at' h hh
    generalize upd H6 x (.ins CR dx [("store", .ref st), ("_unmade", .ref ul), ("_books", .ref bl)]) = H7 at b6 x6 bl6 bn6 ⊢
    clear e6 hbl
    have b07 := b05.trans b6
    have hS7 := hSt.mono (keepS b07)
    obtain ⟨dy7, tr7, ht7, cc7, s7, sT7, _⟩ := id hS7
    -- what is under way
    refine q_fldP (i := 0) (fun v H => ∃ dt kvs, v = .ref dt ∧ H7 dt = none ∧ H dt = some (.dT kvs) ∧ (∀ k v, valV kvs k = some v → ∃ a, v = .ref a ∧ a ≠ dt ∧ H7 a = none ∧ H a = some (.lst [])) ∧ (∀ k k' a, valV kvs k = some (.ref a) → valV kvs k' = some (.ref a) → k = k') ∧ ∀ u v, Km.nb w u v → ∃ v', valV kvs [Sum.inl (u : Int), Sum.inl (v : Int)] = some v')
      (fun Q q => ⟨_, rfl, st, CS, dy7, _, _, rfl, s7, cs, nT, rfl, tr7, w.n, w.ps, rfl, sT7, W.joined, by omega, fun p us H8 np e8 hp htp => ⟨p, rfl, ⟨_, sq_of hp⟩, fun D nD => ?_⟩⟩) rfl x6 R.cl R.nQ (by show 3 < 1000; decide) fun v H8 e8 hv => ?_
    · have lus : us.length = (waysL w.n w.ps).length := htp.len
      have pD : p ≠ D := ne_of_none hp nD
      refine outer_it (walk_list (K := K) (a := p) (xs := us)) (fun i H => H p = some (.lst us) ∧ Tps H (waysL w.n w.ps) us ∧ DcI H8 D (waysL w.n w.ps) i H) ⟨by rw [upd_ne pD]; exact hp, htp.mono (Ex.new nD), Ex.new nD, [], upd_same, Nat.le_refl _, fun k v z => (by cases z), fun k k' a z => (by cases z), fun j p z => (by omega)⟩ (fun i H _ q => sq_of q.1) (fun i y H H9 hi q yy => ?_) fun H q' => ?_
      · obtain ⟨rfl, hy⟩ := yy
        obtain ⟨qp, qt, qe, kvs, qk, ql, qv, qj, qa⟩ := q
        obtain ⟨pr, hpr, t, rfl, htt⟩ := qt.of hy
        refine ⟨rfl, _, rfl, Nat.zero_le _, fun a na => ?_⟩
        have ea : Ex H9 (upd H9 a (.lst [])) := Ex.new na
        have aD : a ≠ D := (ne_of_none qk na).symm
        have ap : p ≠ a := ne_of_none qp na
        have lw := ways_len W
        refine ⟨kvs, [Sum.inl (pr.1 : Int), Sum.inl (pr.2 : Int)], t, rfl, ea _ _ htt, ea _ _ qk, sz_lt (by omega), by rw [upd_ne pD]; exact ea _ _ qp, Tps.putT (ea _ _ qk) (qt.mono ea), Ex.mut (qe.trans ea) nD, _, upd_same, Nat.le_trans (length_putK _ _ _) (by omega), fun k v z => ?_, fun k k' b z z' => ?_, fun j p' hj hp' => ?_⟩
        · rw [valV_put] at z
          by_cases c : k = [Sum.inl (pr.1 : Int), Sum.inl (pr.2 : Int)]
          · rw [if_pos c] at z
            cases z
            exact ⟨a, rfl, aD, fresh_back qe na, by rw [upd_ne aD]; exact upd_same⟩
          · rw [if_neg c] at z
            obtain ⟨b, rfl, h1, h2, h3⟩ := qv k v z
            exact ⟨b, rfl, h1, h2, by rw [upd_ne h1]; exact ea _ _ h3⟩
        · rw [valV_put] at z z'
          have old : ∀ k b, valV kvs k = some (.ref b) → b ≠ a := fun k b z => by
            obtain ⟨b', e, h1, h2, h3⟩ := qv k _ z
            cases e
            exact ne_of_none h3 na
          by_cases c : k = [Sum.inl (pr.1 : Int), Sum.inl (pr.2 : Int)]
          · by_cases c' : k' = [Sum.inl (pr.1 : Int), Sum.inl (pr.2 : Int)]
            · rw [c, c']
            · rw [if_pos c] at z
              rw [if_neg c'] at z'
              cases z
              exact absurd rfl (old _ _ z')
          · rw [if_neg c] at z
            by_cases c' : k' = [Sum.inl (pr.1 : Int), Sum.inl (pr.2 : Int)]
            · rw [if_pos c'] at z'
              cases z'
              exact absurd rfl (old _ _ z)
            · rw [if_neg c'] at z'
              exact qj k k' b z z'
        · rw [valV_put]
          by_cases c : [Sum.inl (p'.1 : Int), Sum.inl (p'.2 : Int)] = ([Sum.inl (pr.1 : Int), Sum.inl (pr.2 : Int)] : List Key)
          · exact ⟨_, if_pos c⟩
          · rw [if_neg c]
            rcases Nat.lt_or_ge j i with g | g
            · exact qa j p' g hp'
            · have : j = i := by omega
              subst this
              rw [hpr] at hp'
              cases hp'
              exact absurd rfl c
      · obtain ⟨qp, qt, qe, kvs, qk, ql, qv, qj, qa⟩ := q'
        refine q _ H (e8.trans qe) ⟨D, kvs, rfl, fresh_back e8 nD, qk, fun k v z => ?_, qj, fun u v huv => ?_⟩
        · obtain ⟨b, e, h1, h2, h3⟩ := qv k v z
          exact ⟨b, e, h1, fresh_back e8 h2, h3⟩
        · obtain ⟨j, hj⟩ := List.mem_iff_getElem?.mp (mem_ways W huv)
          have : j < us.length := by
            rw [lus]
            exact (List.getElem?_eq_some_iff.mp hj).1
          exact qa j _ this hj
    obtain ⟨dt, kvs, rfl, ndt, hdt, qv, qj, qa⟩ := hv
    have p4 : ∀ a : Addr, putF "_handed_on" (.ref a) [(("store" : Str), V.ref st), (("_unmade" : Str), .ref ul), (("_books" : Str), .ref bl)] = [(("store" : Str), V.ref st), (("_unmade" : Str), .ref ul), (("_books" : Str), .ref bl), (("_handed_on" : Str), .ref a)] := fun a => by
      unfold putF
      rw [if_neg (by decide)]
      unfold putF
      rw [if_neg (by decide)]
      unfold putF
      rw [if_neg (by decide)]
      rfl
    rw [p4]
    have x7ne : ∀ {a : Addr}, H7 a = none → a ≠ x := fun {a} n z => by rw [z, x6] at n; cases n
    have b8 : But x H7 (upd H8 x (.ins CR dx [("store", .ref st), ("_unmade", .ref ul), ("_books", .ref bl), ("_handed_on", .ref dt)])) := (But.of e8).trans But.at
    have x8 : upd H8 x (.ins CR dx [("store", .ref st), ("_unmade", .ref ul), ("_books", .ref bl), ("_handed_on", .ref dt)]) x = some (.ins CR dx [("store", .ref st), ("_unmade", .ref ul), ("_books", .ref bl), ("_handed_on", .ref dt)]) := upd_same
    have dt8 : upd H8 x (.ins CR dx [("store", .ref st), ("_unmade", .ref ul), ("_books", .ref bl), ("_handed_on", .ref dt)]) dt = some (.dT kvs) := by rw [upd_ne (x7ne ndt)]; exact hdt
    have qn8 : ∀ u v, Km.nb w u v → ∃ a, valV kvs [Sum.inl (u : Int), Sum.inl (v : Int)] = some (.ref a) ∧ refD kvs u v = a ∧ a ≠ dt ∧ H7 a = none ∧ upd H8 x (.ins CR dx [("store", .ref st), ("_unmade", .ref ul), ("_books", .ref bl), ("_handed_on", .ref dt)]) a = some (.lst []) := fun u v huv => by
      obtain ⟨v', hv'⟩ := qa u v huv
      obtain ⟨a, rfl, h1, h2, h3⟩ := qv _ _ hv'
      exact ⟨a, hv', by unfold refD; rw [hv'], h1, h2, by rw [upd_ne (x7ne h2)]; exact h3⟩
    generalize upd H8 x (.ins CR dx [("store", .ref st), ("_unmade", .ref ul), ("_books", .ref bl), ("_handed_on", .ref dt)]) = H9 at b8 x8 dt8 qn8 ⊢
    clear e8 hdt
    have b09 := b07.trans b8
    -- the deeds
    refine s_fldP (i := 0) (fun v H => ∃ dl, v = .ref dl ∧ H9 dl = none ∧ H dl = some (.lst [])) (fun Q q => ⟨Nat.zero_le _, fun dl ndl => q _ _ (Ex.new ndl) ⟨dl, rfl, ndl, upd_same⟩⟩) rfl x8 R.cl R.nD (by show 4 < 1000; decide) fun v H10 e10 hv => ?_
    obtain ⟨dl, rfl, ndl, hdl⟩ := hv
    have p5 : ∀ a : Addr, putF "_deeds" (.ref a) [(("store" : Str), V.ref st), (("_unmade" : Str), .ref ul), (("_books" : Str), .ref bl), (("_handed_on" : Str), .ref dt)] = [(("store" : Str), V.ref st), (("_unmade" : Str), .ref ul), (("_books" : Str), .ref bl), (("_handed_on" : Str), .ref dt), (("_deeds" : Str), .ref a)] := fun a => by
      unfold putF
      rw [if_neg (by decide)]
      unfold putF
      rw [if_neg (by decide)]
      unfold putF
      rw [if_neg (by decide)]
      unfold putF
      rw [if_neg (by decide)]
      rfl
    rw [p5]
    have x9ne : ∀ {a : Addr}, H9 a = none → a ≠ x := fun {a} n z => by rw [z, x8] at n; cases n
    have b10 : But x H9 (upd H10 x (.ins CR dx [("store", .ref st), ("_unmade", .ref ul), ("_books", .ref bl), ("_handed_on", .ref dt), ("_deeds", .ref dl)])) := (But.of e10).trans But.at
    have x10 : upd H10 x (.ins CR dx [("store", .ref st), ("_unmade", .ref ul), ("_books", .ref bl), ("_handed_on", .ref dt), ("_deeds", .ref dl)]) x = some (.ins CR dx [("store", .ref st), ("_unmade", .ref ul), ("_books", .ref bl), ("_handed_on", .ref dt), ("_deeds", .ref dl)]) := upd_same
    have dl10 : upd H10 x (.ins CR dx [("store", .ref st), ("_unmade", .ref ul), ("_books", .ref bl), ("_handed_on", .ref dt), ("_deeds", .ref dl)]) dl = some (.lst []) := by rw [upd_ne (x9ne ndl)]; exact hdl
    generalize upd H10 x (.ins CR dx [("store", .ref st), ("_unmade", .ref ul), ("_books", .ref bl), ("_handed_on", .ref dt), ("_deeds", .ref dl)]) = H11 at b10 x10 dl10 ⊢
    clear e10 hdl
    -- freshness, from the beginning on
    have fb : ∀ {A B : Hp} {a : Addr}, But x A B → a ≠ x → B a = none → A a = none := fun {A B a} b n h => by
      cases z : A a with
      | none => rfl
      | some o => rw [b a o n z] at h; cases h
    have un := fun h hh => (⟨fb b2 (x3ne (cu.nw h hh)) (cu.nw h hh), x3ne (cu.nw h hh)⟩ : H0 (refAt us h) = none ∧ refAt us h ≠ x)
    have bn := fun h hh => (⟨fb b05 (x5ne (cb.nw h hh)) (cb.nw h hh), x5ne (cb.nw h hh)⟩ : H0 (refAt bs h) = none ∧ refAt bs h ≠ x)
    have dn : H0 dl = none ∧ dl ≠ x := ⟨fb b09 (x9ne ndl) ndl, x9ne ndl⟩
    have qn : ∀ u v, Km.nb w u v → H0 (refD kvs u v) = none ∧ refD kvs u v ≠ x := fun u v huv => by
      obtain ⟨a, h1, h2, h3, h4, h5⟩ := qn8 u v huv
      rw [h2]
      exact ⟨fb b07 (x7ne h4) h4, x7ne h4⟩
    have okz : ∀ s : Slot, s.ok w true → H0 (mkAd us bs kvs dl s) = none := fun s hs => by
      cases s with
      | un h => exact (un h hs.2).1
      | bk h => exact (bn h hs).1
      | qu u v => exact (qn u v hs).1
      | dd => exact dn.1
    have okx : ∀ s : Slot, s.ok w true → mkAd us bs kvs dl s ≠ x := fun s hs => by
      cases s with
      | un h => exact (un h hs.2).2
      | bk h => exact (bn h hs).2
      | qu u v => exact (qn u v hs).2
      | dd => exact dn.2
    have b5 : But x H5 H9 := b6.trans b8
    have b511 : But x H5 H11 := b5.trans b10
    have b711 : But x H7 H11 := b8.trans b10
    have unA : ∀ h, h < w.n → H11 (refAt us h) = some (.lst ((madeL w.hs h).map natV)) := fun h hh => b511 _ _ (un h hh).2 (un4 h hh)
    have bnA : ∀ h, h < w.n → H11 (refAt bs h) = some (.lst []) := fun h hh => b711 _ _ (bn h hh).2 (bn6 h hh)
    have qnA : ∀ u v, Km.nb w u v → H11 (refD kvs u v) = some (.lst []) := fun u v huv => by
      obtain ⟨a, h1, h2, h3, h4, h5⟩ := qn8 u v huv
      rw [h2]
      exact b10 _ _ (x7ne h4) h5
    have qz : ∀ u v, Km.nb w u v → H7 (refD kvs u v) = none ∧ refD kvs u v ≠ dt ∧ ∃ o, H9 (refD kvs u v) = some o := fun u v huv => by
      obtain ⟨a, h1, h2, h3, h4, h5⟩ := qn8 u v huv
      rw [h2]
      exact ⟨h4, h3, _, h5⟩
    -- no two places are one
    have unb : ∀ h k, h < w.n → k < w.n → refAt us h ≠ refAt bs k := fun h k hh hk => ne_of_none (un4 h hh) (cb.nw k hk)
    have unq : ∀ h u v, h < w.n → Km.nb w u v → refAt us h ≠ refD kvs u v := fun h u v hh huv => ne_of_none (b6 _ _ (un h hh).2 (un4 h hh)) (qz u v huv).1
    have und : ∀ h, h < w.n → refAt us h ≠ dl := fun h hh => ne_of_none (b5 _ _ (un h hh).2 (un4 h hh)) ndl
    have bnq : ∀ h u v, h < w.n → Km.nb w u v → refAt bs h ≠ refD kvs u v := fun h u v hh huv => ne_of_none (bn6 h hh) (qz u v huv).1
    have bnd : ∀ h, h < w.n → refAt bs h ≠ dl := fun h hh => ne_of_none (b8 _ _ (bn h hh).2 (bn6 h hh)) ndl
    have qnd : ∀ u v, Km.nb w u v → refD kvs u v ≠ dl := fun u v huv => by
      obtain ⟨o, z⟩ := (qz u v huv).2.2
      exact ne_of_none z ndl
    have inj : ∀ s t : Slot, s.ok w true → t.ok w true → mkAd us bs kvs dl s = mkAd us bs kvs dl t → s = t := fun s t hs ht e => by
      cases s with
      | un h =>
        cases t with
        | un k => rw [cu.inj h k hs.2 ht.2 e]
        | bk k => exact absurd e (unb h k hs.2 ht)
        | qu u v => exact absurd e (unq h u v hs.2 ht)
        | dd => exact absurd e (und h hs.2)
      | bk h =>
        cases t with
        | un k => exact absurd e.symm (unb k h ht.2 hs)
        | bk k => rw [cb.inj h k hs ht e]
        | qu u v => exact absurd e (bnq h u v hs ht)
        | dd => exact absurd e (bnd h hs)
      | qu u v =>
        cases t with
        | un k => exact absurd e.symm (unq k u v ht.2 hs)
        | bk k => exact absurd e.symm (bnq k u v ht hs)
        | qu u' v' =>
          obtain ⟨a, h1, h2, _⟩ := qn8 u v hs
          obtain ⟨b, f1, f2, _⟩ := qn8 u' v' ht
          have e : refD kvs u v = refD kvs u' v' := e
          rw [h2, f2] at e
          subst e
          have z := qj _ _ _ h1 f1
          injection z with z1 z2
          injection z2 with z2 z3
          have z1 := Sum.inl.inj z1
          have z2 := Sum.inl.inj z2
          rw [show u = u' by omega, show v = v' by omega]
        | dd => exact absurd e (qnd u v hs)
      | dd =>
        cases t with
        | un k => exact absurd e.symm (und k ht.2)
        | bk k => exact absurd e.symm (bnd k ht)
        | qu u v => exact absurd e.symm (qnd u v ht)
        | dd => rfl
    have ulx : ul ≠ x := x3ne nul
    have blx : bl ≠ x := x5ne nbl
    have dtx : dt ≠ x := x7ne ndt
    have ul0 : H0 ul = none := fb b2 ulx nul
    have bl0 : H0 bl = none := fb b05 blx nbl
    have dt0 : H0 dt = none := fb b07 dtx ndt
    have notF : ∀ {a : Addr}, (H0 a = none ∨ a = x) → (∀ s : Slot, s.ok w true → mkAd us bs kvs dl s ≠ a) → ¬ (F0 a ∨ In w true (mkAd us bs kvs dl) a) := fun {a} h n z => by
      rcases z with z | ⟨s, hs, e⟩
      · rcases h with h | h
        · exact hL.new h z
        · exact nFx (h ▸ z)
      · exact n s hs e
    have nx : ¬ (F0 x ∨ In w true (mkAd us bs kvs dl) x) := notF (.inr rfl) okx
    have nul' : ¬ (F0 ul ∨ In w true (mkAd us bs kvs dl) ul) := notF (.inl ul0) fun s hs => by
      cases s with
      | un h => exact cu.nep h hs.2
      | bk h => exact (ne_of_none ul4 (cb.nw h hs)).symm
      | qu u v => exact (ne_of_none (b6 _ _ ulx ul4) (qz u v hs).1).symm
      | dd => exact (ne_of_none (b5 _ _ ulx ul4) ndl).symm
    have nbl' : ¬ (F0 bl ∨ In w true (mkAd us bs kvs dl) bl) := notF (.inl bl0) fun s hs => by
      cases s with
      | un h => exact ne_of_none (un4 h hs.2) nbl
      | bk h => exact cb.nep h hs
      | qu u v => exact (ne_of_none bl6 (qz u v hs).1).symm
      | dd => exact (ne_of_none (b8 _ _ blx bl6) ndl).symm
    have ndt' : ¬ (F0 dt ∨ In w true (mkAd us bs kvs dl) dt) := notF (.inl dt0) fun s hs => by
      cases s with
      | un h => exact ne_of_none (b6 _ _ (un h hs.2).2 (un4 h hs.2)) ndt
      | bk h => exact ne_of_none (bn6 h hs) ndt
      | qu u v => exact (qz u v hs).2.1
      | dd => exact (ne_of_none dt8 ndl).symm
    refine hQ H11 (mkAd us bs kvs dl) (b09.trans b10) okz ⟨[], ⟨⟨dx, st, ul, bl, dt, kvs, ⟨?_, ?_, ?_, ?_, ?_, ?_⟩⟩, fun a h => .inr h, ⟨inj, fun s hs => ?_⟩⟩, .nil⟩
    · rw [hidF_eq nx]
      exact x10
    · refine hSt.mono fun a o e => ?_
      obtain ⟨n1, n2, e⟩ := stx e
      rw [hidF_eq (fun z => by
        rcases z with z | ⟨s, hs, z⟩
        · exact n2 z
        · have := okz s hs
          rw [z, e] at this
          cases this)]
      exact (b09.trans b10) _ _ n1 e
    · rw [hidF_eq nul', b511 _ _ ulx ul4]
      exact congrArg (fun l => some (HO.lst l)) cu.eq
    · rw [hidF_eq nbl', b711 _ _ blx bl6]
      exact congrArg (fun l => some (HO.lst l)) cb.eq
    · rw [hidF_eq ndt']
      exact b10 _ _ dtx dt8
    · intro u v huv
      obtain ⟨a, h1, h2, _⟩ := qn8 u v huv
      rw [h1]
      show _ = some (V.ref (refD kvs u v))
      rw [h2]
    · cases s with
      | un h =>
        show H11 (refAt us h) = some (.lst ((Km.left w Km.begun h).map natV))
        rw [left_begun]
        exact unA h hs.2
      | bk h => exact bnA h hs
      | qu u v => exact qnA u v hs
      | dd => exact dl10
end
end Tr

set_option maxHeartbeats 4000000
/-! ### looksleft.running: is_script of right scripts; a right script is run -/
namespace Km
def Dd.ok (w : W) : Dd → Prop
  | .mk h => h < w.n
  | .hd u v => nb w u v
/-- the state behind deeds -/
inductive Path (w : W) : S → List Dd → S → Prop
  | nil {s : S} : Path w s [] s
  | cons {s t u : S} {d : Dd} {k : Nat} {l : List Dd} : step w s d = some (t, k) → Path w t l u → Path w s (d :: l) u
theorem step_ok {w : W} {s t : S} {d : Dd} {k : Nat} (e : step w s d = some (t, k)) : d.ok w := by
  cases d with
  | mk h =>
    obtain ⟨_, _, q, _⟩ := step_mk e
    exact q
  | hd u v =>
    obtain ⟨_, _, q, _⟩ := step_hd e
    exact q
theorem Path.ok {w : W} {s t : S} {l : List Dd} (h : Path w s l t) : ∀ d ∈ l, d.ok w := by
  induction h with
  | nil => intro d hd; cases hd
  | cons e _ ih =>
    intro d hd
    rcases List.mem_cons.mp hd with rfl | hd
    · exact step_ok e
    · exact ih d hd
theorem Path.snoc {w : W} {s t u : S} {l : List Dd} {d : Dd} {k : Nat} (h : Path w s l t) (e : step w t d = some (u, k)) : Path w s (l ++ [d]) u := by
  induction h with
  | nil => exact .cons e .nil
  | cons e' _ ih => exact .cons e' (ih e)
theorem Path.run {w : W} {s t : S} {l : List Dd} (h : Path w s l t) : Run w s → Run w t := by
  induction h with
  | nil => exact id
  | cons e _ ih => exact fun r => ih (r.on e)
theorem step_dd {w : W} {s t : S} {d : Dd} {k : Nat} (e : step w s d = some (t, k)) : t.dd = s.dd ++ [d] := by
  cases d with
  | mk h =>
    obtain ⟨_, _, _, rfl⟩ := step_mk e
    rfl
  | hd u v =>
    obtain ⟨_, _, _, rfl⟩ := step_hd e
    rfl
theorem Run.path {w : W} {s : S} (h : Run w s) : Path w begun s.dd s := by
  induction h with
  | nil => exact .nil
  | on r e ih =>
    rw [step_dd e]
    exact ih.snoc e
theorem Path.at {w : W} {s u : S} : ∀ {l : List Dd} {i : Nat} {d : Dd}, Path w s l u → l[i]? = some d → ∃ t t' k, Path w s (l.take i) t ∧ step w t d = some (t', k) ∧ Path w s (l.take (i + 1)) t'
  | _, 0, _, .cons e p, z => by
    cases z
    exact ⟨_, _, _, .nil, e, .cons e .nil⟩
  | _, i + 1, _, .cons e p, z => by
    obtain ⟨t, t', k, p1, e1, p2⟩ := p.at z
    exact ⟨t, t', k, .cons e p1, e1, .cons e p2⟩
theorem Path.fn {w : W} {s t u : S} {l : List Dd} (h : Path w s l t) (k : Path w s l u) : t = u := by
  induction h generalizing u with
  | nil => cases k; rfl
  | cons e _ ih =>
    cases k with
    | cons e' p =>
      rw [e] at e'
      cases e'
      exact ih p
end Km
namespace Tr
open PySem PySem.Spec PyProof.Rows L2 LK Evl
abbrev sIsScr : Stmt := top 41
abbrev sIsDeed : Stmt := top 42
abbrev sRunF : Stmt := top 43
abbrev sDo : Stmt := top 44
theorem scIsScr : FnScope ["store", "value", "deed"] ["store", "value"] (defScope sIsScr) := ⟨rfl, rfl, rfl, by decide +kernel, rfl, by decide +kernel, by decide +kernel⟩
theorem scIsDeed : FnScope ["tree", "value"] ["tree", "value"] (defScope sIsDeed) := ⟨rfl, rfl, rfl, by decide +kernel, rfl, by decide +kernel, by decide +kernel⟩
theorem scRunF : FnScope ["store", "script", "running", "at", "deed"] ["store", "script"] (defScope sRunF) := ⟨rfl, rfl, rfl, by decide +kernel, rfl, by decide +kernel, by decide +kernel⟩
theorem scDo : FnScope ["running", "deed"] ["running", "deed"] (defScope sDo) := ⟨rfl, rfl, rfl, by decide +kernel, rfl, by decide +kernel, by decide +kernel⟩
theorem passF {P : Program} {w : World} {X : Cx} (hp : X.prog = P) (hw : X.w = w) : Passes (L2N.CX P w) X E0 := fun _ _ _ _ _ _ _ c => by
  obtain ⟨_, _, _, _, _, _, _, _, _, _, _, _, hE⟩ := c
  exact hE.elim
theorem house_in {n h : Nat} (hh : h < n) : houseD n (.int (h : Int)) = true := by simp [houseD, btwD, wholeD]; omega
def spDo (K : PySem.W.Frag) (C CS CR : Addr) : Sp := fun vs H Q _ => ∃ (F : Addr → Prop) (x t : Addr) (w : Km.W) (ad : Slot → Addr) (s s' : Km.S) (d : Km.Dd) (k : Nat), vs = [.ref x, .ref t] ∧ RunAt K C CS CR F H x w ad s ∧ Live F H ∧ Wd w ∧ Km.Run w s ∧ H t = some (.tup (deedV d)) ∧ Km.step w s d = some (s', k) ∧
  ∀ H2, Fr (In w true ad) H H2 → Live F H2 → RunAt K C CS CR F H2 x w ad s' → Q .non H2
def spIsDeed (K : PySem.W.Frag) (C : Addr) : Sp := fun vs H Q _ => ∃ (x t : Addr) (w : Km.W) (d : Km.Dd), vs = [.ref x, .ref t] ∧ TreeAt K C H x w.n w.ps ∧ Wd w ∧ H t = some (.tup (deedV d)) ∧ d.ok w ∧ RetV (.bl true) H Q
def spIsScr (K : PySem.W.Frag) (C CS : Addr) : Sp := fun vs H Q _ => ∃ (x l : Addr) (w : Km.W) (ts : List V) (ds : List Km.Dd), vs = [.ref x, .ref l] ∧ StoreAt K C CS H x w.n w.ps w.hs w.cs ∧ Wd w ∧ H l = some (.lst ts) ∧ Deeds H ts ds ∧ ds.length ≤ 400 ∧ (∀ d ∈ ds, d.ok w) ∧ RetV (.bl true) H Q
def spRunF (K : PySem.W.Frag) (C CS CR : Addr) : Sp := fun vs H Q _ => ∃ (F0 : Addr → Prop) (st l : Addr) (w : Km.W) (ts : List V) (ds : List Km.Dd) (s : Km.S), vs = [.ref st, .ref l] ∧ StoreAt K C CS (hidF F0 H) st w.n w.ps w.hs w.cs ∧ Wd w ∧ Live F0 H ∧ H l = some (.lst ts) ∧ Deeds H ts ds ∧ ds.length ≤ 400 ∧ Km.Path w Km.begun ds s ∧
  ∀ x H2 ad, Ex H H2 → (∀ s : Slot, s.ok w true → H (ad s) = none) → Live (fun a => F0 a ∨ In w true ad a) H2 → RunAt K C CS CR (fun a => F0 a ∨ In w true ad a) H2 x w ad s → Q (.ref x) H2
theorem deed_tup {H : Hp} {v : V} {d : Km.Dd} (h : Dq H v (deedD d)) : ∃ t, v = .ref t ∧ H t = some (.tup (deedV d)) := by
  cases d with
  | mk x =>
    cases h with
    | tup h1 h2 =>
      cases h2 with
      | cons a b =>
        cases b with
        | cons a' b =>
          cases b
          cases a
          cases a'
          exact ⟨_, rfl, h1⟩
  | hd u v =>
    cases h with
    | tup h1 h2 =>
      cases h2 with
      | cons a b =>
        cases b with
        | cons a' b =>
          cases b with
          | cons a2 b =>
            cases b
            cases a
            cases a'
            cases a2
            exact ⟨_, rfl, h1⟩
section
variable {P : Program} {w : World} {K : PySem.W.Frag} {mg : Str → Option Value} {base : Heap} {C CS CR CI CN CM CW f f1 f2 f3 f4 : Addr} {fd d1 d2 d3 d4 : FuncData} {tk : Tok}
theorem ok_do (F : FnP K "_do" sDo f fd) (R : RunCls K CR) (hm1 : Meth K CR "make" f1) (G1 : FnOk P w K mg base (L2N.CX P w) 7 f1 d1 ["self", "house"] (spMake K C CS CR CI CM)) (b1 : Binds K d1 ["self", "house"] []) (hm2 : Meth K CR "hand" f2) (G2 : FnOk P w K mg base (L2N.CX P w) 7 f2 d2 ["self", "u", "v"] (spHand K C CS CR CI CN CW)) (b2 : Binds K d2 ["self", "u", "v"] []) :
    FnOk P w K mg base CX0 8 f fd ["running", "deed"] (spDo K C CS CR) := by
  refine F.ok scDo (fun vs H Q E h => ?_) fun cdv A outer s H0 vs Q E hr h => ⟨_, PSs.nox (pss_one (ps_if (pt_cmpR op_eq (pe_ix ix_tup (pv 1) pe_int (fun _ _ => rfl)) pe_str (nomark _))
    (pss_one (ps_expr (pe_meth (pv 0) R.cl hm1 G1 hr b1 .nil (passF rfl rfl) (pa_cons (pe_ix ix_tup (pv 1) pe_int (fun _ _ => rfl)) pa_nil))))
    (pss_one (ps_expr (pe_meth (pv 0) R.cl hm2 G2 hr b2 .nil (passF rfl rfl) (pa_cons (pe_ix ix_tup (pv 1) pe_int (fun _ _ => rfl)) (pa_cons (pe_ix ix_tup (pv 1) pe_int (fun _ _ => rfl)) pa_nil))))))), ?_⟩
  · obtain ⟨F, x, t, w, ad, s, s', d, k, rfl, _⟩ := h
    rfl
  · obtain ⟨F, x, t, w, ad, s, s', d, k, rfl, hR, hL, W, r, ht, st, hQ⟩ := h
    have hx : ∃ dx fs, H0 x = some (.ins CR dx fs) ∧ fs.lookup ("make" : Str) = none ∧ fs.lookup ("hand" : Str) = none := by
      obtain ⟨ds, ⟨⟨dx, st, ul, bl, dt, kvs, hS⟩, _⟩, _⟩ := id hR
      exact ⟨dx, _, hidF_le _ _ hS.hx, rfl, rfl⟩
    obtain ⟨dx, fs, x1, l1, l2⟩ := hx
    cases d with
    | mk h =>
      obtain ⟨rs, hk, hh, _⟩ := Km.step_mk st
      refine s_if (b := true) (et_is (et_test (ev_op (ev_op (ev_var rfl) ev_c (rv_ixT (v := .str "make") (st_of ht) rfl)) ev_c (rv_eq rfl))) (by simp)) (fun _ H1 e1 => ?_) fun z => nomatch z
      refine ⟨_, rfl, x, dx, fs, rfl, e1 _ _ x1, l1, _, rfl, t, _, _, _, rfl, rfl, st_of (e1 _ _ ht), rfl, F, x, w, ad, s, .int (h : Int), .int (h : Int), rfl, hR.mono e1, hL.mono e1, W, r, .int _, fun z => ?_, fun h' e hh' => ?_⟩
      · rw [house_in hh] at z
        cases z
      · have e := PyData.int.inj e
        have : h' = h := by omega
        subst this
        refine ⟨fun z => ?_, fun s2 k2 st2 H2 fr L2 R2 => ?_⟩
        · rw [hk] at z
          cases z
        · rw [st] at st2
          cases st2
          exact hQ H2 ((Fr.of e1).trans fr) L2 R2
    | hd u v =>
      obtain ⟨rs, hk, hn, _⟩ := Km.step_hd st
      have lu := Km.nb_r W.ok hn.symm
      have lv := Km.nb_r W.ok hn
      refine s_if (b := false) (et_is (et_test (ev_op (ev_op (ev_var rfl) ev_c (rv_ixT (v := .str "hand") (st_of ht) rfl)) ev_c (rv_eq rfl))) (by decide +kernel)) (fun z => nomatch z) fun _ H1 e1 => ?_
      refine ⟨_, rfl, x, dx, fs, rfl, e1 _ _ x1, l2, _, rfl, t, _, _, _, rfl, rfl, st_of (e1 _ _ ht), rfl, _, rfl, t, _, _, _, rfl, rfl, st_of (e1 _ _ ht), rfl, F, x, w, ad, s, .int (u : Int), .int (v : Int), .int (u : Int), .int (v : Int), rfl, hR.mono e1, hL.mono e1, W, r, .int _, .int _, fun z => ?_, fun _ z => ?_, fun u' v' e e' lu' lv' => ?_⟩
      · rw [house_in lu] at z
        cases z
      · rw [house_in lv] at z
        cases z
      · have e := PyData.int.inj e
        have e' := PyData.int.inj e'
        have : u' = u := by omega
        subst this
        have : v' = v := by omega
        subst this
        refine ⟨fun z => absurd hn z, fun _ z => ?_, fun s2 k2 st2 H2 fr L2 R2 => ?_⟩
        · rw [hk] at z
          cases z
        · rw [st] at st2
          cases st2
          exact hQ H2 ((Fr.of e1).trans fr) L2 R2
theorem ok_isDeed (F : FnP K "_is_deed" sIsDeed f fd) (G1 : FnOk P w K mg base CX0 3 f1 d1 ["self", "value"] (spHas K C)) (hb : Binds K d1 ["self", "value"] []) (hs : PySem.W.findIn K (.ref C) "__contains__" = some (some (.ref f1))) (hf : PySem.W.isFn K (.ref f1) = true) (G2 : FnOk P w K mg base CX0 2 f2 d2 ["tree", "u", "v"] (spIsRoad K C)) (k2 : Kd K mg "is_road" ["tree", "u", "v"] f2 d2)
    (mi : mg "isinstance" = none) (mt : mg "tuple" = none) (ml : mg "len" = none) : FnOk P w K mg base CX0 4 f fd ["tree", "value"] (spIsDeed K C) := by
  refine F.ok scIsDeed (fun vs H Q E h => ?_) fun cdv A outer s H0 vs Q E hr h => ⟨_, PSs.nox (
    pss_cons (ps_if (pt_not (pt_val (pe_callB call_isi (by rfl) mi (by decide +kernel) (pa_cons (pv 1) (pa_cons (pe_bltn (v := .ty "tuple") (by rfl) mt (by decide +kernel : bootBuiltins "tuple" = some (.type "tuple")) rfl) pa_nil))))) (pss_one (ps_ret pe_bl)) pss_nil)
    (pss_cons (ps_if (pt_cmpR op_eq (pe_callB call_len_seq (by rfl) ml PySem.boot_len (pa_cons (pv 1) pa_nil)) pe_int (nomark _))
      (pss_one (ps_ret (pe_and (pe_cmpR op_eq (pe_ix ix_tup (pv 1) pe_int (fun _ _ => rfl)) pe_str (nomark _)) (pe_one (pe_cmpR (op_inOwn (E := E0) G1 hr hb pass0 hs hf) (pe_ix ix_tup (pv 1) pe_int (fun _ _ => rfl)) (pv 0) (by rfl)))))) pss_nil)
    (pss_cons (ps_if (pw_or (pt_cmpR op_ne (pe_callB call_len_seq (by rfl) ml PySem.boot_len (pa_cons (pv 1) pa_nil)) pe_int (nomark _)) (pw_or (pt_cmpR op_ne (pe_ix ix_tup (pv 1) pe_int (fun _ _ => rfl)) pe_str (nomark _))
        (pw_or (pt_cmpR (op_notInOwn (E := E0) G1 hr hb pass0 hs hf) (pe_ix ix_tup (pv 1) pe_int (fun _ _ => rfl)) (pv 0) (by rfl)) (pw_or1 (pt_cmpR (op_notInOwn (E := E0) G1 hr hb pass0 hs hf) (pe_ix ix_tup (pv 1) pe_int (fun _ _ => rfl)) (pv 0) (by rfl)))))).pt (pss_one (ps_ret pe_bl)) pss_nil)
    (pss_one (ps_ret (pe_call G2 (hr.mono (by decide)) (by rfl) k2.m k2.k k2.b .nil pass0 (pa_cons (pv 0) (pa_cons (pe_ix ix_tup (pv 1) pe_int (fun _ _ => rfl)) (pa_cons (pe_ix ix_tup (pv 1) pe_int (fun _ _ => rfl)) pa_nil))))))))), ?_⟩
  · obtain ⟨x, t, w, d, rfl, _⟩ := h
    rfl
  · obtain ⟨x, t, w, d, rfl, hT, W, ht, hd, hQ⟩ := h
    obtain ⟨dx, rt, l, us, ts, wl, h1, _⟩ := id hT
    have isT : ∀ H1, Ex H0 H1 → EvT (tNot (tB (tCB (rIsi K) (tCons (tVar 1) (tCons (tC (.ty "tuple")) tNil))))) (start ["tree", "value"] [.ref x, .ref t]) H1 false := fun H1 e1 => et_is (et_not (et_B (ev_isB (b := true) (ev_var rfl) (Dq.mono e1 (deed_dq ht)) (by cases d <;> (dsimp only [deedD, tyD]; decide +kernel))))) rfl
    refine q_when (isT H0 (Ex.refl _)) (fun z => nomatch z) fun _ H1 e1 => ?_
    have ht1 := e1 _ _ ht
    have hT1 := hT.mono e1
    have x1 := e1 _ _ h1
    have inT : ∀ (i : Nat) (h : Nat) (H2 : Hp), Ex H1 H2 → (deedV d)[i]? = some (natV h) → h < w.n → ∀ neg : Bool, RV (rInO neg C (spHas K C) E0) (natV h) (.ref x) H2 (.bl (!neg)) := fun i h H2 e2 _ hh neg H3 e3 Q q => ⟨x, dx, _, rfl, (e2.trans e3) _ _ x1, x, w.n, w.ps, _, .int (h : Int), rfl, hT1.mono (e2.trans e3), .int _, by
        have : btwD 0 ((w.n : Int) - 1) (.int (h : Int)) = true := house_in hh
        rw [this]
        exact fun H4 e4 => ⟨true, rfl, by
          have z := q H4 (e4)
          cases neg <;> exact z⟩⟩
    cases d with
    | mk h =>
      refine q_when (b := true) (et_is (et_test (ev_op (ev_len2 (ev_var rfl) (.inr (st_of ht1))) ev_c (rv_eq rfl))) (decide_eq_true rfl)) (fun _ H2 e2 => ?_) fun z => nomatch z
      refine s_ret (ev_andV (a := true) (b := true) (ev_is (ev_op (ev_op (ev_var rfl) ev_c (rv_ixT (v := .str "make") (st_of (e2 _ _ ht1)) rfl)) ev_c (rv_eq rfl)) (by simp)) fun _ => ev_op (ev_op (ev_var rfl) ev_c (rv_ixT (v := natV h) (st_of (e2 _ _ ht1)) rfl)) (ev_var rfl) (inT 1 h _ e2 rfl hd false)) fun H3 e3 => hQ H3 ((e1.trans e2).trans e3)
    | hd u v =>
      have lu := Km.nb_r W.ok (show Km.nb w u v from hd).symm
      have lv := Km.nb_r W.ok (show Km.nb w u v from hd)
      refine q_when (b := false) (et_is (et_test (ev_op (ev_len2 (ev_var rfl) (.inr (st_of ht1))) ev_c (rv_eq rfl))) (decide_eq_false fun z => by have := V.int.inj z; simp [deedV] at this)) (fun z => nomatch z) fun _ H2 e2 => ?_
      have ht2 := e2 _ _ ht1
      have n3 : (!decide (V.int ((deedV (.hd u v)).length : Int) = V.int 3)) = false := by
        rw [show decide (V.int ((deedV (.hd u v)).length : Int) = V.int 3) = true from decide_eq_true rfl]
        rfl
      refine q_when (b := false || (false || (false || false))) (et_or (et_is (et_test (ev_op (ev_len2 (ev_var rfl) (.inr (st_of ht2))) ev_c (rv_ne rfl))) n3) fun _ => et_or (et_is (et_test (ev_op (ev_op (ev_var rfl) ev_c (rv_ixT (v := .str "hand") (st_of ht2) rfl)) ev_c (rv_ne rfl))) (by simp)) fun _ =>
        et_or (et_test (ev_op (ev_op (ev_var rfl) ev_c (rv_ixT (v := natV u) (st_of ht2) rfl)) (ev_var rfl) (inT 1 u _ e2 rfl lu true))) fun _ => et_test (ev_op (ev_op (ev_var rfl) ev_c (rv_ixT (v := natV v) (st_of ht2) rfl)) (ev_var rfl) (inT 2 v _ e2 rfl lv true))) (fun z => nomatch z) fun _ H3 e3 => ?_
      have ht3 := e3 _ _ ht2
      refine s_retC (ea_cons (ev_var rfl) (ea_cons (ev_op (ev_var rfl) ev_c (rv_ixT (v := natV u) (st_of ht3) rfl)) (ea_cons (ev_op (ev_var rfl) ev_c (rv_ixT (v := natV v) (st_of ht3) rfl)) ea_nil))) fun H4 e4 => ⟨x, w.n, w.ps, u, v, rfl, hT1.mono ((e2.trans e3).trans e4), W.joined, lu, lv, ?_⟩
      rw [W.nb lu lv, decide_eq_true (show Km.nb w u v from hd)]
      exact fun H5 e5 => hQ H5 ((e1.trans (e2.trans e3)).trans (e4.trans e5))
theorem ok_isScr (F : FnP K "is_script" sIsScr f fd) (cs : Cls K CS) (nT : NoAttr K CS "tree") (G1 : FnOk P w K mg base CX0 1 f1 d1 ["value"] spIsL) (k1 : Kd K mg "is_list" ["value"] f1 d1) (G2 : FnOk P w K mg base CX0 4 f2 d2 ["tree", "value"] (spIsDeed K C)) (k2 : Kd K mg "_is_deed" ["tree", "value"] f2 d2)
    (ma : mg "all" = none) (ml : mg "len" = none) (mm : mg "MOST_DEEDS" = some (.int 400 tk)) : FnOk P w K mg base CX0 5 f fd ["store", "value"] (spIsScr K C CS) := by
  refine F.ok scIsScr (fun vs H Q E h => ?_) fun cdv A outer s H0 vs Q E hr h => ⟨_, PSs.nox (pss_one (ps_ret (pe_and (pe_call G1 (hr.mono (by decide)) (by rfl) k1.m k1.k k1.b .nil pass0 (pa_cons (pv 1) pa_nil)) (pe_and (pe_cmpR op_le (pe_callB call_len_seq (by rfl) ml PySem.boot_len (pa_cons (pv 1) pa_nil)) (pe_glob (v := .int 400) (by rfl) mm ⟨_, rfl⟩) (nomark _))
    (pe_one (pe_callB (cr_all rfl) (by rfl) ma (by decide +kernel) (pa_cons (pe_lc (own := [("deed", 2)]) (g := gName 2) (tt := tYes) (te := tCall (spIsDeed K C) [] E0 (tCons (tFld K (tVar 0) "tree") (tCons (tVar 2) tNil))) rfl scIsScr.nd (pi_list (pv 1)) (blkOk_by (N := ["store", "value", "deed"]) (sc := defScope sIsScr) (by decide +kernel)) (fun _ _ _ _ _ => pg_name (i := 2) scIsScr.nd rfl (.inl rfl)) (fun _ _ _ _ _ => pts_nil)
      (fun _ _ _ _ _ => pe_call (t := tCons (tFld K (tVar 0) "tree") (tCons (tVar 2) tNil)) G2 hr (by rfl) k2.m k2.k k2.b .nil pass0 (pa_cons (pe_fld (pv 0) rfl) (pa_cons (pv 2) pa_nil)))) pa_nil))))))), ?_⟩
  · obtain ⟨x, l, w, ts, ds, rfl, _⟩ := h
    rfl
  · obtain ⟨x, l, w, ts, ds, rfl, hS, W, hl, hD, hz, hok, hQ⟩ := h
    have len := dq_len hD
    rw [List.length_map] at len
    obtain ⟨dx, tr, ht, ct, x1, hT, _⟩ := id hS
    refine s_ret (v := .bl true) (ev_is (ev_andV (a := true) (b := true && ((List.replicate ds.length true).all id)) (ev_callP (v := .bl true) (ea_cons (ev_var rfl) ea_nil) fun H1 e1 Q q => ⟨_, .list (ds.map deedD), rfl, .lst (e1 _ _ hl) (DqAll.mono e1 hD), q⟩) fun _ => ev_andV (a := true) (b := (List.replicate ds.length true).all id)
      (ev_is (ev_op (ev_len (ev_var rfl) (sq_of hl)) ev_c rv_I0) (by rw [decide_eq_true (show ((ts.length : Int)) ≤ 400 by omega)])) fun _ => ev_all ?_) (by simp)) hQ
    have key := el_lcL (K := K) (σ := start ["store", "value", "deed"] [.ref x, .ref l]) (H := H0) (a := l) (xs := ts) (tl := tVar 1) (t := tYes) (te := tCall (spIsDeed K C) [] E0 (tCons (tFld K (tVar 0) "tree") (tCons (tVar 2) tNil))) (j := 2) (vs := [2]) (fun _ => true) (fun i => .bl true) (ev_var rfl) (sq_of hl) (by omega) (fun _ => rfl) (fun i y H1 e1 hy H2 e2 Q q => by unfold tYes; exact q H2 (Ex.refl _)) fun i y H1 e1 hy _ => ?_
    · have eL : given ts.length (fun _ => true) (fun _ => V.bl true) = (List.replicate ds.length true).map V.bl := by
        unfold given
        rw [List.filter_eq_self.mpr (fun _ _ => rfl), List.map_replicate, len]
        exact List.ext_getElem (by simp) fun i h1 h2 => by simp
      rw [eL] at key
      exact key
    · obtain ⟨dd, h1, h2⟩ := dq_get hD i y hy
      rw [List.getElem?_map] at h1
      obtain ⟨d, hd, rfl⟩ := Option.map_eq_some_iff.mp h1
      obtain ⟨t, rfl, htt⟩ := deed_tup h2
      exact ev_callP (ea_cons (ev_fld cs nT (ev_var rfl) (e1 _ _ x1) rfl) (ea_cons (ev_var rfl) ea_nil)) fun H2 e2 Q q => ⟨tr, t, w, d, rfl, hT.mono (e1.trans e2), W, (e1.trans e2) _ _ htt, hok d (List.mem_of_getElem? hd), q⟩
theorem RunAt.live {F : Addr → Prop} {H : Hp} {x : Addr} {w : Km.W} {ad : Slot → Addr} {s : Km.S} {F0 : Addr → Prop} (h : RunAt K C CS CR (fun a => F0 a ∨ In w true ad a) H x w ad s) (l : Live F0 H) : Live (fun a => F0 a ∨ In w true ad a) H := fun a k => by
  rcases k with k | ⟨t, ht, rfl⟩
  · exact l a k
  · obtain ⟨ds, ⟨_, _, hC⟩, _⟩ := h
    exact ⟨_, hC.at' t ht⟩
theorem StoreAt.hidN {F0 : Addr → Prop} {H : Hp} {x st dx : Addr} {n : Nat} {ps : List (Nat × Nat)} {hs cs : List Nat} {o : HO} (h : StoreAt K C CS (hidF F0 H) st n ps hs cs) (nx : H x = none) (nd : H dx = none) : StoreAt K C CS (hidF (fun a => F0 a ∨ a = x) (upd (upd H dx (.own x)) x o)) st n ps hs cs := h.mono fun a u e => by
  obtain ⟨n1, e⟩ := hidF_some e
  have ax : a ≠ x := ne_of_none e nx
  rw [hidF_eq (fun z => z.elim n1 ax), upd_ne ax, upd_ne (ne_of_none e nd)]
  exact e
/-- Running(store) -/
theorem mk_run {σ : L2.St} {H : Hp} {F0 : Addr → Prop} {st : Addr} {w : Km.W} {ta : TA} {Q : VK} {E : XK} (hSt : StoreAt K C CS (hidF F0 H) st w.n w.ps w.hs w.cs) (hL : Live F0 H) (W : Wd w) (he : EvA ta σ H [.ref st])
    (q : ∀ x H2 ad, Ex H H2 → H x = none → (∀ s : Slot, s.ok w true → H (ad s) = none) → Live (fun a => F0 a ∨ In w true ad a) H2 → RunAt K C CS CR (fun a => F0 a ∨ In w true ad a) H2 x w ad Km.begun → Q (.ref x) H2) : tMake CR (spInitR K C CS CR) [] E ta σ H Q :=
  he H (Ex.refl H) _ fun H1 e1 x dx nx nd ne => by
    have hL1 := hL.mono e1
    have l2 : Live F0 (upd (upd H1 dx (.own x)) x (.ins CR dx [])) := fun a k => by
      obtain ⟨o, z⟩ := hL1 a k
      exact ⟨o, by rw [upd_ne (ne_of_none z nx), upd_ne (ne_of_none z nd)]; exact z⟩
    refine ⟨F0, x, dx, st, w, rfl, upd_same, l2, hL1.new nx, (hSt.mono (Fr.of e1).hid).hidN nx nd, W, fun H2 ad b n R => ⟨rfl, ?_⟩⟩
    have ex : Ex H1 H2 := fun a o e => b a o (ne_of_none e nx) (by rw [upd_ne (ne_of_none e nx), upd_ne (ne_of_none e nd)]; exact e)
    refine q x H2 ad (e1.trans ex) (fresh_back e1 nx) (fun s hs => ?_) (R.live (F := F0) (hL1.mono ex)) R
    have := n s hs
    cases z : H (ad s) with
    | none => rfl
    | some o =>
      have z1 := e1 _ _ z
      rw [upd_ne (ne_of_none z1 nx), upd_ne (ne_of_none z1 nd), z1] at this
      cases this
theorem q_mkRun {tz : TS} {D : Ends} {i : Nat} {σ : L2.St} {H : Hp} {F0 : Addr → Prop} {st : Addr} {w : Km.W} {ta : TA} {E : XK} (hSt : StoreAt K C CS (hidF F0 H) st w.n w.ps w.hs w.cs) (hL : Live F0 H) (W : Wd w) (he : EvA ta σ H [.ref st])
    (q : ∀ x H2 ad, Ex H H2 → H x = none → (∀ s : Slot, s.ok w true → H (ad s) = none) → Live (fun a => F0 a ∨ In w true ad a) H2 → RunAt K C CS CR (fun a => F0 a ∨ In w true ad a) H2 x w ad Km.begun → tz D (σ.set i (some (.ref x))) H2) : tSeq (tAsg (tMake CR (spInitR K C CS CR) [] E ta) (gName i)) tz D σ H := (mk_run hSt hL W he q : tMake CR (spInitR K C CS CR) [] E ta σ H fun v H2 => tz D (σ.set i (some v)) H2)
theorem ok_runF (F : FnP K "run" sRunF f fd) (G1 : FnOk P w K mg base CX0 5 f1 d1 ["store", "value"] (spIsScr K C CS)) (k1 : Kd K mg "is_script" ["store", "value"] f1 d1) (M : Mk K CR f2) (G2 : FnOk P w K mg base CX0 7 f2 d2 ["self", "store"] (spInitR K C CS CR)) (hb2 : Binds K d2 ["self", "store"] []) (mR : mg "Running" = some (.ref CR))
    (G3 : FnOk P w K mg base CX0 8 f3 d3 ["running", "deed"] (spDo K C CS CR)) (k3 : Kd K mg "_do" ["running", "deed"] f3 d3) (me : mg "enumerate" = none) : FnOk P w K mg base CX0 9 f fd ["store", "script"] (spRunF K C CS CR) := by
  refine F.ok scRunF (fun vs H Q E h => ?_) fun cdv A outer s H0 vs Q E hr h => ⟨_, PSs.nox (
    pss_cons (ps_if (pt_not (pt_val (pe_call G1 (hr.mono (by decide)) (by rfl) k1.m k1.k k1.b .nil pass0 (pa_cons (pv 0) (pa_cons (pv 1) pa_nil))))) (pss_one ps_never) pss_nil)
    (pss_cons (ps_set (i := 2) scRunF.nd rfl (.inl rfl) (pe_make M G2 hr (by rfl) mR hb2 .nil pass0 (pa_cons (pv 0) pa_nil)))
    (pss_cons (ps_for PassesOwn.never rfl (pi_enum (by rfl) me (pa_cons (pv 1) pa_nil)) (pg_tup rfl (pgs_cons (pg_name (i := 3) scRunF.nd rfl (.inl rfl)) (pgs_cons (pg_name (i := 4) scRunF.nd rfl (.inl rfl)) pgs_nil)))
      (pss_one (ps_try_thru0 (pss_one (ps_expr (pe_call G3 hr (by rfl) k3.m k3.k k3.b .nil pass0 (pa_cons (pv 2) (pa_cons (pv 4) pa_nil))))))))
    (pss_one (ps_ret (pv 2)))))), ?_⟩
  · obtain ⟨F0, st, l, w, ts, ds, s, rfl, _⟩ := h
    rfl
  · obtain ⟨F0, st, l, w, ts, ds, s, rfl, hSt, W, hL, hl, hD, hz, hp, hQ⟩ := h
    have len := dq_len hD
    rw [List.length_map] at len
    refine q_when (b := false) (et_is (et_not (et_B (ev_callP (v := .bl true) (ea_cons (ev_var rfl) (ea_cons (ev_var rfl) ea_nil)) fun H1 e1 Q q => ⟨st, l, w, ts, ds, rfl, (hSt.mono hidF_le).mono e1, W, e1 _ _ hl, DqAll.mono e1 hD, hz, hp.ok, q⟩))) rfl) (fun z => nomatch z) fun _ H1 e1 => ?_
    refine q_mkRun (hSt.mono (Fr.of e1).hid) (hL.mono e1) W (ea_cons (ev_var rfl) ea_nil) fun x H2 ad e2 nx nad lv2 R2 => ?_
    have e12 := e1.trans e2
    have nIn : ∀ {a o}, H1 a = some o → ¬ In w true ad a := fun {a o} e z => by
      obtain ⟨t, ht, rfl⟩ := z
      rw [nad t ht] at e
      cases e
    show tSeq _ _ _ _ _
    refine ⟨_, rfl, l, ts, rfl, sq_of (e12 _ _ hl), ?_⟩
    refine for_it (walk_enum (K := K) (a := l) (xs := ts)) (fun i (σ' : L2.St) (H' : Hp) => (∃ y z, σ' = [some (.ref st), some (.ref l), some (.ref x), y, z]) ∧ Fr (In w true ad) H1 H' ∧ Live (fun a => F0 a ∨ In w true ad a) H' ∧ ∃ t, Km.Path w Km.begun (ds.take i) t ∧ RunAt K C CS CR (fun a => F0 a ∨ In w true ad a) H' x w ad t)
      ⟨⟨_, _, rfl⟩, Fr.of e2, lv2, _, .nil, R2⟩ (fun i σ' H' _ q => sq_of (q.2.1 _ _ (nIn (e1 _ _ hl)) (e1 _ _ hl))) (fun i y σ' H' H3 hi q yy => ?_) fun σ' H' q => ?_
    · obtain ⟨⟨y1, y2, rfl⟩, fr, L', t, pt, Rt⟩ := q
      obtain ⟨T, u, v, rfl, nT, rfl, hu, hv⟩ := yy
      cases hu
      obtain ⟨dd, h1, h2⟩ := dq_get hD i v hv
      rw [List.getElem?_map] at h1
      obtain ⟨d, hd, rfl⟩ := Option.map_eq_some_iff.mp h1
      obtain ⟨tt, rfl, htt⟩ := deed_tup h2
      obtain ⟨t1, t2, k, p1, st1, p2⟩ := hp.at hd
      have := p1.fn pt
      subst this
      refine ⟨T, _, rfl, st_of upd_same, rfl, _, _, rfl, _, _, rfl, rfl, ?_⟩
      have eT : Ex H' (upd H' T (.tup [.int (i : Nat), .ref tt])) := Ex.new nT
      have tt1 := e1 _ _ htt
      refine ⟨_, rfl, _, rfl, _, x, tt, w, ad, _, t2, d, k, rfl, Rt.mono eT, L'.mono eT, W, p1.run .nil, eT _ _ (fr _ _ (nIn tt1) tt1), st1, fun H5 fr5 L5 R5 => ⟨⟨_, _, rfl⟩, (fr.trans (Fr.of eT)).trans fr5, L5, t2, p2, R5⟩⟩
    · obtain ⟨⟨y1, y2, rfl⟩, fr, L', t, pt, Rt⟩ := q
      rw [len, List.take_length] at pt
      have := pt.fn hp
      subst this
      refine s_ret (ev_var rfl) fun H4 e4 => ?_
      refine hQ x H4 ad (fun a o e => e4 _ _ (fr a o (nIn (e1 _ _ e)) (e1 _ _ e))) (fun s hs => fresh_back e1 (nad s hs)) (L'.mono e4) (Rt.mono e4)
end
end Tr

set_option maxHeartbeats 4000000
/-! ### the law's draws (law k04): _law_cell, _law_box, _law_take, _law_mixed -/
namespace PySem.PyData
open PySem
theorem shaped_list {ds : List PyData} (h : ∀ d ∈ ds, d.canLay0 = true ∧ d.depth ≤ 60) : SeqAt.shaped (.list ds) = true := by
  have h1 : PyData.depthAll ds ≤ 60 := by
    induction ds with
    | nil => simp [PyData.depthAll]
    | cons p r ih =>
      have a := (h p List.mem_cons_self).2
      have b := ih fun d hd => h d (List.mem_cons_of_mem _ hd)
      simp only [PyData.depthAll]
      omega
  have h2 : PyData.canLayAll0 ds = true := by
    clear h1
    induction ds with
    | nil => simp [PyData.canLayAll0]
    | cons p r ih =>
      simp only [PyData.canLayAll0, (h p List.mem_cons_self).1, Bool.true_and]
      exact ih fun d hd => h d (List.mem_cons_of_mem _ hd)
  show (PyData.canLay0 (.list ds) && decide (PyData.depth (.list ds) ≤ 64)) = true
  rw [Bool.and_eq_true]
  exact ⟨by simp only [PyData.canLay0]; exact h2, decide_eq_true (by simp only [PyData.depth]; omega)⟩
theorem eqv_nil {ds : List PyData} : PyData.eqv (.list ds) (.list []) = ds.isEmpty := by
  cases ds <;> simp [PyData.eqv, PyData.eqvAll]
end PySem.PyData
namespace Tr
open PySem PySem.Spec PyProof.Rows L2 LK Evl
abbrev sCell : Stmt := top 46
abbrev sBox : Stmt := top 47
abbrev sTake : Stmt := top 48
abbrev sMixed : Stmt := top 49
theorem scCell : FnScope ["script", "k"] ["script", "k"] (defScope sCell) := ⟨rfl, rfl, rfl, by decide +kernel, rfl, by decide +kernel, by decide +kernel⟩
theorem scBox : FnScope ["great"] ["great"] (defScope sBox) := ⟨rfl, rfl, rfl, by decide +kernel, rfl, by decide +kernel, by decide +kernel⟩
theorem scTake : FnScope ["box", "many", "digit", "mixed"] ["box", "many"] (defScope sTake) := ⟨rfl, rfl, rfl, by decide +kernel, rfl, by decide +kernel, by decide +kernel⟩
theorem scMixed : FnScope ["box", "items", "left", "found"] ["box", "items"] (defScope sMixed) := ⟨rfl, rfl, rfl, by decide +kernel, rfl, by decide +kernel, by decide +kernel⟩
/-- the box at p: at most n draws were mixed -/
def Bx (H : Hp) (p : Addr) (n : Nat) : Prop := ∃ (g m c : Int) (b : Bool), H p = some (.lst [.int g, .bl b, .int m, .int c]) ∧ 0 ≤ g ∧ 0 ≤ m ∧ m < 2147483648 ∧ 0 ≤ c ∧ c ≤ n
theorem Bx.mono {H H' : Hp} {p : Addr} {n : Nat} (e : Ex H H') (h : Bx H p n) : Bx H' p n := by
  obtain ⟨g, m, c, b, h1, h2⟩ := h
  exact ⟨g, m, c, b, e _ _ h1, h2⟩
theorem Bx.fr {F : Addr → Prop} {H H' : Hp} {p : Addr} {n : Nat} (e : Fr F H H') (np : ¬ F p) (h : Bx H p n) : Bx H' p n := by
  obtain ⟨g, m, c, b, h1, h2⟩ := h
  exact ⟨g, m, c, b, e _ _ np h1, h2⟩
theorem Bx.up {H : Hp} {p : Addr} {n n' : Nat} (h : Bx H p n) (l : n ≤ n') : Bx H p n' := by
  obtain ⟨g, m, c, b, h1, h2, h3, h4, h5, h6⟩ := h
  exact ⟨g, m, c, b, h1, h2, h3, h4, h5, by omega⟩
theorem Bx.some {H : Hp} {p : Addr} {n : Nat} (h : Bx H p n) : ∃ o, H p = some o := by
  obtain ⟨g, m, c, b, h1, _⟩ := h
  exact ⟨_, h1⟩
theorem Fr.mut {F : Addr → Prop} {H H' : Hp} {p : Addr} {o : HO} (e : Fr F H H') (h : H p = none) : Fr F H (upd H' p o) := fun a u n ha => by
  rw [upd_ne (ne_of_none ha h)]
  exact e a u n ha
theorem fr_none {F : Addr → Prop} {H H' : Hp} {p : Addr} (e : Fr F H H') (np : ¬ F p) (h : H' p = none) : H p = none := by
  cases z : H p with
  | none => rfl
  | some o => rw [e p o np z] at h; cases h
def cutI (ns : List Int) : List Int := (ns.drop (HT.sIx ns.length 0 none)).take (HT.sIx ns.length ns.length (some 1) - HT.sIx ns.length 0 none)
def spCell (K : PySem.W.Frag) : Sp := fun vs H Q _ => ∃ (p : Addr) (ns : List Int) (k : Int), vs = [.ref p, .int k] ∧ SqL K H p (ns.map V.int) ∧ 0 ≤ k ∧ k ≤ 100 ∧ ∀ i : Int, RetV (.int i) H Q
def spBox : Sp := fun vs H Q _ => ∃ g : Int, vs = [.int g] ∧ ∀ p H2, H p = none → Ex H H2 → Bx H2 p 0 → Q (.ref p) H2
abbrev One (p : Addr) : Addr → Prop := fun a => a = p
def spTake : Sp := fun vs H Q _ => ∃ (p : Addr) (s : Int) (n : Nat), vs = [.ref p, .int s] ∧ Bx H p n ∧ n ≤ 100000 ∧ 0 < s ∧ s ≤ 1000 ∧ ∀ (r : Nat) H2, (r : Int) < s → Fr (One p) H H2 → Bx H2 p (n + 1) → Q (.int (r : Int)) H2
def spMixed : Sp := fun vs H Q _ => ∃ (p l : Addr) (n : Nat) (xs : List Nat), vs = [.ref p, .ref l] ∧ Bx H p n ∧ n + xs.length ≤ 100000 ∧ xs.length ≤ 1000 ∧ H l = some (.lst (xs.map natV)) ∧ ∀ (q : Addr) (ys : List Nat) (H2 : Hp), ys.Perm xs → H q = none → Fr (One p) H H2 → Bx H2 p (n + xs.length) → H2 q = some (.lst (ys.map natV)) → Q (.ref q) H2
section
variable {P : Program} {w : World} {K : PySem.W.Frag} {mg : Str → Option Value} {base : Heap} {f f1 : Addr} {fd d1 : FuncData}
theorem ok_cell (F : FnP K "_law_cell" sCell f fd) (ml : mg "len" = none) (ms : mg "sum" = none) : FnOk P w K mg base CX0 1 f fd ["script", "k"] (spCell K) := by
  refine F.ok scCell (fun vs H Q E h => ?_) fun cdv A outer s H0 vs Q E hr h => ⟨_, PSs.nox (pss_one (ps_ret (pe_ifExp (pt_cmpR op_lt (pv 1) (pe_callB call_len_seq (by rfl) ml PySem.boot_len (pa_cons (pv 0) pa_nil)) (nomark _)) (pe_ix ix_list (pv 0) (pv 1) (fun _ _ => rfl))
    (pe_op op_add (pe_op op_mul pe_int (pv 1)) (pe_op op_mod (pe_callB (cr_sum rfl) (by rfl) ms (by decide +kernel) (pa_cons (pe_slice sl_list (pv 0) po_none (po_some pe_int)) pa_nil)) pe_int))))), ?_⟩
  · obtain ⟨p, ns, k, rfl, _⟩ := h
    rfl
  · obtain ⟨p, ns, k, rfl, hs, h0, h1, hQ⟩ := h
    obtain ⟨j, rfl⟩ := Int.eq_ofNat_of_zero_le h0
    have tst := fun (te : TE) => et_test (te := te) (σ := start ["script", "k"] [.ref p, .int (j : Int)]) (H := H0) (b := decide ((j : Int) < ((ns.map V.int).length : Int)))
    by_cases c : (j : Int) < ((ns.map V.int).length : Int)
    · have hj : j < ns.length := by
        rw [List.length_map] at c
        omega
      have e : (ns.map V.int)[j]? = some (.int ns[j]) := by rw [List.getElem?_map, List.getElem?_eq_getElem hj] <;> rfl
      exact s_ret (v := .int ns[j]) (ev_if (tst _ (ev_op (ev_var rfl) (ev_len (ev_var rfl) hs) rv_I0)) (fun _ => ev_op (ev_var rfl) (ev_var rfl) (rv_ixL hs (atI_nat e))) fun hb => absurd c (of_decide_eq_false hb)) fun H1 e1 => hQ _ H1 e1
    · have e : cutV (ns.map V.int) none (some 1) = (cutI ns).map V.int := by
        unfold cutV cutI
        rw [List.length_map, List.map_take, List.map_drop]
      refine s_ret (v := .int (6029 * (j : Int) + (cutI ns).sum % 1000033)) (ev_if (tst _ (ev_op (ev_var rfl) (ev_len (ev_var rfl) hs) rv_I0)) (fun hb => absurd (of_decide_eq_true hb) c) fun _ => ?_) fun H1 e1 => hQ _ H1 e1
      refine ev_op (ev_op ev_c (ev_var rfl) (rv_I (.inr ⟨by omega, by omega⟩))) (ev_op (x := .int (cutI ns).sum) ?_ ev_c (rv_I (by decide))) rv_I0
      intro H1 e1 Q q
      exact el_sl (ev_var rfl) eo_none (eo_some ev_c) hs H1 e1 _ fun l H2 nl e2 hl => ⟨l, cutI ns, rfl, .inl (.inl (by rw [hl, e])), q H2 e2⟩
theorem ok_box (F : FnP K "_law_box" sBox f fd) (ma : mg "abs" = none) (mi : mg "int" = none) : FnOk P w K mg base CX0 1 f fd ["great"] spBox := by
  refine F.ok scBox (fun vs H Q E h => ?_) fun cdv A outer s H0 vs Q E hr h => ⟨_, PSs.nox (pss_one (ps_ret (pe_lst (pa_cons (pe_callB call_abs (by rfl) ma (by decide +kernel) (pa_cons (pv 0) pa_nil)) (pa_cons (pe_cmpR op_ge (pe_callB call_abs (by rfl) ma (by decide +kernel) (pa_cons (pv 0) pa_nil)) (pe_op op_pow pe_int pe_int) (nomark _))
    (pa_cons (pe_op op_mod (pe_callTy call_int1 (by rfl) mi (by decide +kernel) (pa_cons (pe_callB call_abs (by rfl) ma (by decide +kernel) (pa_cons (pv 0) pa_nil)) pa_nil)) pe_int) (pa_cons pe_int pa_nil))))))), ?_⟩
  · obtain ⟨g, rfl, _⟩ := h
    rfl
  · obtain ⟨g, rfl, hQ⟩ := h
    have ha : 0 ≤ (if g < 0 then -g else g) := by split <;> omega
    generalize ea : (if g < 0 then -g else g) = a at ha
    have hab : ∀ H : Hp, RC (fun xs H Q => ∃ i, xs = [V.int i] ∧ Q (.int (if i < 0 then -i else i)) H) [.int g] H (.int a) := fun H H1 _ Q q => ⟨g, rfl, by rw [ea]; exact q H1 (Ex.refl H1)⟩
    have hin : ∀ H : Hp, RC (fun xs H Q => (∃ i, xs = [V.int i] ∧ Q (.int i) H) ∨ ∃ k, xs = [V.bl k] ∧ Q (.int (if k then 1 else 0)) H) [.int a] H (.int a) := fun H H1 _ Q q => .inl ⟨a, rfl, q H1 (Ex.refl H1)⟩
    refine s_retL (el_lst (ea_cons (ev_cb (ea_cons (ev_var rfl) ea_nil) (hab _)) (ea_cons (ev_op (ev_cb (ea_cons (ev_var rfl) ea_nil) (hab _)) (ev_op ev_c ev_c (rv_I ⟨by decide, by decide, by decide⟩)) rv_I0) (ea_cons (ev_op (ev_cb (ea_cons (ev_cb (ea_cons (ev_var rfl) ea_nil) (hab _)) ea_nil) (hin _)) ev_c (rv_I (by decide))) (ea_cons ev_c ea_nil)))) (by show 4 ≤ 100000; decide)) fun p H1 n1 e1 hl => ?_
    exact hQ p H1 n1 e1 ⟨a, a % 2147483629, 0, _, hl, ha, by omega, by omega, by decide, by decide⟩
theorem ok_take (F : FnP K "_law_take" sTake f fd) (mi : mg "int" = none) : FnOk P w K mg base CX0 1 f fd ["box", "many"] spTake := by
  refine F.ok scTake (fun vs H Q E h => ?_) fun cdv A outer s H0 vs Q E hr h => ⟨_, PSs.nox (
    pss_cons (ps_if (pw_and (pt_val (pe_ix ix_list (pv 0) pe_int (fun _ _ => rfl))) (pw_and1 (pt_cmpR op_gt (pe_ix ix_list (pv 0) pe_int (fun _ _ => rfl)) pe_int (nomark _)))).pt
      (pss_cons (ps_set (i := 2) scTake.nd rfl (.inl rfl) (pe_op op_mod (pe_callTy call_int1 (by rfl) mi (by decide +kernel) (pa_cons (pe_ix ix_list (pv 0) pe_int (fun _ _ => rfl)) pa_nil)) (pv 1)))
      (pss_cons (ps_asg (pe_op op_fdiv (pe_ix ix_list (pv 0) pe_int (fun _ _ => rfl)) (pv 1)) (pg_sub (pv 0) pe_int set_list))
      (pss_one (ps_ret (pv 2))))) pss_nil)
    (pss_cons (ps_asg (pe_op op_add (pe_ix ix_list (pv 0) pe_int (fun _ _ => rfl)) pe_int) (pg_sub (pv 0) pe_int set_list))
    (pss_cons (ps_set (i := 3) scTake.nd rfl (.inl rfl) (pe_op op_mod (pe_callTy call_int1 (by rfl) mi (by decide +kernel) (pa_cons (pe_op op_pow (pe_op op_add (pe_op op_add (pe_ix ix_list (pv 0) pe_int (fun _ _ => rfl)) (pe_op op_mul pe_int (pe_ix ix_list (pv 0) pe_int (fun _ _ => rfl)))) pe_int) pe_int) pa_nil)) pe_int))
    (pss_one (ps_ret (pe_op op_mod (pe_op op_fdiv (pe_op op_mod (pe_callTy call_int1 (by rfl) mi (by decide +kernel) (pa_cons (pe_op op_pow (pe_op op_add (pe_op op_mul (pv 3) pe_int) (pe_op op_mul pe_int (pe_ix ix_list (pv 0) pe_int (fun _ _ => rfl)))) pe_int) pa_nil)) pe_int) pe_int) (pv 1))))))), ?_⟩
  · obtain ⟨p, s, n, rfl, _⟩ := h
    rfl
  · obtain ⟨p, s, n, rfl, hB, hn, s0, s1, hQ⟩ := h
    obtain ⟨g, m, c, b, hp, g0, m0, m1, c0, c1⟩ := hB
    have hin : ∀ (a : Int) (H : Hp), RC (fun xs H Q => (∃ i, xs = [V.int i] ∧ Q (.int i) H) ∨ ∃ k, xs = [V.bl k] ∧ Q (.int (if k then 1 else 0)) H) [.int a] H (.int a) := fun a H H1 _ Q q => .inl ⟨a, rfl, q H1 (Ex.refl H1)⟩
    have hs : SqL K H0 p [.int g, .bl b, .int m, .int c] := sq_of hp
    refine q_when (et_and (et_B (ev_op (ev_var rfl) ev_c (rv_ixL hs rfl))) fun _ => et_test (ev_op (ev_op (ev_var rfl) ev_c (rv_ixL hs rfl)) ev_c rv_I0)) (fun hb H1 e1 => ?_) fun hb H1 e1 => ?_
    · have hs1 := ex_l e1 hs
      refine q_asg (ev_op (ev_cb (ea_cons (ev_op (ev_var rfl) ev_c (rv_ixL hs1 rfl)) ea_nil) (hin _ _)) (ev_var rfl) (rv_I s0)) fun H2 e2 => ?_
      have hs2 := ex_l e2 hs1
      refine q_setL (j := 0) (e2 _ _ (e1 _ _ hp)) (ev_op (ev_op (ev_var rfl) ev_c (rv_ixL hs2 rfl)) (ev_var rfl) (rv_I ⟨s0, by omega⟩)) (ev_var rfl) ev_c (by show 0 < 4; decide) fun H3 e3 => ?_
      refine s_ret (ev_var rfl) fun H4 e4 => ?_
      have r0 : 0 ≤ g % s := Int.emod_nonneg _ (by omega)
      have r1 : g % s < s := Int.emod_lt_of_pos _ s0
      obtain ⟨r, hr⟩ := Int.eq_ofNat_of_zero_le r0
      rw [hr] at r1 ⊢
      exact hQ r H4 r1 ((Fr.of ((e1.trans e2).trans e3)).trans ((Fr.at (F := One p) rfl).trans (Fr.of e4))) ⟨g / s, m, c, b, e4 _ _ upd_same, Int.ediv_nonneg g0 (by omega), m0, m1, c0, by omega⟩
    · have hs1 := ex_l e1 hs
      refine q_setL (j := 3) (e1 _ _ hp) (ev_op (ev_op (ev_var rfl) ev_c (rv_ixL hs1 rfl)) ev_c rv_I0) (ev_var rfl) ev_c (by show 3 < 4; decide) fun H2 e2 => ?_
      have hs2 : SqL K (upd H2 p (.lst ([V.int g, .bl b, .int m, .int c].set 3 (.int (c + 1))))) p [.int g, .bl b, .int m, .int (c + 1)] := sq_of upd_same
      refine q_asg (ev_op (ev_cb (ea_cons (ev_op (ev_op (ev_op (ev_op (ev_var rfl) ev_c (rv_ixL hs2 rfl)) (ev_op ev_c (ev_op (ev_var rfl) ev_c (rv_ixL hs2 rfl)) (rv_I (.inl ⟨by decide, by decide⟩))) rv_I0) ev_c rv_I0) ev_c (rv_I ⟨by decide, by decide, by omega⟩)) ea_nil) (hin _ _)) ev_c (rv_I (by decide))) fun H3 e3 => ?_
      generalize hM : ((m + 15485917 * (c + 1) + 179424719) ^ Int.toNat 5) % 2147483647 = M
      have M0 : 0 ≤ M := by rw [← hM]; exact Int.emod_nonneg _ (by decide)
      have M1 : M < 2147483647 := by rw [← hM]; exact Int.emod_lt_of_pos _ (by decide)
      have hs3 := ex_l e3 hs2
      refine s_ret (ev_op (ev_op (ev_op (ev_cb (ea_cons (ev_op (ev_op (ev_op (ev_var rfl) ev_c (rv_I (.inr ⟨by decide, by decide⟩))) (ev_op ev_c (ev_op (ev_var rfl) ev_c (rv_ixL hs3 rfl)) (rv_I (.inl ⟨by decide, by decide⟩))) rv_I0) ev_c (rv_I ⟨by decide, by decide, by omega⟩)) ea_nil) (hin _ _)) ev_c (rv_I (by decide))) ev_c (rv_I ⟨by decide, by decide⟩)) (ev_var rfl) (rv_I s0)) fun H4 e4 => ?_
      generalize hr0 : ((M * 48271 + 104759 * (c + 1)) ^ Int.toNat 3) % 2147483587 / 64 = q
      have r0 : 0 ≤ q % s := Int.emod_nonneg _ (by omega)
      have r1 : q % s < s := Int.emod_lt_of_pos _ s0
      obtain ⟨r, hr⟩ := Int.eq_ofNat_of_zero_le r0
      rw [hr] at r1 ⊢
      exact hQ r H4 r1 ((Fr.of (e1.trans e2)).trans ((Fr.at (F := One p) rfl).trans (Fr.of (e3.trans e4)))) ⟨g, m, c + 1, b, e4 _ _ (e3 _ _ upd_same), g0, m0, m1, by omega, by omega⟩
/-- xs != [], xs of data -/
theorem et_neNil {σ : L2.St} {H : Hp} {ta : TE} {l : Addr} {xs : List V} {ds : List PyData} (h : Ev ta σ H (.ref l)) (hl : SqL K H l xs) (hd : DpAll K H xs ds) (sh : ∀ d ∈ ds, d.canLay0 = true ∧ d.depth ≤ 60) : EvT (tTest (tOp (rNeD K) ta (tLst tNil))) σ H (!ds.isEmpty) :=
  et_is (et_test (ev_opL h (el_lst ea_nil (Nat.zero_le _)) fun p H1 hp e => rv_neD (d := .list ds) (e := .list []) (ex_dp e (.lst hl hd)) (.lst (sq_of hp) .nil) (PyData.shaped_list sh) (PyData.shaped_list fun d hd => by cases hd))) (by rw [PyData.eqv_nil])
theorem dpAll_nats {H : Hp} : ∀ xs : List Nat, DpAll K H (xs.map natV) (xs.map natD)
  | [] => .nil
  | _ :: xs => .cons (.int _) (dpAll_nats xs)
theorem sh_nats {xs : List Nat} : ∀ d ∈ xs.map natD, d.canLay0 = true ∧ d.depth ≤ 60 := fun d hd => by
  obtain ⟨n, _, rfl⟩ := List.mem_map.mp hd
  simp [natD, PyData.canLay0, PyData.depth]
theorem erase_map {α β : Type} {f : α → β} : ∀ (i : Nat) (l : List α), (l.map f).eraseIdx i = (l.eraseIdx i).map f
  | _, [] => rfl
  | 0, _ :: _ => rfl
  | i + 1, a :: l => by
    show f a :: (l.map f).eraseIdx i = f a :: (l.eraseIdx i).map f
    rw [erase_map i l]
theorem erase_perm {α : Type} : ∀ (i : Nat) (l : List α) (h : i < l.length), (l[i] :: l.eraseIdx i).Perm l
  | 0, _ :: _, _ => List.Perm.refl _
  | i + 1, a :: l, h => by
    have h' : i < l.length := by simpa using h
    show (l[i]'h' :: a :: l.eraseIdx i).Perm (a :: l)
    exact (List.Perm.swap _ _ _).trans (List.Perm.cons a (erase_perm i l h'))
theorem ok_mixed (F : FnP K "_law_mixed" sMixed f fd) (G1 : FnOk P w K mg base CX0 1 f1 d1 ["box", "many"] spTake) (k1 : Kd K mg "_law_take" ["box", "many"] f1 d1) (ml : mg "len" = none) (mli : mg "list" = none) : FnOk P w K mg base CX0 2 f fd ["box", "items"] spMixed := by
  refine F.ok scMixed (fun vs H Q E h => ?_) fun cdv A outer s H0 vs Q E hr h => ⟨_, PSs.nox (
    pss_cons (ps_par (i := 2) (j := 3) rfl scMixed.nd rfl rfl (by decide) rfl rfl (pa_cons (pe_callTy call_list_of (by rfl) mli (by decide +kernel) (pa_cons (pv 1) pa_nil)) (pa_cons (pe_lst pa_nil) pa_nil)) rfl)
    (pss_cons (ps_while PassesOwn.never (pt_cmpR (op_neD hr.units) (pv 2) (pe_lst pa_nil) (nomark _)) (pss_one (ps_expr (pe_bm PySem.F.plainAttrs_list PySem.F.slot_list_append PySem.F.type_list_append mt_append (pv 3) (pa_cons
      (pe_bm PySem.F.plainAttrs_list PySem.F.slot_list_pop PySem.F.type_list_pop mt_popAt (pv 2) (pa_cons (pe_call G1 hr (by rfl) k1.m k1.k k1.b .nil pass0 (pa_cons (pv 0) (pa_cons (pe_callB call_len_seq (by rfl) ml PySem.boot_len (pa_cons (pv 2) pa_nil)) pa_nil))) pa_nil)) pa_nil)))))
    (pss_one (ps_ret (pv 3))))), ?_⟩
  · obtain ⟨p, l, n, xs, rfl, _⟩ := h
    rfl
  · obtain ⟨p, l, n, xs, rfl, hB, hn, hx, hl, hQ⟩ := h
    have lp : l ≠ p := fun z => by
      obtain ⟨g, m, c, b, hp, _⟩ := id hB
      rw [z, hp] at hl
      have z2 := Option.some.inj hl
      injection z2 with z2
      cases xs with
      | nil => cases z2
      | cons a r =>
        cases r with
        | nil => cases z2
        | cons b' r =>
          simp only [List.map_cons, List.cons.injEq] at z2
          cases z2.2.1
    -- the two lists
    refine ⟨_, rfl, l, _, rfl, .inl (sq_of hl), fun a na => ⟨Nat.zero_le _, fun b nb => ⟨_, _, rfl, ?_⟩⟩⟩
    have e2 : Ex H0 (upd (upd H0 a (.lst (xs.map natV))) b (.lst [])) := (Ex.new na).trans (Ex.new nb)
    have ab : a ≠ b := fun z => by
      rw [z, upd_same] at nb
      cases nb
    have ha2 : upd (upd H0 a (.lst (xs.map natV))) b (.lst []) a = some (.lst (xs.map natV)) := by rw [upd_ne ab]; exact upd_same
    have hb2 : upd (upd H0 a (.lst (xs.map natV))) b (.lst []) b = some (.lst []) := upd_same
    have nb0 : H0 b = none := fresh_back (Ex.new na) nb
    have hB2 := hB.mono e2
    generalize upd (upd H0 a (.lst (xs.map natV))) b (.lst []) = H1 at e2 ha2 hb2 hB2 ⊢
    obtain ⟨o, hpo⟩ := hB.some
    have ap : a ≠ p := (ne_of_none hpo na).symm
    have bp : b ≠ p := (ne_of_none hpo nb0).symm
    refine q_while (fun (m : Nat) (σ' : L2.St) (H' : Hp) => ∃ zs ws : List Nat, m = zs.length ∧ σ' = [some (.ref p), some (.ref l), some (.ref a), some (.ref b)] ∧ Fr (One p) H0 H' ∧ Bx H' p (n + ws.length) ∧ H' a = some (.lst (zs.map natV)) ∧ H' b = some (.lst (ws.map natV)) ∧ (ws ++ zs).Perm xs) xs.length
      ⟨xs, [], rfl, rfl, Fr.of e2, hB2, ha2, hb2, List.Perm.refl _⟩ fun m σ' H' hW => ?_
    obtain ⟨zs, ws, rfl, rfl, fr, hB', ha', hb', pm⟩ := hW
    have pl := pm.length_eq
    rw [List.length_append] at pl
    refine ⟨_, et_neNil (ds := zs.map natD) (ev_var rfl) (sq_of ha') (dpAll_nats zs) sh_nats, fun hb H2 e2 => ?_, fun hb H2 e2 => ?_⟩
    · refine ⟨fun (σ2 : L2.St) (H2 : Hp) => ∃ m', m' < zs.length ∧ ∃ zs ws : List Nat, m' = zs.length ∧ σ2 = [some (.ref p), some (.ref l), some (.ref a), some (.ref b)] ∧ Fr (One p) H0 H2 ∧ Bx H2 p (n + ws.length) ∧ H2 a = some (.lst (zs.map natV)) ∧ H2 b = some (.lst (ws.map natV)) ∧ (ws ++ zs).Perm xs, fun σ2 H2 z => z, ?_⟩
      have z0 : 0 < zs.length := by
        cases zs with
        | nil => cases hb
        | cons _ _ => simp
      have ha2 := e2 _ _ ha'
      have hb2 := e2 _ _ hb'
      refine ⟨_, rfl, .inl ⟨rfl, _, sq_of hb2⟩, _, rfl, .inl ⟨rfl, _, sq_of ha2⟩, _, rfl, _, rfl, a, zs.map natV, rfl, .inl (sq_of ha2), p, ((zs.map natV).length : Int), n + ws.length, rfl, hB'.mono e2, by omega, by rw [List.length_map]; omega, by rw [List.length_map]; omega, fun r H3 hr3 fr3 hB3 => ?_⟩
      rw [List.length_map] at hr3
      have hr3 : r < zs.length := by omega
      have ha3 : H3 a = some (.lst (zs.map natV)) := fr3 _ _ ap ha2
      have hb3 : H3 b = some (.lst (ws.map natV)) := fr3 _ _ bp hb2
      have hzr : zs[r]? = some zs[r] := List.getElem?_eq_getElem hr3
      refine ⟨a, zs.map natV, (r : Int), r, natV zs[r], rfl, rfl, ha3, by omega, by omega, ?_, by rw [List.getElem?_map, hzr]; rfl, ?_⟩
      · have c1 : ¬ ((r : Int) < 0) := by omega
        simp only [seqIndex?, c1, if_false]
        rw [if_pos]
        · simp
        · simp
          omega
      · refine ⟨b, ws.map natV, natV zs[r], rfl, rfl, by rw [upd_ne ab.symm]; exact hb3, sz_lt (by rw [List.length_map]; omega), ?_⟩
        have e1 : (zs.map natV).eraseIdx r = (zs.eraseIdx r).map natV := erase_map r zs
        have e2' : ws.map natV ++ [natV zs[r]] = (ws ++ [zs[r]]).map natV := by rw [List.map_append]; rfl
        refine ⟨zs.length - 1, by omega, zs.eraseIdx r, ws ++ [zs[r]], ?_, rfl, Fr.mut (Fr.mut ((fr.trans (Fr.of e2)).trans fr3) na) nb0, ?_, ?_, ?_, ?_⟩
        · rw [List.length_eraseIdx, if_pos hr3]
        · rw [List.length_append, List.length_singleton, ← Nat.add_assoc]
          obtain ⟨g, m, c, b', h1, h2⟩ := hB3
          exact ⟨g, m, c, b', by rw [upd_ne bp.symm, upd_ne ap.symm]; exact h1, h2⟩
        · rw [upd_ne ab, upd_same, e1]
        · rw [upd_same, e2']
        · refine List.Perm.trans ?_ pm
          rw [List.append_assoc]
          refine List.Perm.append_left ws ?_
          exact erase_perm r zs hr3
    · have z : zs = [] := by
        cases zs with
        | nil => rfl
        | cons _ _ => cases hb
      subst z
      rw [List.append_nil] at pm
      refine s_ret (ev_var rfl) fun H3 e3 => hQ b ws H3 pm nb0 (fr.trans (Fr.of (e2.trans e3))) ?_ (e3 _ _ (e2 _ _ hb'))
      have := (hB'.mono (e2.trans e3))
      rw [← pm.length_eq]
      exact this
end
end Tr

set_option maxHeartbeats 4000000
/-! Trees that grow house by house; sorted lists that are one. -/
namespace Km
/-- two houses in order -/
def srt (x y : Nat) : Nat × Nat := if x < y then (x, y) else (y, x)
theorem srt_l {x y : Nat} (h : x ≠ y) : (srt x y).1 < (srt x y).2 := by
  unfold srt
  split
  · assumption
  · show y < x
    omega
def adj (es : List (Nat × Nat)) (a b : Nat) : Prop := (a, b) ∈ es ∨ (b, a) ∈ es
theorem adj_srt {x y : Nat} {es : List (Nat × Nat)} {a b : Nat} : adj (srt x y :: es) a b ↔ adj es a b ∨ (a = x ∧ b = y) ∨ (a = y ∧ b = x) := by
  unfold adj srt
  split <;> simp only [List.mem_cons, Prod.mk.injEq]
  · constructor
    · rintro ((h | h) | (h | h))
      · exact .inr (.inl h)
      · exact .inl (.inl h)
      · exact .inr (.inr ⟨h.2, h.1⟩)
      · exact .inl (.inr h)
    · rintro ((h | h) | h | h)
      · exact .inl (.inr h)
      · exact .inr (.inr h)
      · exact .inl (.inl h)
      · exact .inr (.inl ⟨h.2, h.1⟩)
  · constructor
    · rintro ((h | h) | (h | h))
      · exact .inr (.inr h)
      · exact .inl (.inl h)
      · exact .inr (.inl ⟨h.2, h.1⟩)
      · exact .inl (.inr h)
    · rintro ((h | h) | h | h)
      · exact .inl (.inr h)
      · exact .inr (.inr h)
      · exact .inr (.inl ⟨h.2, h.1⟩)
      · exact .inl (.inl h)
inductive Grow : List Nat → List (Nat × Nat) → Prop
  | one (x : Nat) : Grow [x] []
  | add {vs : List Nat} {es : List (Nat × Nat)} {x y : Nat} : Grow vs es → x ∉ vs → y ∈ vs → Grow (x :: vs) (srt x y :: es)
theorem Grow.ends {vs : List Nat} {es : List (Nat × Nat)} (g : Grow vs es) : ∀ {a b : Nat}, adj es a b → a ∈ vs ∧ b ∈ vs := by
  induction g with
  | one x =>
    intro a b h
    rcases h with h | h <;> cases h
  | @add vs es x y g nx hy ih =>
    intro a b h
    rcases adj_srt.mp h with h | ⟨rfl, rfl⟩ | ⟨rfl, rfl⟩
    · exact ⟨List.mem_cons_of_mem _ (ih h).1, List.mem_cons_of_mem _ (ih h).2⟩
    · exact ⟨List.mem_cons_self, List.mem_cons_of_mem _ hy⟩
    · exact ⟨List.mem_cons_of_mem _ hy, List.mem_cons_self⟩
def RootG (vs : List Nat) (es : List (Nat × Nat)) (r : Nat) (par rank : Nat → Nat) : Prop :=
  (∀ x ∈ vs, x ≠ r → par x ∈ vs ∧ adj es x (par x) ∧ rank (par x) < rank x) ∧ ∀ a b, adj es a b → (a ≠ r ∧ par a = b) ∨ (b ≠ r ∧ par b = a)
theorem Grow.root {vs : List Nat} {es : List (Nat × Nat)} (g : Grow vs es) : ∀ r ∈ vs, ∃ par rank, RootG vs es r par rank := by
  induction g with
  | one x =>
    intro r hr
    rw [List.mem_singleton] at hr
    subst hr
    refine ⟨id, id, fun z hz nz => absurd (List.mem_singleton.mp hz) nz, fun a b h => ?_⟩
    rcases h with h | h <;> cases h
  | @add vs es x y g nx hy ih =>
    intro r hr
    have xy : x ≠ y := fun z => nx (z ▸ hy)
    rcases List.mem_cons.mp hr with rfl | hr
    · obtain ⟨par, rank, h1, h2⟩ := ih y hy
      refine ⟨fun z => if z = y then r else par z, fun z => if z = r then 0 else rank z + 1, fun z hz nz => ?_, fun a b h => ?_⟩
      · have hz : z ∈ vs := (List.mem_cons.mp hz).resolve_left nz
        by_cases c : z = y
        · subst c
          refine ⟨by simp, adj_srt.mpr (.inr (.inr ⟨rfl, by simp⟩)), ?_⟩
          simp [nz]
        · obtain ⟨q1, q2, q3⟩ := h1 z hz c
          have pr : par z ≠ r := fun e => nx (e ▸ q1)
          refine ⟨by simp only [c, if_false]; exact List.mem_cons_of_mem _ q1, adj_srt.mpr (.inl (by simp only [c, if_false]; exact q2)), ?_⟩
          simp only [c, if_false, nz, pr]
          omega
      · rcases adj_srt.mp h with h | ⟨rfl, rfl⟩ | ⟨rfl, rfl⟩
        · have e := g.ends h
          have ar : a ≠ r := fun z => nx (z ▸ e.1)
          have br : b ≠ r := fun z => nx (z ▸ e.2)
          rcases h2 a b h with ⟨q1, q2⟩ | ⟨q1, q2⟩
          · exact .inl ⟨ar, by simp only [q1, if_false]; exact q2⟩
          · exact .inr ⟨br, by simp only [q1, if_false]; exact q2⟩
        · exact .inr ⟨xy.symm, by simp⟩
        · exact .inl ⟨xy.symm, by simp⟩
    · obtain ⟨par, rank, h1, h2⟩ := ih r hr
      have xr : x ≠ r := fun z => nx (z ▸ hr)
      refine ⟨fun z => if z = x then y else par z, fun z => if z = x then rank y + 1 else rank z, fun z hz nz => ?_, fun a b h => ?_⟩
      · by_cases c : z = x
        · subst c
          refine ⟨by simp [hy], adj_srt.mpr (.inr (.inl ⟨rfl, by simp⟩)), ?_⟩
          simp [xy.symm]
        · have hz : z ∈ vs := (List.mem_cons.mp hz).resolve_left c
          obtain ⟨q1, q2, q3⟩ := h1 z hz nz
          have px : par z ≠ x := fun e => nx (e ▸ q1)
          refine ⟨by simp only [c, if_false]; exact List.mem_cons_of_mem _ q1, adj_srt.mpr (.inl (by simp only [c, if_false]; exact q2)), ?_⟩
          simp only [c, if_false, px]
          exact q3
      · rcases adj_srt.mp h with h | ⟨rfl, rfl⟩ | ⟨rfl, rfl⟩
        · have e := g.ends h
          have ax : a ≠ x := fun z => nx (z ▸ e.1)
          have bx : b ≠ x := fun z => nx (z ▸ e.2)
          rcases h2 a b h with ⟨q1, q2⟩ | ⟨q1, q2⟩
          · exact .inl ⟨q1, by simp only [ax, if_false]; exact q2⟩
          · exact .inr ⟨q1, by simp only [bx, if_false]; exact q2⟩
        · exact .inl ⟨xr, by simp⟩
        · exact .inr ⟨xr, by simp⟩
theorem Grow.len {vs : List Nat} {es : List (Nat × Nat)} (g : Grow vs es) : es.length + 1 = vs.length := by
  induction g with
  | one x => rfl
  | add _ _ _ ih => rw [List.length_cons, List.length_cons, ih]
theorem Grow.nodup {vs : List Nat} {es : List (Nat × Nat)} (g : Grow vs es) : es.Nodup := by
  induction g with
  | one x => exact List.nodup_nil
  | @add vs es x y g nx hy ih =>
    refine List.nodup_cons.mpr ⟨fun h => ?_, ih⟩
    have a : adj es x y := by
      unfold srt at h
      split at h
      · exact .inl h
      · exact .inr h
    exact nx (g.ends a).1
theorem Grow.lt {vs : List Nat} {es : List (Nat × Nat)} (g : Grow vs es) : ∀ p ∈ es, p.1 < p.2 ∧ p.2 ∈ vs := by
  induction g with
  | one x => intro p h; cases h
  | @add vs es x y g nx hy ih =>
    intro p h
    rcases List.mem_cons.mp h with rfl | h
    · refine ⟨srt_l fun z => nx (z ▸ hy), ?_⟩
      unfold srt
      split
      · exact List.mem_cons_of_mem _ hy
      · exact List.mem_cons_self
    · exact ⟨(ih p h).1, List.mem_cons_of_mem _ (ih p h).2⟩
/-- the k-th of the names hangs at one ahead of it -/
theorem grow_names {nm : List Nat} (nd : nm.Nodup) (bs : Nat → Nat) (hb : ∀ k, 1 ≤ k → k < nm.length → bs k < k) : ∀ m, m < nm.length → Grow (nm.take (m + 1)).reverse (((List.range m).map fun i => srt (nm.getD (i + 1) 0) (nm.getD (bs (i + 1)) 0)).reverse)
  | 0, h => by
    cases nm with
    | nil => cases h
    | cons a r => exact .one a
  | m + 1, h => by
    have ih := grow_names nd bs hb m (by omega)
    have e1 : nm[m + 1]? = some nm[m + 1] := List.getElem?_eq_getElem h
    have g1 : nm.getD (m + 1) 0 = nm[m + 1] := by rw [List.getD_eq_getElem?_getD, e1]; rfl
    have hb' := hb (m + 1) (by omega) h
    have hbl : bs (m + 1) < nm.length := by omega
    have e2 : nm[bs (m + 1)]? = some nm[bs (m + 1)] := List.getElem?_eq_getElem hbl
    have g2 : nm.getD (bs (m + 1)) 0 = nm[bs (m + 1)] := by rw [List.getD_eq_getElem?_getD, e2]; rfl
    rw [List.take_succ, e1, Option.toList_some, List.reverse_append, List.range_succ, List.map_append, List.reverse_append]
    simp only [List.map_cons, List.map_nil, List.reverse_cons, List.reverse_nil, List.nil_append, List.singleton_append]
    rw [g1, g2]
    refine .add ih (fun z => ?_) ?_
    · rw [List.mem_reverse] at z
      obtain ⟨i, hi⟩ := List.mem_iff_getElem?.mp z
      have il : i < m + 1 := by
        have := (List.getElem?_eq_some_iff.mp hi).1
        rw [List.length_take] at this
        omega
      rw [List.getElem?_take_of_lt il] at hi
      have := (List.getElem?_inj (by omega) nd).mp (hi.trans e1.symm)
      omega
    · rw [List.mem_reverse]
      refine List.mem_iff_getElem?.mpr ⟨bs (m + 1), ?_⟩
      rw [List.getElem?_take_of_lt hb', e2]
/-! sorted lists -/
theorem perm_eq {α : Type} {r : α → α → Prop} (anti : ∀ a b, r a b → r b a → a = b) : ∀ {l m : List α}, l.Perm m → l.Pairwise r → m.Pairwise r → l = m
  | [], m, p, _, _ => by rw [List.nil_perm.mp p]
  | a :: l, [], p, _, _ => by cases p.length_eq
  | a :: l, b :: m, p, hl, hm => by
    have hl' := List.pairwise_cons.mp hl
    have hm' := List.pairwise_cons.mp hm
    have e : a = b := by
      have ha : a ∈ b :: m := p.mem_iff.mp List.mem_cons_self
      have hb : b ∈ a :: l := p.mem_iff.mpr List.mem_cons_self
      rcases List.mem_cons.mp ha with h | h
      · exact h
      · rcases List.mem_cons.mp hb with h' | h'
        · exact h'.symm
        · exact anti a b (hl'.1 b h') (hm'.1 a h)
    subst e
    rw [perm_eq anti (List.perm_cons a |>.mp p) hl'.2 hm'.2]
/-- first by the first -/
def leP (p q : Nat × Nat) : Prop := p.1 < q.1 ∨ (p.1 = q.1 ∧ p.2 ≤ q.2)
theorem leP_anti (p q : Nat × Nat) (h : leP p q) (k : leP q p) : p = q := by
  unfold leP at h k
  exact Prod.ext (by omega) (by omega)
end Km
namespace Tr
open PySem PySem.Spec PyProof.Rows L2 LK Evl
/-- the world of a tree that grew -/
theorem wd_grow {w : Km.W} {vs : List Nat} {es : List (Nat × Nat)} (g : Km.Grow vs es) (hv : vs.Perm (List.range w.n)) (hp : w.ps.Perm es) (hs : w.ps.Pairwise Km.leP) (n16 : w.n ≤ 16) (few : w.hs.length ≤ 12) (hm : ∀ h ∈ w.hs, h < w.n) (cl : w.cs.length = w.hs.length) (c6 : ∀ c ∈ w.cs, c < 6) : Wd w := by
  have mv : ∀ x, x ∈ vs ↔ x < w.n := fun x => by rw [hv.mem_iff, List.mem_range]
  have nb : ∀ a b, Km.nb w a b ↔ Km.adj es a b := fun a b => by
    unfold Km.nb Km.adj
    rw [hp.mem_iff, hp.mem_iff]
  have lv : vs.length = w.n := by rw [hv.length_eq, List.length_range]
  have root : ∀ r, r < w.n → ∃ par rank, Km.RootAt w r par rank := fun r hr => by
    obtain ⟨par, rank, h1, h2⟩ := g.root r ((mv r).mpr hr)
    refine ⟨par, rank, fun x hx nx => ?_, fun a b h => h2 a b ((nb a b).mp h)⟩
    obtain ⟨q1, q2, q3⟩ := h1 x ((mv x).mpr hx) nx
    exact ⟨(mv _).mp q1, (nb _ _).mpr q2, q3⟩
  have each : ∀ p ∈ w.ps, p.1 < p.2 ∧ p.2 < w.n := fun p h => by
    obtain ⟨a, b⟩ := g.lt p (hp.mem_iff.mp h)
    exact ⟨a, (mv _).mp b⟩
  have lp : w.ps.length + 1 = w.n := by rw [hp.length_eq, g.len, lv]
  have nd : w.ps.Nodup := hp.nodup_iff.mpr g.nodup
  refine ⟨⟨by omega, n16, fun p h => ?_, root, few, hm, cl, c6⟩, ⟨lp, each, fun i p q e1 e2 => ?_⟩, fun t h ht hh => ?_⟩
  · obtain ⟨a, b⟩ := each p h
    exact ⟨by omega, b, a⟩
  · have h1 := (List.getElem?_eq_some_iff.mp e1).1
    have h2 := (List.getElem?_eq_some_iff.mp e2).1
    have z := List.pairwise_iff_getElem.mp hs i (i + 1) h1 h2 (by omega)
    have g1 := (List.getElem?_eq_some_iff.mp e1).2
    have g2 := (List.getElem?_eq_some_iff.mp e2).2
    rw [g1, g2] at z
    rcases z with z | ⟨z1, z2⟩
    · exact .inl z
    · refine .inr ⟨z1, ?_⟩
      rcases Nat.lt_or_ge p.2 q.2 with c | c
      · exact c
      · have e : p = q := Prod.ext z1 (by omega)
        subst e
        have := (List.getElem?_inj h1 nd).mp (e1.trans e2.symm)
        omega
  · obtain ⟨par, rank, h1, h2⟩ := root t ht
    have hr : ∀ p ∈ w.ps, p.1 < w.n ∧ p.2 < w.n := fun p h => by
      obtain ⟨a, b⟩ := each p h
      exact ⟨by omega, b⟩
    have go : ∀ (m h : Nat), rank h ≤ m → h < w.n → Dfs.Can (adjOf w.n w.ps) t h := by
      intro m
      induction m with
      | zero =>
        intro h hm hh
        by_cases c : h = t
        · rw [c]; exact .here
        · have := (h1 h hh c).2.2
          omega
      | succ m ih =>
        intro h hm hh
        by_cases c : h = t
        · rw [c]; exact .here
        · obtain ⟨q1, q2, q3⟩ := h1 h hh c
          exact .on (ih (par h) (by omega) q1) ((mem_adj hr q1).mpr q2)
    exact go _ h (Nat.le_refl _) hh
end Tr

set_option maxHeartbeats 4000000
/-! ### comprehensions that draw; sorted pairs -/
namespace Tr
open PySem PySem.Spec PyProof.Rows L2 LK Evl
theorem fr_hid {F : Addr → Prop} {H H' : Hp} (h : Fr F H H') : Ex (hidF F H) (hidF F H') := h.hid
theorem hd1_ne {p a : Addr} {H : Hp} (h : a ≠ p) : hidF (One p) H a = H a := hidF_eq (F := One p) h
theorem hd1_upd {p D : Addr} {H : Hp} {o : HO} (Dp : D ≠ p) : hidF (One p) (upd H D o) = upd (hidF (One p) H) D o := by
  funext a
  by_cases c : a = D
  · subst c
    rw [hd1_ne Dp, upd_same, upd_same]
  · rw [upd_ne c]
    by_cases c2 : a = p
    · unfold hidF
      rw [if_pos c2, if_pos c2]
    · rw [hd1_ne c2, hd1_ne c2, upd_ne c]
section
variable {K : PySem.W.Frag} {σ : L2.St} {H H1 : Hp} {p : Addr} {te : TE} {vs : List Nat} {j : Nat} {Q : VK}
/-- what the turns keep: the box, the new list, what is in it -/
def CwB (p : Addr) (H1 : Hp) (D : Addr) (n0 c : Nat) (FF : Nat → V → Hp → Prop) (i : Nat) (H : Hp) : Prop := Fr (One p) H1 H ∧ Bx H p (n0 + c * i) ∧ ∃ us, H D = some (.lst us) ∧ All2 (fun k v => FF k v (hidF (One p) H)) (List.range i) us
theorem lcB {J : It} {n : Nat} {G : Hp → Prop} {f : Nat → V} (w : Walk J n G (YFn f)) (n0 c : Nat) (FF : Nat → V → Hp → Prop) (hn : n ≤ 40000) (hw : ∀ x, wipe ((wipe σ vs).set j (some x)) vs = wipe σ vs) (hB : Bx H1 p n0) (hG : ∀ H, Fr (One p) H1 H → G H)
    (mono : ∀ i v H H', Ex H H' → FF i v H → FF i v H') (mono2 : ∀ i v H D xs ys, H D = some (.lst xs) → FF i v H → FF i v (upd H D (.lst ys)))
    (he : ∀ i H, i < n → Fr (One p) H1 H → Bx H p (n0 + c * i) → ∀ Q : VK, (∀ v H2, Fr (One p) H H2 → Bx H2 p (n0 + c * (i + 1)) → FF i v (hidF (One p) H2) → Q v H2) → te ((wipe σ vs).set j (some (f i))) H Q)
    (q : ∀ D us H2, H1 D = none → Fr (One p) H1 H2 → Bx H2 p (n0 + c * n) → H2 D = some (.lst us) → All2 (fun k v => FF k v (hidF (One p) H2)) (List.range n) us → Q (.ref D) H2) :
    ∀ D, H1 D = none → ∃ W : Nat → Nat → Hp → Prop, (∃ m, W 0 m (upd H1 D (.lst []))) ∧ ∀ i m H, W i m H →
      (J.stop i H ∧ Q (.ref D) H) ∨ (J.go i H ∧ ∃ Nx : Hp → Prop, (∀ H', Nx H' → ∃ m', m' < m ∧ W (i + 1) m' H') ∧ ∀ x H', J.yld i H x H' → gName j x (wipe σ vs) H' fun σ2 H2 => wipe σ2 vs = wipe σ vs ∧ tYes σ2 H2 fun b H3 =>
        if b = true then te σ2 H3 fun y H4 => ∃ acc, H4 D = some (.lst acc) ∧ acc.length < sizeLine ∧ Nx (upd H4 D (.lst (acc ++ [y]))) else Nx H3) := by
  intro D hD
  obtain ⟨o, hpo⟩ := hB.some
  have Dp : D ≠ p := (ne_of_none hpo hD).symm
  refine lc_it w (CwB p H1 D n0 c FF) ⟨Fr.of (Ex.new hD), (hB.mono (Ex.new hD)).up (by omega), [], upd_same, .nil⟩ (fun i H _ q => hG H q.1) (fun i x H H' hi q yy => ?_) fun H q' => ?_
  · obtain ⟨rfl, rfl⟩ := yy
    obtain ⟨fr, hB', us, hu, ha⟩ := q
    refine ⟨hw _, ?_⟩
    unfold tYes
    simp only [↓reduceIte]
    refine he i _ hi fr hB' _ fun v H2 fr2 hB2 hv => ?_
    have hu2 := fr2 _ _ Dp hu
    have l := ha.len
    rw [List.length_range] at l
    have hid2 := hd1_upd (H := H2) (o := .lst (us ++ [v])) Dp
    have hh : hidF (One p) H2 D = some (.lst us) := by rw [hd1_ne Dp]; exact hu2
    refine ⟨us, hu2, sz_lt (by omega), Fr.mut (fr.trans fr2) hD, ?_, us ++ [v], upd_same, ?_⟩
    · obtain ⟨g, m, c', b, h1, h2⟩ := hB2
      exact ⟨g, m, c', b, by rw [upd_ne Dp.symm]; exact h1, h2⟩
    · rw [List.range_succ, hid2]
      exact All2.snoc (ha.imp fun k v _ z => mono2 _ _ _ _ _ _ hh (mono _ _ _ _ fr2.hid z)) (mono2 _ _ _ _ _ _ hh hv)
  · obtain ⟨fr, hB', us, hu, ha⟩ := q'
    exact q D us H hD fr hB' hu ha
def tInts : List Int → TA
  | [] => tNil
  | i :: r => tCons (tC (.int i)) (tInts r)
theorem ea_ints : ∀ is : List Int, EvA (tInts is) σ H (is.map V.int)
  | [] => ea_nil
  | i :: r => ea_cons ev_c (ea_ints r)
/-- a draw from a menu -/
theorem menu {is : List Int} {s : Int} {i m : Nat} (hs : s = (is.length : Int)) (h0 : 0 < is.length) (hz : is.length ≤ 100) (hσ : σ[i]? = some (some (.ref p))) (hB : Bx H p m) (hm : m ≤ 100000) (q : ∀ x ∈ is, ∀ H2, Fr (One p) H H2 → Bx H2 p (m + 1) → Q (.int x) H2) :
    tOp (rIxL K) (tLst (tInts is)) (tCall spTake [] E0 (tCons (tVar i) (tCons (tC (.int s)) tNil))) σ H Q :=
  el_lst (ea_ints is) (by rw [List.length_map]; omega) H (Ex.refl H) _ fun a H1 na e1 ha => ⟨_, hσ, p, s, m, rfl, hB.mono e1, hm, by omega, by omega, fun r H2 hr fr hB2 => by
    have rl : r < is.length := by omega
    have hp : p ≠ a := by
      obtain ⟨o, ho⟩ := hB.some
      exact ne_of_none ho na
    refine ⟨a, is.map V.int, (r : Int), .int is[r], rfl, rfl, sq_of (fr _ _ hp.symm ha), atI_nat ?_, q _ (List.getElem_mem rl) H2 ((Fr.of e1).trans fr) hB2⟩
    rw [List.getElem?_map, List.getElem?_eq_getElem rl]
    rfl⟩
/-- sorted(l), l of pairs -/
def keyOf (H : Hp) (x : V) : Int × Int := match x with
  | .ref t => match H t with
    | some (.tup [.int i, .int j]) => (i, j)
    | _ => (0, 0)
  | _ => (0, 0)
theorem key_of {t : Addr} {i j : Int} (h : H t = some (.tup [.int i, .int j])) : keyOf H (.ref t) = (i, j) := by
  unfold keyOf
  simp only [h]
theorem sort_prs {a : Addr} {xs : List V} {ps : List (Nat × Nat)} (ha : SqL K H a xs) (hp : Tps H ps xs) (q : ∀ (qs : List (Nat × Nat)) ys r, qs.Perm ps → qs.Pairwise Km.leP → Tps H qs ys → H r = none → Q (.ref r) (upd H r (.lst ys))) : rSortedPO K [.ref a] H Q := by
  have all : ∀ x ∈ xs, ∃ t i j, x = V.ref t ∧ H t = some (.tup [natV i, natV j]) := fun x hx => by
    obtain ⟨pr, _, t, e, ht⟩ := hp.mem hx
    exact ⟨t, pr.1, pr.2, e, ht⟩
  refine ⟨a, xs, keyOf H, rfl, ha, fun x hx => ?_, fun ys r hs hb nr => ?_⟩
  · obtain ⟨t, i, j, rfl, ht⟩ := all x hx
    exact ⟨t, rfl, by rw [key_of ht]; exact ht⟩
  · let g : V → Nat × Nat := fun x => ((keyOf H x).1.toNat, (keyOf H x).2.toNat)
    have gk : ∀ {t : Addr} {i j : Nat}, H t = some (.tup [natV i, natV j]) → g (.ref t) = (i, j) := fun {t i j} ht => by
      show ((keyOf H (.ref t)).1.toNat, (keyOf H (.ref t)).2.toNat) = _
      rw [key_of ht]
      simp
    have ally : ∀ y ∈ ys, ∃ t i j, y = V.ref t ∧ H t = some (.tup [natV i, natV j]) := fun y hy => all y (hb.perm.mem_iff.mp hy)
    have e1 : xs.map g = ps := by
      have go : ∀ (ps : List (Nat × Nat)) (xs : List V), Tps H ps xs → xs.map g = ps := by
        intro ps xs h
        induction h with
        | nil => rfl
        | cons h _ ih =>
          obtain ⟨t, rfl, ht⟩ := h
          rw [List.map_cons, ih, gk ht]
      exact go ps xs hp
    have e2 : Tps H (ys.map g) ys := by
      have go : ∀ ys : List V, (∀ y ∈ ys, ∃ t i j, y = V.ref t ∧ H t = some (.tup [natV i, natV j])) → Tps H (ys.map g) ys := by
        intro ys
        induction ys with
        | nil => intro _; exact .nil
        | cons y ys ih =>
          intro h
          obtain ⟨t, i, j, rfl, ht⟩ := h y List.mem_cons_self
          refine .cons ⟨t, rfl, ?_⟩ (ih fun z hz => h z (List.mem_cons_of_mem _ hz))
          rw [gk ht]
          exact ht
      exact go ys ally
    refine q (ys.map g) ys r (by rw [← e1]; exact hb.perm.map g) ?_ e2 nr
    rw [List.pairwise_map]
    refine List.Pairwise.imp_of_mem (fun {a b} ha hb' h => ?_) hs
    obtain ⟨t, i, j, rfl, ht⟩ := ally a ha
    obtain ⟨u, k, l, rfl, hu⟩ := ally b hb'
    rw [gk ht, gk hu]
    have h := SrtO.lexB_no.mp h
    rw [key_of ht, key_of hu] at h
    unfold Km.leP
    dsimp only at h ⊢
    omega
end
end Tr

set_option maxHeartbeats 4000000
/-! ### the law's worlds (law k04): _law_world -/
namespace Tr
open PySem PySem.Spec PyProof.Rows L2 LK Evl
abbrev sWorld : Stmt := top 50
abbrev nWorld : List Str := ["box", "great", "houses", "many", "kind", "pairs", "names", "roads", "homes", "k", "a", "b", "turn"]
theorem scWorld : FnScope nWorld ["box", "great"] (defScope sWorld) := ⟨rfl, rfl, rfl, by decide +kernel, rfl, by decide +kernel, by decide +kernel⟩
/-- a world of the law at a -/
def WorldAt (H : Hp) (a : Addr) (w : Km.W) : Prop := ∃ (r h c : Addr) (ts : List V), H a = some (.lst [natV w.n, .ref r, .ref h, .ref c]) ∧ H r = some (.lst ts) ∧ Tps H w.ps ts ∧ H h = some (.lst (w.hs.map natV)) ∧ H c = some (.lst (w.cs.map natV))
theorem WorldAt.mono {H H' : Hp} {a : Addr} {w : Km.W} (e : Ex H H') (h : WorldAt H a w) : WorldAt H' a w := by
  obtain ⟨r, h', c, ts, h1, h2, h3, h4, h5⟩ := h
  exact ⟨r, h', c, ts, e _ _ h1, e _ _ h2, h3.mono e, e _ _ h4, e _ _ h5⟩
def spWorld (K : PySem.W.Frag) : Sp := fun vs H Q _ => ∃ (p : Addr) (g : Bool) (m : Nat), vs = [.ref p, .bl g] ∧ Bx H p m ∧ m ≤ 90000 ∧ ∀ (a : Addr) (w : Km.W) H2, H a = none → Fr (One p) H H2 → Bx H2 p (m + 80) → WorldAt (hidF (One p) H2) a w → Wd w → Q (.ref a) H2
theorem all2_mapL {α β : Type} {R : α → V → Prop} {g : β → α} : ∀ {l : List β} {m : List V}, All2 (fun b v => R (g b) v) l m → All2 R (l.map g) m
  | _, _, .nil => .nil
  | _, _, .cons h r => .cons h (all2_mapL r)
theorem all2_pick {R : Nat → V → Nat → Prop} : ∀ {l : List Nat} {m : List V}, l.Nodup → All2 (fun k v => ∃ b, R k v b) l m → ∃ f : Nat → Nat, All2 (fun k v => R k v (f k)) l m
  | _, _, _, .nil => ⟨id, .nil⟩
  | a :: l, _, nd, .cons ⟨b, hb⟩ r => by
    obtain ⟨na, nl⟩ := List.nodup_cons.mp nd
    obtain ⟨f, hf⟩ := all2_pick nl r
    refine ⟨fun k => if k = a then b else f k, .cons (by dsimp only; rw [if_pos rfl]; exact hb) (hf.imp fun k v hk h => ?_)⟩
    have ka : k ≠ a := fun z => na (by rw [← z]; exact hk)
    dsimp only
    rw [if_neg ka]
    exact h
theorem all2_nat {p : Nat → Prop} : ∀ {l : List Nat} {m : List V}, All2 (fun _ v => ∃ h, v = natV h ∧ p h) l m → ∃ hs : List Nat, m = hs.map natV ∧ hs.length = l.length ∧ ∀ h ∈ hs, p h
  | _, _, .nil => ⟨[], rfl, rfl, fun _ h => by cases h⟩
  | _, _, .cons ⟨h, e, hp⟩ r => by
    obtain ⟨hs, e2, e3, e4⟩ := all2_nat r
    refine ⟨h :: hs, by rw [e, e2]; rfl, by rw [List.length_cons, List.length_cons, e3], fun x hx => ?_⟩
    rcases List.mem_cons.mp hx with rfl | hx
    · exact hp
    · exact e4 x hx
theorem sort2 {x y : Nat} {ns : List Int} (hp : ns.Perm [(x : Int), (y : Int)]) (hs : ns.Pairwise (· ≤ ·)) : ns.map V.int = [natV (Km.srt x y).1, natV (Km.srt x y).2] := by
  have e : ns = [((Km.srt x y).1 : Int), ((Km.srt x y).2 : Int)] := by
    refine Km.perm_eq (r := (· ≤ ·)) (fun a b h k => Int.le_antisymm h k) (hp.trans ?_) hs ?_
    · unfold Km.srt
      split
      · exact List.Perm.refl _
      · exact List.Perm.swap _ _ _
    · unfold Km.srt
      split <;> simp <;> omega
  rw [e]
  rfl
def rTupOf (K : PySem.W.Frag) : List V → Hp → VK → Prop := fun xs H Q => ∃ p ys, xs = [.ref p] ∧ ((SqL K H p ys ∧ ∀ l, H l = none → Q (.ref l) (upd H l (.tup ys))) ∨ (SqT K H p ys ∧ Q (.ref p) H))
theorem rgV_nat (n : Nat) : rgV 0 (n : Int) = (List.range n).map natV := by
  unfold rgV
  have : ((n : Int) - 0).toNat = n := by omega
  rw [this]
  refine List.map_congr_left fun i _ => ?_
  show V.int (0 + (i : Int)) = V.int (i : Int)
  rw [Int.zero_add]
section
variable {P : Program} {w : World} {K : PySem.W.Frag} {mg : Str → Option Value} {base : Heap} {f f1 f2 : Addr} {fd d1 d2 : FuncData}
theorem q_asgQ {tz : TS} {D : Ends} {σ : L2.St} {H : Hp} {te : TE} {i : Nat} (PP : V → Hp → Prop) (h : ∀ Q : VK, (∀ v H2, PP v H2 → Q v H2) → te σ H Q) (k : ∀ v H2, PP v H2 → tz D (σ.set i (some v)) H2) : tSeq (tAsg te (gName i)) tz D σ H := h _ k
theorem q_draw {tz : TS} {D : Ends} {σ : L2.St} {H : Hp} {te : TE} {p : Addr} {i j m : Nat} {s : Int} {E : XK} (hσ : σ[i]? = some (some (.ref p))) (hs : Ev te σ H (.int s)) (hB : Bx H p m) (hm : m ≤ 100000) (s0 : 0 < s) (s1 : s ≤ 1000) (k : ∀ (r : Nat) H2, (r : Int) < s → Fr (One p) H H2 → Bx H2 p (m + 1) → tz D (σ.set j (some (.int (r : Int)))) H2) :
    tSeq (tAsg (tCall spTake [] E (tCons (tVar i) (tCons te tNil))) (gName j)) tz D σ H := ⟨_, hσ, hs H (Ex.refl H) _ fun H1 e1 => ⟨p, s, m, rfl, hB.mono e1, hm, s0, s1, fun r H2 hr fr hB2 => k r H2 hr ((Fr.of e1).trans fr) hB2⟩⟩
theorem tcb1 {σ : L2.St} {H : Hp} {te : TE} {r : List V → Hp → VK → Prop} {Q : VK} (PP : V → Hp → Prop) (h : ∀ Q : VK, (∀ v H2, PP v H2 → Q v H2) → te σ H Q) (k : ∀ v H2, PP v H2 → r [v] H2 Q) : tCB r (tCons te tNil) σ H Q := h _ fun v H2 p => k v H2 p
theorem useQ {σ : L2.St} {H : Hp} {te : TE} {Q : VK} (PP : V → Hp → Prop) (h : ∀ Q : VK, (∀ v H2, PP v H2 → Q v H2) → te σ H Q) (k : ∀ v H2, PP v H2 → Q v H2) : te σ H Q := h Q k
theorem ok_world (F : FnP K "_law_world" sWorld f fd) (G1 : FnOk P w K mg base CX0 1 f1 d1 ["box", "many"] spTake) (k1 : Kd K mg "_law_take" ["box", "many"] f1 d1) (G2 : FnOk P w K mg base CX0 2 f2 d2 ["box", "items"] spMixed) (k2 : Kd K mg "_law_mixed" ["box", "items"] f2 d2)
    (mr : mg "range" = none) (mli : mg "list" = none) (mso : mg "sorted" = none) (mt : mg "tuple" = none) : FnOk P w K mg base CX0 3 f fd ["box", "great"] (spWorld K) := by
  refine F.ok scWorld (fun vs H Q E h => ?_) fun cdv A outer s H0 vs Q E hr h => ⟨_, PSs.nox (
    pss_cons (ps_asg (pe_tup (pa_cons (pe_ix ix_list (pe_lst (pa_cons pe_int (pa_cons pe_int (pa_cons pe_int (pa_cons pe_int (pa_cons pe_int (pa_cons pe_int (pa_cons pe_int (pa_cons pe_int pa_nil))))))))) (pe_call G1 (hr.mono (by decide)) (by rfl) k1.m k1.k k1.b .nil pass0 (pa_cons (pv 0) (pa_cons pe_int pa_nil))) (fun _ _ => rfl))
        (pa_cons (pe_ix ix_list (pe_lst (pa_cons pe_int (pa_cons pe_int (pa_cons pe_int (pa_cons pe_int (pa_cons pe_int (pa_cons pe_int (pa_cons pe_int (pa_cons pe_int pa_nil))))))))) (pe_call G1 (hr.mono (by decide)) (by rfl) k1.m k1.k k1.b .nil pass0 (pa_cons (pv 0) (pa_cons pe_int pa_nil))) (fun _ _ => rfl)) pa_nil)))
      (pg_tup rfl (pgs_cons (pg_name (i := 2) scWorld.nd rfl (.inr rfl)) (pgs_cons (pg_name (i := 3) scWorld.nd rfl (.inl rfl)) pgs_nil))))
    (pss_cut (ps_if (pt_val (pv 1)) (pss_one (ps_asg (pe_tup (pa_cons pe_int (pa_cons pe_int pa_nil))) (pg_tup rfl (pgs_cons (pg_name (i := 2) scWorld.nd rfl (.inr rfl)) (pgs_cons (pg_name (i := 3) scWorld.nd rfl (.inl rfl)) pgs_nil))))) pss_nil)
    (pss_cons (ps_set (i := 4) scWorld.nd rfl (.inr rfl) (pe_call G1 (hr.mono (by decide)) (by rfl) k1.m k1.k k1.b .nil pass0 (pa_cons (pv 0) (pa_cons pe_int pa_nil))))
    (pss_cons (ps_setLc (i := 5) (own := [("k", 9)]) (g := gName 9) (tt := tYes) rfl scWorld.nd rfl rfl (sw_true rfl rfl rfl (by decide +kernel)) (pi_range2 (by rfl) mr (pa_cons pe_int (pa_cons (pv 2) pa_nil))) (blkOk_by (N := nWorld) (sc := defScope sWorld) (by decide +kernel)) (fun _ _ _ _ _ => pg_name (i := 9) scWorld.nd rfl (.inl rfl)) (fun _ _ _ _ _ => pts_nil)
      (fun _ _ _ _ _ => pe_tup (pa_cons (pv 9) (pa_cons (pe_ix (r := rIxL K) ix_list (pe_lst (pa_cons (pe_op op_sub (pv 9) pe_int) (pa_cons pe_int (pa_cons (pe_call G1 (hr.mono (by decide)) (by rfl) k1.m k1.k k1.b .nil pass0 (pa_cons (pv 0) (pa_cons (pv 9) pa_nil))) pa_nil)))) (pv 4) (fun _ _ => rfl)) pa_nil))))
    (pss_cons (ps_set (i := 6) scWorld.nd rfl (.inr rfl) (pe_call G2 hr (by rfl) k2.m k2.k k2.b .nil pass0 (pa_cons (pv 0) (pa_cons (pe_listRg rfl (by rfl) mli (prg_1 (by rfl) mr (pv 2))) pa_nil))))
    (pss_cons (ps_set (i := 7) scWorld.nd rfl (.inl rfl) (pe_callB cr_sortedPO (by rfl) mso (by decide +kernel) (pa_cons (pe_lc (own := [("a", 10), ("b", 11)]) (g := gTup K 2 (gCons (gName 10) (gCons (gName 11) gNil))) (tt := tYes) rfl scWorld.nd (pi_list (pv 5)) (blkOk_by (N := nWorld) (sc := defScope sWorld) (by decide +kernel))
        (fun _ _ _ _ _ => by exact pg_tup rfl (pgs_cons (pg_name (i := 10) scWorld.nd rfl (.inl rfl)) (pgs_cons (pg_name (i := 11) scWorld.nd rfl (.inl rfl)) pgs_nil))) (fun _ _ _ _ _ => pts_nil)
      (fun _ _ _ _ _ => pe_callTy (r := rTupOf K) call_tuple_of (by rfl) mt (by decide +kernel) (pa_cons (pe_callB (r := rSortedI K) cr_sortedI (by rfl) mso (by decide +kernel) (pa_cons (pe_lst (pa_cons (pe_ix (r := rIxL K) ix_list (pv 6) (pv 10) (fun _ _ => rfl)) (pa_cons (pe_ix (r := rIxL K) ix_list (pv 6) (pv 11) (fun _ _ => rfl)) pa_nil))) pa_nil)) pa_nil))) pa_nil)))
    (pss_cons (ps_setLc (i := 8) (own := [("turn", 12)]) (g := gName 12) (tt := tYes) rfl scWorld.nd rfl rfl (sw_true rfl rfl rfl (by decide +kernel)) (pi_range1 (by rfl) mr (pa_cons (pv 3) pa_nil)) (blkOk_by (N := nWorld) (sc := defScope sWorld) (by decide +kernel)) (fun _ _ _ _ _ => pg_name (i := 12) scWorld.nd rfl (.inl rfl)) (fun _ _ _ _ _ => pts_nil)
      (fun _ _ _ _ _ => pe_call G1 (hr.mono (by decide)) (by rfl) k1.m k1.k k1.b .nil pass0 (pa_cons (pv 0) (pa_cons (pv 2) pa_nil))))
    (pss_one (ps_ret (pe_lst (pa_cons (pv 2) (pa_cons (pv 7) (pa_cons (pv 8) (pa_cons (pe_lc (own := [("turn", 12)]) (g := gName 12) (tt := tYes) rfl scWorld.nd (pi_range1 (by rfl) mr (pa_cons (pv 3) pa_nil)) (blkOk_by (N := nWorld) (sc := defScope sWorld) (by decide +kernel)) (fun _ _ _ _ _ => pg_name (i := 12) scWorld.nd rfl (.inl rfl)) (fun _ _ _ _ _ => pts_nil)
      (fun _ _ _ _ _ => pe_ix (r := rIxL K) ix_list (pe_lst (pa_cons pe_int (pa_cons pe_int (pa_cons pe_int (pa_cons pe_int (pa_cons (pe_call G1 (hr.mono (by decide)) (by rfl) k1.m k1.k k1.b .nil pass0 (pa_cons (pv 0) (pa_cons pe_int pa_nil))) pa_nil)))))) (pe_call G1 (hr.mono (by decide)) (by rfl) k1.m k1.k k1.b .nil pass0 (pa_cons (pv 0) (pa_cons pe_int pa_nil))) (fun _ _ => rfl))) pa_nil)))))))))))))), ?_⟩
  · obtain ⟨p, g, m, rfl, _⟩ := h
    rfl
  · obtain ⟨p, g, m, rfl, hB, hm, hQ⟩ := h
    obtain ⟨o, hpo⟩ := hB.some
    show tOp (rIxL K) (tLst (tInts [3, 2, 4, 1, 5, 3, 6, 4])) (tCall spTake [] E0 (tCons (tVar 0) (tCons (tC (.int 8)) tNil))) _ H0 _
    refine menu (i := 0) rfl (by decide) (by decide) rfl hB (by omega) fun n0 hn0 H1 fr1 hB1 => ?_
    show tOp (rIxL K) (tLst (tInts [4, 3, 2, 5, 6, 3, 0, 1])) (tCall spTake [] E0 (tCons (tVar 0) (tCons (tC (.int 8)) tNil))) _ H1 _
    refine menu (i := 0) rfl (by decide) (by decide) rfl hB1 (by omega) fun c0 hc0 H2 fr2 hB2 => ?_
    refine ⟨Nat.le_of_ble_eq_true rfl, fun t nt => ⟨t, _, rfl, st_of upd_same, rfl, _, _, rfl, _, _, rfl, rfl, ?_⟩⟩
    have fr3 : Fr (One p) H0 (upd H2 t (.tup [.int n0, .int c0])) := (fr1.trans fr2).trans (Fr.of (Ex.new nt))
    have hB3 := hB2.mono (Ex.new (o := .tup [.int n0, .int c0]) nt)
    have hn0 : 1 ≤ n0 ∧ n0 ≤ 6 := by
      simp only [List.mem_cons, List.not_mem_nil, or_false] at hn0
      omega
    have hc0 : 0 ≤ c0 ∧ c0 ≤ 6 := by
      simp only [List.mem_cons, List.not_mem_nil, or_false] at hc0
      omega
    clear fr1 fr2 hB1 hB2
    generalize upd H2 t (.tup [.int n0, .int c0]) = H3 at fr3 hB3 ⊢
    refine q_cut (M := fun (σ' : L2.St) (H' : Hp) => ∃ n c : Nat, σ' = [some (.ref p), some (.bl g), some (natV n), some (natV c), none, none, none, none, none, none, none, none, none] ∧ 1 ≤ n ∧ n ≤ 16 ∧ c ≤ 12 ∧ Fr (One p) H0 H' ∧ Bx H' p (m + 2)) (s_when (b := g) (et_B (ev_var rfl)) (fun _ H4 e4 => ⟨Nat.le_of_ble_eq_true rfl, fun t nt => ⟨t, _, rfl, st_of upd_same, rfl, _, _, rfl, _, _, rfl, rfl, 16, 12, rfl, by decide, by decide, by decide, fr3.trans (Fr.of (e4.trans (Ex.new nt))), hB3.mono (e4.trans (Ex.new nt))⟩⟩) fun _ H4 e4 => ?_) fun σ' H4 hM => ?_
    · obtain ⟨n1, rfl⟩ := Int.eq_ofNat_of_zero_le (show 0 ≤ n0 by omega)
      obtain ⟨c1, rfl⟩ := Int.eq_ofNat_of_zero_le (show 0 ≤ c0 by omega)
      exact ⟨n1, c1, rfl, by omega, by omega, by omega, fr3.trans (Fr.of e4), hB3.mono e4⟩
    clear fr3 hB3 hn0 hc0
    obtain ⟨n, c, rfl, n1, n16, c12, fr4, hB4⟩ := hM
    -- the kind
    refine q_draw (i := 0) rfl ev_c hB4 (by omega) (by decide) (by decide) fun kd H5 hk fr5 hB5 => ?_
    have fr05 := fr4.trans fr5
    clear fr4 fr5
    -- the pairs
    refine q_asgQ (fun v H6 => ∃ D5 us5, v = .ref D5 ∧ H5 D5 = none ∧ Fr (One p) H5 H6 ∧ Bx H6 p (m + 3 + 1 * ((n : Int) - 1).toNat) ∧ H6 D5 = some (.lst us5) ∧ All2 (fun i v => ∃ b t, v = .ref t ∧ hidF (One p) H6 t = some (.tup [natV (i + 1), natV b]) ∧ b < i + 1) (List.range ((n : Int) - 1).toNat) us5) (fun Q qQ => ⟨_, rfl, 1, (n : Int), rfl, ⟨by decide, by decide, by omega, by omega⟩, ?_⟩) fun v5 H6 hv5 => ?_
    refine lcB (p := p) (j := 9) (f := fun i => .int (1 + (i : Nat))) (n := ((n : Int) - 1).toNat) walk_range (m + 3) 1 (fun i v G => ∃ b t, v = .ref t ∧ G t = some (.tup [natV (i + 1), natV b]) ∧ b < i + 1) (by omega) (fun _ => ?_) hB5 (fun _ _ => trivial) (fun i v H H' e h => ?_) (fun i v H D xs ys hD h => ?_) (fun i H6 hi fr6 hB6 Q q => ?_) fun D5 us5 H6 nD5 fr6 hB6 hD5 ha5 => qQ _ H6 ⟨D5, us5, rfl, nD5, fr6, hB6, hD5, ha5⟩
    · rfl
    · obtain ⟨b, t, e1, e2, e3⟩ := h
      exact ⟨b, t, e1, e _ _ e2, e3⟩
    · obtain ⟨b, t, e1, e2, e3⟩ := h
      exact ⟨b, t, e1, by rw [upd_ne (ne_of e2 hD (fun z => nomatch z))]; exact e2, e3⟩
    · refine ⟨_, rfl, _, rfl, _, _, rfl, rfl, _, rfl, _, rfl, p, 1 + (i : Int), m + 3 + 1 * i, rfl, hB6, by omega, by omega, by omega, fun r H7 hr fr7 hB7 => ⟨Nat.le_of_ble_eq_true rfl, fun a na => ⟨_, rfl, a, [V.int (1 + (i : Int) - 1), .int 0, .int (r : Int)], (kd : Int), ?_⟩⟩⟩
      obtain ⟨b, hb, hbl⟩ : ∃ b : Nat, atI [V.int (1 + (i : Int) - 1), .int 0, .int (r : Int)] (kd : Int) = some (natV b) ∧ b < i + 1 := by
        have hk3 : kd < 3 := by omega
        match kd, hk3 with
        | 0, _ => exact ⟨i, by rw [show (1 + (i : Int) - 1) = (i : Int) by omega]; rfl, by omega⟩
        | 1, _ => exact ⟨0, rfl, by omega⟩
        | 2, _ => exact ⟨r, rfl, by omega⟩
      refine ⟨natV b, rfl, rfl, sq_of upd_same, hb, Nat.le_of_ble_eq_true rfl, fun t nt => ?_⟩
      have e8 := (Ex.new (o := .lst [V.int (1 + (i : Int) - 1), .int 0, .int (r : Int)]) na).trans (Ex.new (o := .tup [.int (1 + (i : Int)), natV b]) nt)
      have fr8 := fr7.trans (Fr.of e8)
      refine q (.ref t) _ fr8 ((hB7.mono e8).up (by omega)) ⟨b, t, rfl, ?_, hbl⟩
      have tp : t ≠ p := by
        obtain ⟨o7, h7⟩ := (hB7.mono (Ex.new (o := .lst [V.int (1 + (i : Int) - 1), .int 0, .int (r : Int)]) na)).some
        exact (ne_of_none h7 nt).symm
      rw [hd1_ne tp, upd_same]
      rw [show (1 + (i : Int)) = ((i + 1 : Nat) : Int) by omega]
      rfl
    obtain ⟨D5, us5, rfl, nD5, fr6, hB6, hD5, ha5⟩ := hv5
    have fr06 := fr05.trans fr6
    have ln : ((n : Int) - 1).toNat = n - 1 := by omega
    rw [ln] at ha5 hB6
    obtain ⟨o5, h5⟩ := hB5.some
    have pD5 : D5 ≠ p := (ne_of_none h5 nD5).symm
    clear fr05 fr6 hB5 h5
    obtain ⟨bf, hbf⟩ := all2_pick List.nodup_range ha5
    -- the names
    refine q_asgQ (fun v H7 => ∃ (q : Addr) (nm : List Nat), v = .ref q ∧ nm.Perm (List.range n) ∧ Fr (One p) H6 H7 ∧ Bx H7 p (m + 3 + 1 * (n - 1) + n) ∧ H7 q = some (.lst (nm.map natV))) (fun Q qQ => ⟨_, rfl, _, rfl, _, rfl, RgOk.of_le (by omega) (by omega) (by omega) (by omega), fun l nl => ⟨p, l, m + 3 + 1 * (n - 1), List.range n, rfl, hB6.mono (Ex.new nl), by rw [List.length_range]; omega, by rw [List.length_range]; omega, by rw [upd_same, rgV_nat], fun q nm H7 pm nq fr7 hB7 hq => qQ _ H7 ⟨q, nm, rfl, pm, (Fr.of (Ex.new nl)).trans fr7, by rw [List.length_range] at hB7; exact hB7, hq⟩⟩⟩) fun v7 H7 hv7 => ?_
    obtain ⟨q, nm, rfl, pm, fr67, hB7, hq⟩ := hv7
    have lnm : nm.length = n := by rw [pm.length_eq, List.length_range]
    have fr07 := fr06.trans fr67
    have hD7 : H7 D5 = some (.lst us5) := fr67 _ _ pD5 hD5
    have hb7 : All2 (fun k v => ∃ t, v = .ref t ∧ H7 t = some (.tup [natV (k + 1), natV (bf k)]) ∧ bf k < k + 1) (List.range (n - 1)) us5 := hbf.imp fun k v _ h => by
      obtain ⟨t, e1, e2, e3⟩ := h
      have z := fr67.hid _ _ e2
      exact ⟨t, e1, (hidF_some z).2, e3⟩
    clear fr06 fr67 hD5 hbf ha5 hB6
    -- the roads
    have gb : ∀ i, i < n → (nm.map natV)[i]? = some (natV (nm.getD i 0)) := fun i hi => by
      have : nm[i]? = some nm[i] := List.getElem?_eq_getElem (by omega)
      rw [List.getElem?_map, this, List.getD_eq_getElem?_getD, this]
      rfl
    refine q_asgQ (fun v H10 => ∃ D9 us9 ps, v = .ref D9 ∧ H7 D9 = none ∧ Ex H7 H10 ∧ H10 D9 = some (.lst us9) ∧ Tps H10 ps us9 ∧ ps.Perm ((List.range (n - 1)).map fun i => Km.srt (nm.getD (i + 1) 0) (nm.getD (bf i) 0)) ∧ ps.Pairwise Km.leP) (fun Q qQ => tcb1 (fun v H8 => ∃ D8 us8, v = .ref D8 ∧ H7 D8 = none ∧ Ex H7 H8 ∧ H8 D8 = some (.lst us8) ∧ Tps H8 ((List.range (n - 1)).map fun i => Km.srt (nm.getD (i + 1) 0) (nm.getD (bf i) 0)) us8) (fun Q' q' => ⟨_, rfl, D5, rfl, ⟨_, sq_of hD7⟩, ?_⟩) fun v8 H8 hv8 => ?_) fun v9 H10 hv9 => ?_
    refine lcF (walk_list (K := K) (a := D5) (xs := us5)) (fun _ => true) (fun i v G => ∃ t, v = .ref t ∧ G t = some (.tup [natV (Km.srt (nm.getD (i + 1) 0) (nm.getD (bf i) 0)).1, natV (Km.srt (nm.getD (i + 1) 0) (nm.getD (bf i) 0)).2])) ?_ (fun i v H H' e h => ?_) (fun i v H D xs ys hD _ h => ?_) (fun H e => sq_of (e _ _ hD7)) (fun i x H H' hi e yy => ?_) fun D8 us8 H8 nD8 e8 hD8 ha8 => ?_
    · rw [hb7.len, List.length_range]
      omega
    · obtain ⟨t, e1, e2⟩ := h
      exact ⟨t, e1, e _ _ e2⟩
    · obtain ⟨t, e1, e2⟩ := h
      exact ⟨t, e1, by rw [upd_ne (ne_of e2 hD (fun z => nomatch z))]; exact e2⟩
    · obtain ⟨rfl, hx⟩ := yy
      rw [hb7.len, List.length_range] at hi
      obtain ⟨k, hk, t, rfl, ht, hbl⟩ := hb7.of hx
      obtain rfl : k = i := by
        rw [List.getElem?_range hi] at hk
        exact (Option.some.inj hk).symm
      refine ⟨Ex.refl _, fun kk hkk => ⟨t, _, rfl, st_of (e _ _ ht), rfl, _, _, rfl, _, _, rfl, rfl, ?_⟩⟩
      refine hkk _ _ (Ex.refl _) rfl (fun H9 e9 Q q => by unfold tYes; exact q H9 (Ex.refl _)) fun _ => fun H9 e9 Q qq => ?_
      have hq9 : SqL K H9 q (nm.map natV) := sq_of (e9 _ _ (e _ _ hq))
      refine ⟨_, rfl, _, rfl, q, _, _, _, rfl, rfl, hq9, atI_nat (gb (k + 1) (by omega)), _, rfl, _, rfl, q, _, _, _, rfl, rfl, hq9, atI_nat (gb (bf k) (by omega)), Nat.le_of_ble_eq_true rfl, fun a na => ⟨a, [((nm.getD (k + 1) 0 : Nat) : Int), ((nm.getD (bf k) 0 : Nat) : Int)], rfl, sq_of upd_same, fun ns r hp hs nr => ⟨r, _, rfl, .inl ⟨sq_of upd_same, fun tt ntt => ?_⟩⟩⟩⟩
      refine qq _ _ (((Ex.new na).trans (Ex.new nr)).trans (Ex.new ntt)) ⟨tt, rfl, ?_⟩
      rw [upd_same, sort2 hp hs]
    · have es : ((List.range us5.length).filter fun _ => true) = List.range (n - 1) := by
        rw [List.filter_eq_self.mpr (fun _ _ => rfl), hb7.len, List.length_range]
      rw [es] at ha8
      have tp8 : Tps H8 ((List.range (n - 1)).map fun i => Km.srt (nm.getD (i + 1) 0) (nm.getD (bf i) 0)) us8 := all2_mapL ha8
      exact q' _ H8 ⟨D8, us8, rfl, nD8, e8, hD8, tp8⟩
    · obtain ⟨D8, us8, rfl, nD8, e8, hD8, tp8⟩ := hv8
      exact sort_prs (sq_of hD8) tp8 fun ps us9 D9 pp sp tp9 nD9 => qQ _ _ ⟨D9, us9, ps, rfl, fresh_back e8 nD9, e8.trans (Ex.new nD9), upd_same, tp9.mono (Ex.new nD9), pp, sp⟩
    obtain ⟨D9, us9, ps, rfl, nD9, e9, h9, tp9, pp, sp⟩ := hv9
    have fr9 := fr07.trans (Fr.of e9)
    have hB9 := hB7.mono e9
    have hb7' := hb7
    have tp9h : Tps (hidF (One p) H10) ps us9 := tp9.imp fun pr v _ h => by
      obtain ⟨t, e1, e2⟩ := h
      refine ⟨t, e1, ?_⟩
      have tp : t ≠ p := fun z => by
        obtain ⟨g', m', c', b', h1, _⟩ := hB9
        rw [z, h1] at e2
        cases e2
      rw [hd1_ne tp]
      exact e2
    have pD9 : D9 ≠ p := by
      obtain ⟨o7, z⟩ := hB7.some
      exact (ne_of_none z nD9).symm
    clear fr07 hB7 hD7 e9 nD9
    -- the homes
    refine q_asgQ (fun v H11 => ∃ (D : Addr) (hs : List Nat), v = .ref D ∧ H10 D = none ∧ Fr (One p) H10 H11 ∧ Bx H11 p (m + 3 + 1 * (n - 1) + n + 1 * c) ∧ H11 D = some (.lst (hs.map natV)) ∧ hs.length = c ∧ ∀ h ∈ hs, h < n) (fun Q qQ => ⟨_, rfl, (c : Int), rfl, by omega, by omega, ?_⟩) fun v11 H11 hv11 => ?_
    · refine lcB (p := p) (j := 12) (f := fun i => .int (0 + (i : Nat))) (n := (c : Int).toNat) walk_range (m + 3 + 1 * (n - 1) + n) 1 (fun i v G => ∃ h, v = natV h ∧ h < n) (by omega) (fun _ => ?_) hB9 (fun _ _ => trivial) (fun i v H H' e h => h) (fun i v H D xs ys hD h => h) (fun i H6 hi fr6 hB6 Q q => ?_) fun D us H11 nD fr11 hB11 hD ha => ?_
      · rfl
      · exact ⟨_, rfl, _, rfl, p, (n : Int), m + 3 + 1 * (n - 1) + n + 1 * i, rfl, hB6, by omega, by omega, by omega, fun r H7 hr fr7 hB7 => q _ H7 fr7 (hB7.up (by omega)) ⟨r, rfl, by omega⟩⟩
      · obtain ⟨hs, rfl, l1, l2⟩ := all2_nat ha
        rw [List.length_range] at l1
        exact qQ _ H11 ⟨D, hs, rfl, nD, fr11, hB11, hD, by omega, l2⟩
    obtain ⟨D11, hs, rfl, nD11, fr1011, hB11, h11, hsl, hsn⟩ := hv11
    have pD11 : D11 ≠ p := by
      obtain ⟨o9, z⟩ := hB9.some
      exact (ne_of_none z nD11).symm
    -- the world
    refine ⟨_, rfl, _, rfl, _, rfl, ?_⟩
    refine useQ (fun v H12 => ∃ (D : Addr) (cs : List Nat), v = .ref D ∧ H11 D = none ∧ Fr (One p) H11 H12 ∧ Bx H12 p (m + 3 + 1 * (n - 1) + n + 1 * c + 2 * c) ∧ H12 D = some (.lst (cs.map natV)) ∧ cs.length = c ∧ ∀ h ∈ cs, h < 6) (fun Q qQ => ⟨_, rfl, (c : Int), rfl, by omega, by omega, ?_⟩) fun v12 H12 hv12 => ?_
    · refine lcB (p := p) (j := 12) (f := fun i => .int (0 + (i : Nat))) (n := (c : Int).toNat) walk_range (m + 3 + 1 * (n - 1) + n + 1 * c) 2 (fun i v G => ∃ h, v = natV h ∧ h < 6) (by omega) (fun _ => ?_) hB11 (fun _ _ => trivial) (fun i v H H' e h => h) (fun i v H D xs ys hD h => h) (fun i H6 hi fr6 hB6 Q q => ?_) fun D us H12 nD fr12 hB12 hD ha => ?_
      · rfl
      · refine ⟨_, rfl, p, 6, m + 3 + 1 * (n - 1) + n + 1 * c + 2 * i, rfl, hB6, by omega, by decide, by decide, fun r H7 hr fr7 hB7 => ⟨Nat.le_of_ble_eq_true rfl, fun a na => ⟨_, rfl, p, 5, _, rfl, hB7.mono (Ex.new na), by omega, by decide, by decide, fun r2 H8 hr2 fr8 hB8 => ?_⟩⟩⟩
        have ap : a ≠ p := by
          obtain ⟨o7, z⟩ := hB7.some
          exact (ne_of_none z na).symm
        have ha8 := fr8 a _ ap upd_same
        obtain ⟨h, hh, h6⟩ : ∃ h : Nat, atI [V.int 0, .int 5, .int 0, .int 2, .int (r : Int)] (r2 : Int) = some (natV h) ∧ h < 6 := by
          have hr3 : r2 < 5 := by omega
          match r2, hr3 with
          | 0, _ => exact ⟨0, rfl, by decide⟩
          | 1, _ => exact ⟨5, rfl, by decide⟩
          | 2, _ => exact ⟨0, rfl, by decide⟩
          | 3, _ => exact ⟨2, rfl, by decide⟩
          | 4, _ => exact ⟨r, rfl, by omega⟩
        exact ⟨a, _, (r2 : Int), natV h, rfl, rfl, sq_of ha8, hh, q _ H8 ((fr7.trans (Fr.of (Ex.new na))).trans fr8) (hB8.up (by omega)) ⟨h, rfl, h6⟩⟩
      · obtain ⟨hs, rfl, l1, l2⟩ := all2_nat ha
        rw [List.length_range] at l1
        exact qQ _ H12 ⟨D, hs, rfl, nD, fr12, hB12, hD, by omega, l2⟩
    obtain ⟨D12, cs, rfl, nD12, fr1112, hB12, h12, csl, cs6⟩ := hv12
    have pD12 : D12 ≠ p := by
      obtain ⟨o9, z⟩ := hB11.some
      exact (ne_of_none z nD12).symm
    refine ⟨Nat.le_of_ble_eq_true rfl, fun a na => ?_⟩
    have ap : a ≠ p := by
      obtain ⟨o7, z⟩ := hB12.some
      exact (ne_of_none z na).symm
    have fr012 : Fr (One p) H0 H12 := (fr9.trans fr1011).trans fr1112
    have g := Km.grow_names (nm := nm) (pm.nodup_iff.mpr List.nodup_range) (fun k => bf (k - 1)) (fun k hk hk' => by
      obtain ⟨v, hv, t, _, _, hb⟩ := hb7'.get (List.getElem?_range (show k - 1 < n - 1 by omega))
      omega) (n - 1) (by omega)
    have nm_all : nm.take (n - 1 + 1) = nm := List.take_of_length_le (by omega)
    rw [nm_all] at g
    refine hQ a ⟨n, ps, hs, cs⟩ _ (fr_none fr012 ap na) (fr012.trans (Fr.of (Ex.new na))) ((hB12.mono (Ex.new na)).up (by omega)) ⟨D9, D11, D12, us9, ?_, ?_, ?_, ?_, ?_⟩ (wd_grow g ?_ ?_ sp n16 (by show hs.length ≤ 12; omega) hsn (by show cs.length = hs.length; omega) cs6)
    · rw [hd1_ne ap]
      exact upd_same
    · rw [hd1_ne pD9]
      exact (Ex.new na) _ _ (fr1112 _ _ pD9 (fr1011 _ _ pD9 h9))
    · exact tp9h.mono ((fr1011.trans fr1112).trans (Fr.of (Ex.new na))).hid
    · rw [hd1_ne pD11]
      exact (Ex.new na) _ _ (fr1112 _ _ pD11 h11)
    · rw [hd1_ne pD12]
      exact (Ex.new na) _ _ h12
    · exact (List.reverse_perm nm).trans pm
    · exact pp.trans (List.reverse_perm _).symm
end
end Tr

set_option maxHeartbeats 4000000
/-! ### the law's roads (law k04): _law_near, _law_ways, _law_is_house -/
namespace Tr
open PySem PySem.Spec PyProof.Rows L2 LK Evl
abbrev sNearL : Stmt := top 51
abbrev sWays : Stmt := top 52
abbrev sIsHouse : Stmt := top 56
theorem scNearL : FnScope ["world", "house", "u", "v"] ["world", "house"] (defScope sNearL) := ⟨rfl, rfl, rfl, by decide +kernel, rfl, by decide +kernel, by decide +kernel⟩
theorem scWays : FnScope ["world", "u", "v"] ["world"] (defScope sWays) := ⟨rfl, rfl, rfl, by decide +kernel, rfl, by decide +kernel, by decide +kernel⟩
theorem scIsHouse : FnScope ["world", "value"] ["world", "value"] (defScope sIsHouse) := ⟨rfl, rfl, rfl, by decide +kernel, rfl, by decide +kernel, by decide +kernel⟩
/-! what the roads are -/
theorem Wd.strict {w : Km.W} (W : Wd w) : w.ps.Pairwise fun p q => p.1 < q.1 ∨ (p.1 = q.1 ∧ p.2 < q.2) := by
  refine List.pairwise_iff_getElem.mpr fun i j hi hj hij => ?_
  have go : ∀ (d i : Nat) (hi : i < w.ps.length) (hj : i + d + 1 < w.ps.length), w.ps[i].1 < w.ps[i + d + 1].1 ∨ (w.ps[i].1 = w.ps[i + d + 1].1 ∧ w.ps[i].2 < w.ps[i + d + 1].2) := by
    intro d
    induction d with
    | zero => intro i hi hj; exact W.right.asc i _ _ (List.getElem?_eq_getElem hi) (List.getElem?_eq_getElem hj)
    | succ d ih =>
      intro i hi hj
      have a := ih i hi (by omega)
      have b := W.right.asc (i + d + 1) _ _ (List.getElem?_eq_getElem (by omega)) (List.getElem?_eq_getElem (show i + d + 1 + 1 < w.ps.length by omega))
      have e : i + (d + 1) + 1 = i + d + 1 + 1 := by omega
      simp only [e]
      omega
  have z := go (j - i - 1) i hi (by omega)
  have e : i + (j - i - 1) + 1 = j := by omega
  simp only [e] at z
  exact z
theorem Wd.nodup {w : Km.W} (W : Wd w) : w.ps.Nodup := W.strict.imp fun {p q} h z => by
  subst z
  omega
theorem nodup_map_on {α β : Type} {f : α → β} {l : List α} (h : ∀ a ∈ l, ∀ b ∈ l, f a = f b → a = b) (nd : l.Nodup) : (l.map f).Nodup := by
  induction l with
  | nil => exact List.nodup_nil
  | cons a l ih =>
    obtain ⟨na, nl⟩ := List.nodup_cons.mp nd
    rw [List.map_cons]
    refine List.nodup_cons.mpr ⟨fun z => ?_, ih (fun x hx y hy => h x (List.mem_cons_of_mem _ hx) y (List.mem_cons_of_mem _ hy)) nl⟩
    obtain ⟨b, hb, e⟩ := List.mem_map.mp z
    have := h a List.mem_cons_self b (List.mem_cons_of_mem _ hb) e.symm
    exact na (this ▸ hb)
def nearP (w : Km.W) (h : Nat) : List Nat := (w.ps.filter fun p => decide (p.1 = h)).map (·.2) ++ (w.ps.filter fun p => decide (p.2 = h)).map (·.1)
theorem mem_nearP {w : Km.W} {h x : Nat} : x ∈ nearP w h ↔ Km.nb w h x := by
  unfold nearP Km.nb
  simp only [List.mem_append, List.mem_map, List.mem_filter, decide_eq_true_eq]
  constructor
  · rintro (⟨p, ⟨h1, rfl⟩, rfl⟩ | ⟨p, ⟨h1, rfl⟩, rfl⟩)
    · exact .inl h1
    · exact .inr h1
  · rintro (h1 | h1)
    · exact .inl ⟨_, ⟨h1, rfl⟩, rfl⟩
    · exact .inr ⟨_, ⟨h1, rfl⟩, rfl⟩
theorem near_perm {w : Km.W} (W : Wd w) {h : Nat} : (nearP w h).Perm (Km.near w h) := by
  refine (List.perm_ext_iff_of_nodup ?_ ?_).mpr fun x => ?_
  · refine List.nodup_append.mpr ⟨nodup_map_on (fun a ha b hb e => ?_) (W.nodup.filter _), nodup_map_on (fun a ha b hb e => ?_) (W.nodup.filter _), fun a ha b hb e => ?_⟩
    · have h1 := of_decide_eq_true (List.mem_filter.mp ha).2
      have h2 := of_decide_eq_true (List.mem_filter.mp hb).2
      exact Prod.ext (h1.trans h2.symm) e
    · have h1 := of_decide_eq_true (List.mem_filter.mp ha).2
      have h2 := of_decide_eq_true (List.mem_filter.mp hb).2
      exact Prod.ext e (h1.trans h2.symm)
    · obtain ⟨p, hp, rfl⟩ := List.mem_map.mp ha
      obtain ⟨q, hq, rfl⟩ := List.mem_map.mp hb
      have h1 := of_decide_eq_true (List.mem_filter.mp hp).2
      have h2 := of_decide_eq_true (List.mem_filter.mp hq).2
      have l1 := (W.ok.ed p (List.mem_filter.mp hp).1).2.2
      have l2 := (W.ok.ed q (List.mem_filter.mp hq).1).2.2
      have e : p.2 = q.1 := e
      omega
  · exact List.Pairwise.sublist List.filter_sublist List.nodup_range
  · rw [mem_nearP]
    unfold Km.near
    rw [List.mem_filter, List.mem_range, decide_eq_true_eq]
    exact ⟨fun z => ⟨Km.nb_r W.ok z, z⟩, fun z => z.2⟩
theorem range_lt (n : Nat) : (List.range n).Pairwise (· < ·) := List.pairwise_lt_range
theorem near_sorted {w : Km.W} {h : Nat} : (Km.near w h).Pairwise (· < ·) := List.Pairwise.sublist List.filter_sublist (range_lt w.n)
def waysP (w : Km.W) : List (Nat × Nat) := w.ps ++ w.ps.map fun p => (p.2, p.1)
theorem ways_eq {w : Km.W} (W : Wd w) : waysL w.n w.ps = (List.range w.n).flatMap fun u => (Km.near w u).map fun v => (u, v) := by
  unfold waysL
  have go : ∀ l : List Nat, (∀ u ∈ l, u < w.n) → l.flatMap (fun u => (nearL w.n w.ps u).map fun v => (u, v)) = l.flatMap fun u => (Km.near w u).map fun v => (u, v) := by
    intro l
    induction l with
    | nil => intro _; rfl
    | cons a l ih =>
      intro h
      rw [List.flatMap_cons, List.flatMap_cons, W.near (h a List.mem_cons_self), ih fun u hu => h u (List.mem_cons_of_mem _ hu)]
  exact go _ fun u hu => List.mem_range.mp hu
theorem mem_waysL {w : Km.W} (W : Wd w) {p : Nat × Nat} : p ∈ waysL w.n w.ps ↔ Km.nb w p.1 p.2 := by
  refine ⟨fun h => ?_, fun h => mem_ways W h⟩
  rw [ways_eq W] at h
  obtain ⟨u, hu, h⟩ := List.mem_flatMap.mp h
  obtain ⟨v, hv, rfl⟩ := List.mem_map.mp h
  exact of_decide_eq_true (List.mem_filter.mp hv).2
theorem ways_strict {w : Km.W} (W : Wd w) : (waysL w.n w.ps).Pairwise fun p q => p.1 < q.1 ∨ (p.1 = q.1 ∧ p.2 < q.2) := by
  rw [ways_eq W]
  have go : ∀ l : List Nat, l.Pairwise (· < ·) → (l.flatMap fun u => (Km.near w u).map fun v => (u, v)).Pairwise fun p q => p.1 < q.1 ∨ (p.1 = q.1 ∧ p.2 < q.2) := by
    intro l
    induction l with
    | nil => intro _; exact .nil
    | cons a l ih =>
      intro h
      obtain ⟨h1, h2⟩ := List.pairwise_cons.mp h
      rw [List.flatMap_cons]
      refine List.pairwise_append.mpr ⟨List.pairwise_map.mpr (near_sorted.imp fun {x y} z => .inr ⟨rfl, z⟩), ih h2, fun x hx y hy => ?_⟩
      obtain ⟨v, _, rfl⟩ := List.mem_map.mp hx
      obtain ⟨u, hu, hy⟩ := List.mem_flatMap.mp hy
      obtain ⟨v', _, rfl⟩ := List.mem_map.mp hy
      exact .inl (h1 u hu)
  exact go _ (range_lt w.n)
theorem ways_perm {w : Km.W} (W : Wd w) : (waysP w).Perm (waysL w.n w.ps) := by
  refine (List.perm_ext_iff_of_nodup ?_ ((ways_strict W).imp fun {p q} h z => by subst z; omega)).mpr fun p => ?_
  · refine List.nodup_append.mpr ⟨W.nodup, nodup_map_on (fun a _ b _ e => ?_) W.nodup, fun a ha b hb e => ?_⟩
    · injection e with e1 e2
      exact Prod.ext e2 e1
    · obtain ⟨q, hq, rfl⟩ := List.mem_map.mp hb
      have l1 := (W.ok.ed a ha).2.2
      have l2 := (W.ok.ed q hq).2.2
      subst e
      dsimp only at l1
      omega
  · rw [mem_waysL W]
    unfold waysP Km.nb
    rw [List.mem_append, List.mem_map]
    constructor
    · rintro (h | ⟨q, h, rfl⟩)
      · exact .inl h
      · exact .inr h
    · rintro (h | h)
      · exact .inl h
      · exact .inr ⟨_, h, rfl⟩
theorem filter_range {α β : Type} (l : List α) (d : α) (p : α → Bool) (g : α → β) : ((List.range l.length).filter fun i => p (l.getD i d)).map (fun i => g (l.getD i d)) = (l.filter p).map g := by
  have e : (List.range l.length).map (fun i => l.getD i d) = l := by
    refine List.ext_getElem (by simp) fun i h1 h2 => ?_
    have : i < l.length := by simpa using h1
    simp [this]
  conv => rhs; rw [← e]
  rw [List.filter_map, List.map_map]
  rfl
def spNearW (K : PySem.W.Frag) : Sp := fun vs H Q _ => ∃ (a : Addr) (w : Km.W) (h : Nat), vs = [.ref a, .int (h : Int)] ∧ WorldAt H a w ∧ Wd w ∧ RetL ((Km.near w h).map natV) H Q
def spWays (K : PySem.W.Frag) : Sp := fun vs H Q _ => ∃ (a : Addr) (w : Km.W), vs = [.ref a] ∧ WorldAt H a w ∧ Wd w ∧ ∀ p us H2, H p = none → Ex H H2 → H2 p = some (.lst us) → Tps H2 (waysL w.n w.ps) us → Q (.ref p) H2
def spIsHouse (K : PySem.W.Frag) : Sp := fun vs H Q _ => ∃ (a : Addr) (w : Km.W) (v : V) (d : PyData), vs = [.ref a, v] ∧ WorldAt H a w ∧ Dq H v d ∧ RetV (.bl (houseD w.n d)) H Q
section
variable {P : Program} {w : World} {K : PySem.W.Frag} {mg : Str → Option Value} {base : Heap} {f f1 f2 : Addr} {fd d1 d2 : FuncData}
/-- [e for a, b in l if t], l of pairs -/
theorem el_lcP {σ : L2.St} {H : Hp} {tl te : TE} {tt : TT} {vs : List Nat} {j1 j2 : Nat} {a : Addr} {xs : List V} {ps : List (Nat × Nat)} (fb : Nat × Nat → Bool) (g : Nat × Nat → V) (h : Ev tl σ H (.ref a)) (hx : SqL K H a xs) (tp : Tps H ps xs) (hz : ps.length ≤ 1000) (hw : ∀ x y, wipe (((wipe σ vs).set j1 (some x)).set j2 (some y)) vs = wipe σ vs)
    (ht : ∀ pr H1, Ex H H1 → EvT tt (((wipe σ vs).set j1 (some (natV pr.1))).set j2 (some (natV pr.2))) H1 (fb pr)) (he : ∀ pr H1, Ex H H1 → Ev te (((wipe σ vs).set j1 (some (natV pr.1))).set j2 (some (natV pr.2))) H1 (g pr)) :
    EvL (tLc (iList K tl) (gTup K 2 (gCons (gName j1) (gCons (gName j2) gNil))) tt te vs) σ H ((ps.filter fb).map g) := fun H0 e0 Q q => h H0 e0 _ fun H1 e1 => ⟨a, rfl, ⟨xs, ex_l (e0.trans e1) hx⟩, lcF (walk_list (K := K) (a := a) (xs := xs)) (fun i => fb (ps.getD i (0, 0))) (fun i v _ => v = g (ps.getD i (0, 0))) (by rw [tp.len]; omega) (fun _ _ _ _ _ z => z) (fun _ _ _ _ _ _ _ _ z => z) (fun H e => ex_l ((e0.trans e1).trans e) hx)
    (fun i x H2 H3 hi e yy => by
      obtain ⟨rfl, hxi⟩ := yy
      obtain ⟨pr, hpr, t, rfl, htt⟩ := tp.of hxi
      have e' := (e0.trans e1).trans e
      have gd : ps.getD i (0, 0) = pr := by rw [List.getD_eq_getElem?_getD, hpr]; rfl
      rw [gd]
      exact ⟨Ex.refl _, fun k hk => ⟨t, _, rfl, st_of (e' _ _ htt), rfl, _, _, rfl, _, _, rfl, rfl, hk _ _ (Ex.refl _) (hw _ _) (ht pr _ e') fun _ => fun H4 e4 Q q => he pr _ e' H4 e4 Q fun H5 e5 => q _ H5 e5 rfl⟩⟩)
    (fun D us H2 nD e2 hD ha => q D H2 (fresh_back e1 nD) (e1.trans e2) (by
      rw [hD, all2_map ha, tp.len]
      congr 2
      exact filter_range ps (0, 0) fb g))⟩
/-- sorted(l), l a new list of numbers -/
theorem el_sortN {σ : L2.St} {H : Hp} {te : TE} {ns ms : List Nat} (h : EvL te σ H (ns.map natV)) (hp : ns.Perm ms) (hs : ms.Pairwise (· < ·)) : EvL (tCB (rSortedI K) (tCons te tNil)) σ H (ms.map natV) := fun H0 e0 Q q => h H0 e0 _ fun a H1 na e1 ha => ⟨a, ns.map fun n : Nat => (n : Int), rfl, sq_of (by rw [ha, List.map_map]; rfl), fun ns' p pp ss np => by
    have e : ns' = ms.map fun n : Nat => (n : Int) := Km.perm_eq (r := (· ≤ ·)) (fun a b h k => Int.le_antisymm h k) (pp.trans (hp.map _)) ss (List.pairwise_map.mpr (hs.imp fun {a b} z => by omega))
    refine q p _ (fresh_back e1 np) (e1.trans (Ex.new np)) ?_
    rw [upd_same, e, List.map_map]
    rfl⟩
theorem ok_nearW (F : FnP K "_law_near" sNearL f fd) (mso : mg "sorted" = none) : FnOk P w K mg base CX0 1 f fd ["world", "house"] (spNearW K) := by
  refine F.ok scNearL (fun vs H Q E h => ?_) fun cdv A outer s H0 vs Q E hr h => ⟨_, PSs.nox (pss_one (ps_ret (pe_callB cr_sortedI (by rfl) mso (by decide +kernel) (pa_cons (pe_op op_cat
    (pe_lc (own := [("u", 2), ("v", 3)]) (g := gTup K 2 (gCons (gName 2) (gCons (gName 3) gNil))) rfl scNearL.nd (pi_list (pe_ix ix_list (pv 0) pe_int (fun _ _ => rfl))) (blkOk_by (N := ["world", "house", "u", "v"]) (sc := defScope sNearL) (by decide +kernel)) (fun _ _ _ _ _ => by exact pg_tup rfl (pgs_cons (pg_name (i := 2) scNearL.nd rfl (.inl rfl)) (pgs_cons (pg_name (i := 3) scNearL.nd rfl (.inl rfl)) pgs_nil)))
      (fun _ _ _ _ _ => pts_one (pt_cmpR op_eq (pv 2) (pv 1) (nomark _))) (fun _ _ _ _ _ => pv 3))
    (pe_lc (own := [("u", 2), ("v", 3)]) (g := gTup K 2 (gCons (gName 2) (gCons (gName 3) gNil))) rfl scNearL.nd (pi_list (pe_ix ix_list (pv 0) pe_int (fun _ _ => rfl))) (blkOk_by (N := ["world", "house", "u", "v"]) (sc := defScope sNearL) (by decide +kernel)) (fun _ _ _ _ _ => by exact pg_tup rfl (pgs_cons (pg_name (i := 2) scNearL.nd rfl (.inl rfl)) (pgs_cons (pg_name (i := 3) scNearL.nd rfl (.inl rfl)) pgs_nil)))
      (fun _ _ _ _ _ => pts_one (pt_cmpR op_eq (pv 3) (pv 1) (nomark _))) (fun _ _ _ _ _ => pv 2))) pa_nil)))), ?_⟩
  · obtain ⟨a, w, h, rfl, _⟩ := h
    rfl
  · obtain ⟨a, w, h, rfl, ⟨r, hh, c, ts, h1, h2, h3, h4, h5⟩, W, hQ⟩ := h
    have lps : w.ps.length ≤ 1000 := by have := W.right.many; have := W.ok.most; omega
    have wl : ∀ σ' : L2.St, σ'[0]? = some (some (.ref a)) → Ev (tOp (rIxL K) (tVar 0) (tC (.int 1))) σ' H0 (.ref r) := fun σ' e => ev_op (ev_var e) ev_c (rv_ixL (sq_of h1) rfl)
    have dec : ∀ x : Nat, decide (V.int (x : Int) = V.int (h : Int)) = decide (x = h) := fun x => decide_eq_decide.mpr ⟨fun z => by have := V.int.inj z; omega, fun z => by rw [z]⟩
    refine s_retL (el_sortN (ns := nearP w h) (ms := Km.near w h) ?_ (near_perm W) near_sorted) hQ
    unfold nearP
    rw [List.map_append, List.map_map, List.map_map]
    refine el_cat2 (el_lcP (fun p => decide (p.1 = h)) (fun p => natV p.2) (wl _ rfl) (sq_of h2) h3 lps (fun _ _ => rfl) (fun pr H1 e1 => et_is (et_test (ev_op (ev_var rfl) (ev_var rfl) (rv_eq rfl))) (dec _)) fun pr H1 e1 => ev_var rfl)
      (el_lcP (fun p => decide (p.2 = h)) (fun p => natV p.1) (wl _ rfl) (sq_of h2) h3 lps (fun _ _ => rfl) (fun pr H1 e1 => et_is (et_test (ev_op (ev_var rfl) (ev_var rfl) (rv_eq rfl))) (dec _)) fun pr H1 e1 => ev_var rfl) ?_
    rw [List.length_map, List.length_map]
    have a1 := List.length_filter_le (fun p : Nat × Nat => decide (p.1 = h)) w.ps
    have a2 := List.length_filter_le (fun p : Nat × Nat => decide (p.2 = h)) w.ps
    omega
theorem ok_ways (F : FnP K "_law_ways" sWays f fd) (mso : mg "sorted" = none) : FnOk P w K mg base CX0 1 f fd ["world"] (spWays K) := by
  refine F.ok scWays (fun vs H Q E h => ?_) fun cdv A outer s H0 vs Q E hr h => ⟨_, PSs.nox (pss_one (ps_ret (pe_callB cr_sortedPO (by rfl) mso (by decide +kernel) (pa_cons (pe_op op_cat (pe_ix ix_list (pv 0) pe_int (fun _ _ => rfl))
    (pe_lc (own := [("u", 1), ("v", 2)]) (g := gTup K 2 (gCons (gName 1) (gCons (gName 2) gNil))) (tt := tYes) rfl scWays.nd (pi_list (pe_ix ix_list (pv 0) pe_int (fun _ _ => rfl))) (blkOk_by (N := ["world", "u", "v"]) (sc := defScope sWays) (by decide +kernel)) (fun _ _ _ _ _ => by exact pg_tup rfl (pgs_cons (pg_name (i := 1) scWays.nd rfl (.inl rfl)) (pgs_cons (pg_name (i := 2) scWays.nd rfl (.inl rfl)) pgs_nil)))
      (fun _ _ _ _ _ => pts_nil) (fun _ _ _ _ _ => pe_tup (pa_cons (pv 2) (pa_cons (pv 1) pa_nil))))) pa_nil)))), ?_⟩
  · obtain ⟨a, w, rfl, _⟩ := h
    rfl
  · obtain ⟨a, w, rfl, ⟨r, hh, c, ts, h1, h2, h3, h4, h5⟩, W, hQ⟩ := h
    have lps : w.ps.length ≤ 1000 := by have := W.right.many; have := W.ok.most; omega
    show tCB _ _ _ H0 _
    refine tcb1 (fun v H8 => ∃ D us, v = .ref D ∧ Ex H0 H8 ∧ H8 D = some (.lst us) ∧ Tps H8 (waysP w) us) (fun Q' q' => ⟨_, rfl, a, _, 1, _, rfl, rfl, sq_of h1, rfl, ?_⟩) fun v H8 hv => ?_
    · refine useQ (fun v H7 => ∃ D us, v = .ref D ∧ Ex H0 H7 ∧ H7 D = some (.lst us) ∧ Tps H7 (w.ps.map fun p => (p.2, p.1)) us) (fun Q2 q2 => ⟨_, rfl, a, _, 1, _, rfl, rfl, sq_of h1, rfl, r, rfl, ⟨_, sq_of h2⟩, ?_⟩) fun v7 H7 hv7 => ?_
      · refine lcF (walk_list (K := K) (a := r) (xs := ts)) (fun _ => true) (fun i v G => ∃ t, v = .ref t ∧ G t = some (.tup [natV (w.ps.getD i (0, 0)).2, natV (w.ps.getD i (0, 0)).1])) (by rw [h3.len]; omega) (fun i v H H' e h => ?_) (fun i v H D xs ys hD _ h => ?_) (fun H e => sq_of (e _ _ h2)) (fun i x H2 H3 hi e yy => ?_) fun D us H2 nD e2 hD ha => ?_
        · obtain ⟨t, e1, e2⟩ := h
          exact ⟨t, e1, e _ _ e2⟩
        · obtain ⟨t, e1, e2⟩ := h
          exact ⟨t, e1, by rw [upd_ne (ne_of e2 hD (fun z => nomatch z))]; exact e2⟩
        · obtain ⟨rfl, hxi⟩ := yy
          obtain ⟨pr, hpr, t, rfl, htt⟩ := h3.of hxi
          have gd : w.ps.getD i (0, 0) = pr := by rw [List.getD_eq_getElem?_getD, hpr]; rfl
          rw [gd]
          refine ⟨Ex.refl _, fun k hk => ⟨t, _, rfl, st_of (e _ _ htt), rfl, _, _, rfl, _, _, rfl, rfl, hk _ _ (Ex.refl _) rfl (fun H9 e9 Q q => by unfold tYes; exact q H9 (Ex.refl _)) fun _ => fun H4 e4 Q q => ⟨_, rfl, _, rfl, Nat.le_of_ble_eq_true rfl, fun tt nt => q _ _ (Ex.new nt) ⟨tt, rfl, upd_same⟩⟩⟩⟩
        · have es : ((List.range ts.length).filter fun _ => true) = List.range w.ps.length := by
            rw [List.filter_eq_self.mpr (fun _ _ => rfl), h3.len]
          rw [es] at ha
          have e : (w.ps.map fun p => (p.2, p.1)) = (List.range w.ps.length).map fun i => ((w.ps.getD i (0, 0)).2, (w.ps.getD i (0, 0)).1) := by
            refine List.ext_getElem (by simp) fun i h1 h2 => ?_
            have : i < w.ps.length := by simpa using h1
            simp [this]
          refine q2 _ H2 ⟨D, us, rfl, e2, hD, ?_⟩
          rw [e]
          exact all2_mapL ha
      · obtain ⟨D, us, rfl, e7, hD, tp⟩ := hv7
        have l1 := h3.len
        have l2 := tp.len
        rw [List.length_map] at l2
        refine ⟨r, D, ts, us, rfl, rfl, e7 _ _ h2, hD, sz_of (by omega), fun p np => q' _ _ ⟨p, ts ++ us, rfl, e7.trans (Ex.new np), upd_same, ?_⟩⟩
        exact All2.app ((h3.mono e7).mono (Ex.new np)) (tp.mono (Ex.new np))
    · obtain ⟨D, us, rfl, e8, hD, tp⟩ := hv
      refine sort_prs (sq_of hD) tp fun qs ys r pp ss tps nr => ?_
      have e : qs = waysL w.n w.ps := Km.perm_eq Km.leP_anti (pp.trans (ways_perm W)) ss ((ways_strict W).imp fun {p q} h => by unfold Km.leP; omega)
      subst e
      exact hQ r ys _ (fresh_back e8 nr) (e8.trans (Ex.new nr)) upd_same (tps.mono (Ex.new nr))
theorem ok_isHouse (F : FnP K "_law_is_house" sIsHouse f fd) (mi : mg "isinstance" = none) (mt : mg "int" = none) (mb : mg "bool" = none) : FnOk P w K mg base CX0 1 f fd ["world", "value"] (spIsHouse K) := by
  refine F.ok scIsHouse (fun vs H Q E h => ?_) fun cdv A outer s H0 vs Q E hr h => ⟨_, PSs.nox (pss_one (ps_ret (pe_and (pe_callB call_isi (by rfl) mi (by decide +kernel) (pa_cons (pv 1) (pa_cons (pe_bltn (v := .ty "int") (by rfl) mt (by decide +kernel : bootBuiltins "int" = some (.type "int")) rfl) pa_nil)))
    (pe_and (pe_not (pe_callB call_isi (by rfl) mi (by decide +kernel) (pa_cons (pv 1) (pa_cons (pe_bltn (v := .ty "bool") (by rfl) mb (by decide +kernel : bootBuiltins "bool" = some (.type "bool")) rfl) pa_nil)))) (pe_one (pe_chain op_le op_lt pe_int (pv 1) (pe_ix ix_list (pv 0) pe_int (fun _ _ => rfl)))))))), ?_⟩
  · obtain ⟨a, w, v, d, rfl, _⟩ := h
    rfl
  · obtain ⟨a, w, v, d, rfl, hw, hd, hQ⟩ := h
    obtain ⟨r, hh, c, ts, h1, h2, h3, h4, h5⟩ := hw
    have two : ∀ (x y z : Bool), kitB (tyD d) "int" = some x → kitB (tyD d) "bool" = some y → (x && (!y && z)) = houseD w.n d → (x = true → (!y) = true → Ev (tChain (rI0 fun i j => .bl (decide (i ≤ j))) (rI0 fun i j => .bl (decide (i < j))) (tC (.int 0)) (tVar 1) (tOp (rIxL K) (tVar 0) (tC (.int 0)))) (start ["world", "value"] [.ref a, v]) H0 (.bl z)) →
        Ev (tAndV (tCB (rIsi K) (tCons (tVar 1) (tCons (tC (.ty "int")) tNil))) (tAndV (tNotV (tCB (rIsi K) (tCons (tVar 1) (tCons (tC (.ty "bool")) tNil)))) (tChain (rI0 fun i j => .bl (decide (i ≤ j))) (rI0 fun i j => .bl (decide (i < j))) (tC (.int 0)) (tVar 1) (tOp (rIxL K) (tVar 0) (tC (.int 0)))))) (start ["world", "value"] [.ref a, v]) H0 (.bl (houseD w.n d)) := fun x y z hx hy e hc => by
      rw [← e]
      exact ev_andV (ev_isB (ev_var rfl) hd hx) fun h => ev_andV (ev_notV (ev_isB (ev_var rfl) hd hy)) (hc h)
    refine s_ret (v := .bl (houseD w.n d)) ?_ hQ
    cases hd with
    | non => exact two false false false (by dsimp only [tyD]; decide +kernel) (by dsimp only [tyD]; decide +kernel) rfl (fun h => nomatch h)
    | bl b => exact two true true false (by dsimp only [tyD]; decide +kernel) (by dsimp only [tyD]; decide +kernel) rfl (fun _ h => nomatch h)
    | int i =>
      refine two true false (decide (0 ≤ i) && decide (i < (w.n : Int))) (by dsimp only [tyD]; decide +kernel) (by dsimp only [tyD]; decide +kernel) ?_ fun _ _ => ?_
      · show _ = (decide (0 ≤ i) && decide (i ≤ (w.n : Int) - 1))
        have : decide (i < (w.n : Int)) = decide (i ≤ (w.n : Int) - 1) := decide_eq_decide.mpr (by omega)
        rw [this]
        rfl
      · intro H1 e1 Q q
        refine ⟨_, rfl, 0, i, rfl, rfl, _, rfl, ?_⟩
        by_cases c : 0 ≤ i
        · rw [if_pos (decide_eq_true c)]
          refine ⟨_, rfl, a, _, 0, natV w.n, rfl, rfl, sq_of (e1 _ _ h1), rfl, i, (w.n : Int), rfl, rfl, ?_⟩
          have z := q H1 (Ex.refl H1)
          rw [decide_eq_true c, Bool.true_and] at z
          exact z
        · rw [if_neg (by rw [decide_eq_false c]; exact Bool.false_ne_true)]
          have z := q H1 (Ex.refl H1)
          rw [decide_eq_false c, Bool.false_and] at z
          exact z
    | str x => exact two false false false (by dsimp only [tyD]; decide +kernel) (by dsimp only [tyD]; decide +kernel) rfl (fun h => nomatch h)
    | lst h k => exact two false false false (by dsimp only [tyD]; decide +kernel) (by dsimp only [tyD]; decide +kernel) rfl (fun h => nomatch h)
    | tup h k => exact two false false false (by dsimp only [tyD]; decide +kernel) (by dsimp only [tyD]; decide +kernel) rfl (fun h => nomatch h)
    | dct h k => exact two false false false (by dsimp only [tyD]; decide +kernel) (by dsimp only [tyD]; decide +kernel) rfl (fun h => nomatch h)
end
end Tr

set_option maxHeartbeats 4000000
/-! ### the law's states (law k04): _law_left, _law_comes, _law_begun -/
namespace Tr
open PySem PySem.Spec PyProof.Rows L2 LK Evl
abbrev sBegun : Stmt := top 53
abbrev sComes : Stmt := top 54
abbrev sLeft : Stmt := top 55
abbrev nBegun : List Str := ["world", "under", "way", "house"]
abbrev nComes : List Str := ["world", "state", "house", "write", "source", "books", "under", "other"]
abbrev nLeft : List Str := ["world", "state", "house", "k"]
theorem scBegun : FnScope nBegun ["world"] (defScope sBegun) := ⟨rfl, rfl, rfl, by decide +kernel, rfl, by decide +kernel, by decide +kernel⟩
theorem scComes : FnScope nComes ["world", "state", "house", "write", "source"] (defScope sComes) := ⟨rfl, rfl, rfl, by decide +kernel, rfl, by decide +kernel, by decide +kernel⟩
theorem scLeft : FnScope nLeft ["world", "state", "house"] (defScope sLeft) := ⟨rfl, rfl, rfl, by decide +kernel, rfl, by decide +kernel, by decide +kernel⟩
/-- a state of the law at q: all but its lists stands in what stays -/
structure Ss (G : Hp) (q : Addr) (w : Km.W) (ad : Slot → Addr) (bl dt : Addr) (kvs : List (List Key × V)) : Prop where
  hx : G q = some (.lst [.ref bl, .ref dt, .ref (ad .dd)])
  hb : G bl = some (.lst ((List.range w.n).map fun h => V.ref (ad (.bk h))))
  hd : G dt = some (.dT kvs)
  hq : ∀ u v, Km.nb w u v → valV kvs [Sum.inl (u : Int), Sum.inl (v : Int)] = some (.ref (ad (.qu u v)))
theorem Ss.mono {G G' : Hp} {q : Addr} {w : Km.W} {ad : Slot → Addr} {bl dt : Addr} {kvs : List (List Key × V)} (h : Ss G q w ad bl dt kvs) (e : Ex G G') : Ss G' q w ad bl dt kvs := ⟨e _ _ h.hx, e _ _ h.hb, e _ _ h.hd, h.hq⟩
def StC (F : Addr → Prop) (H : Hp) (q : Addr) (w : Km.W) (ad : Slot → Addr) (ct : Slot → List V) : Prop := (∃ bl dt kvs, Ss (hidF F H) q w ad bl dt kvs) ∧ (∀ a, In w false ad a → F a) ∧ Cells w false ad H ct
def StAt (F : Addr → Prop) (H : Hp) (q : Addr) (w : Km.W) (ad : Slot → Addr) (s : Km.S) : Prop := ∃ ds, StC F H q w ad (ctOf w s ds) ∧ Deeds (hidF F H) ds s.dd
section
variable {F : Addr → Prop} {H H' : Hp} {q : Addr} {w : Km.W} {ad : Slot → Addr} {ct ct' : Slot → List V}
theorem StC.mono (h : StC F H q w ad ct) (e : Ex H H') : StC F H' q w ad ct := by
  obtain ⟨⟨bl, dt, kvs, h1⟩, h2, h3⟩ := h
  exact ⟨⟨bl, dt, kvs, h1.mono (Fr.of e).hid⟩, h2, h3.mono e⟩
theorem StC.set {s : Slot} {xs : List V} (h : StC F H q w ad ct) (hs : s.ok w false) (e : ct' s = xs) (n : ∀ t : Slot, t ≠ s → ct' t = ct t) : StC F (upd H (ad s) (.lst xs)) q w ad ct' := by
  obtain ⟨⟨bl, dt, kvs, h1⟩, h2, h3⟩ := h
  exact ⟨⟨bl, dt, kvs, h1.mono (Fr.at (h2 _ ⟨s, hs, rfl⟩)).hid⟩, h2, h3.set hs e n⟩
theorem StC.congr (h : StC F H q w ad ct) (e : ∀ s : Slot, s.ok w false → ct s = ct' s) : StC F H q w ad ct' := ⟨h.1, h.2.1, h.2.2.congr e⟩
theorem StC.fr {G : Addr → Prop} (h : StC F H q w ad ct) (e : Fr G H H') (g : ∀ a, G a → F a) (n : ∀ a, In w false ad a → ¬ G a) : StC F H' q w ad ct := by
  obtain ⟨⟨bl, dt, kvs, h1⟩, h2, h3⟩ := h
  exact ⟨⟨bl, dt, kvs, h1.mono (e.up g).hid⟩, h2, h3.fr e n⟩
theorem StAt.mono {s : Km.S} (h : StAt F H q w ad s) (e : Ex H H') : StAt F H' q w ad s := by
  obtain ⟨ds, h1, h2⟩ := h
  exact ⟨ds, h1.mono e, DqAll.mono (Fr.of e).hid h2⟩
theorem StAt.fr {G : Addr → Prop} {s : Km.S} (h : StAt F H q w ad s) (e : Fr G H H') (g : ∀ a, G a → F a) (n : ∀ a, In w false ad a → ¬ G a) : StAt F H' q w ad s := by
  obtain ⟨ds, h1, h2⟩ := h
  exact ⟨ds, h1.fr e g n, DqAll.mono (e.up g).hid h2⟩
theorem StC.live (h : StC F H' q w ad ct) (l : Live F H) (e : Fr (In w false ad) H H') : Live F H' := fun a k => by
  by_cases c : In w false ad a
  · obtain ⟨s, ok, rfl⟩ := c
    exact ⟨_, h.2.2.at' s ok⟩
  · obtain ⟨o, z⟩ := l a k
    exact ⟨o, e _ _ c z⟩
end
theorem inV_nats {k : Nat} {bs : List Nat} : inV (.int (k : Int)) (bs.map natV) = bs.contains k := by
  unfold inV
  induction bs with
  | nil => rfl
  | cons b r ih =>
    rw [List.map_cons, List.any_cons, ih, List.contains_cons]
    congr 1
    show eqV (.int (b : Int)) (.int (k : Int)) = _
    have : eqV (.int (b : Int)) (.int (k : Int)) = decide ((b : Int) = (k : Int)) := rfl
    rw [this]
    by_cases c : k = b
    · subst c; simp
    · have : ¬ ((b : Int) = (k : Int)) := by omega
      simp [c, this]
theorem flat_nats {bs : List Nat} : (bs.map natV).all flatV = true := by
  rw [List.all_map]
  exact List.all_eq_true.mpr fun _ _ => rfl
def spLeft (K : PySem.W.Frag) : Sp := fun vs H Q _ => ∃ (F : Addr → Prop) (a q : Addr) (w : Km.W) (ad : Slot → Addr) (s : Km.S) (h : Nat), vs = [.ref a, .ref q, .int (h : Int)] ∧ WorldAt H a w ∧ StAt F H q w ad s ∧ h < w.n ∧ w.hs.length ≤ 12 ∧ RetL ((Km.left w s h).map natV) H Q
def spComes (K : PySem.W.Frag) : Sp := fun vs H Q _ => ∃ (F : Addr → Prop) (a q : Addr) (w : Km.W) (ad : Slot → Addr) (ct : Slot → List V) (k src h : Nat) (sv : V), vs = [.ref a, .ref q, .int (h : Int), .int (k : Int), sv] ∧ WorldAt (hidF F H) a w ∧ StC F H q w ad ct ∧ Wd w ∧ h < w.n ∧ (∀ s : Slot, s.ok w false → (ct s).length ≤ 5000) ∧
  (∀ b : Nat, Km.nb w h b → scal (.int (b : Int)) sv = true ∧ decide (V.int (b : Int) = sv) = decide (b = src)) ∧ ∀ H2, Fr (In w false ad) H H2 → StC F H2 q w ad (arrC w k src h ct) → Q .non H2
def spBegun (K : PySem.W.Frag) : Sp := fun vs H Q _ => ∃ (F0 : Addr → Prop) (a : Addr) (w : Km.W), vs = [.ref a] ∧ WorldAt H a w ∧ Wd w ∧ Live F0 H ∧ ∀ q H2 ad, Ex H H2 → H q = none → (∀ s : Slot, s.ok w false → H (ad s) = none) → Live (fun a => F0 a ∨ In w false ad a) H2 → StAt (fun a => F0 a ∨ In w false ad a) H2 q w ad Km.begun → Q (.ref q) H2
section
variable {P : Program} {w : World} {K : PySem.W.Frag} {mg : Str → Option Value} {base : Heap} {f f1 f2 : Addr} {fd d1 d2 : FuncData}
theorem ok_left (F : FnP K "_law_left" sLeft f fd) (mr : mg "range" = none) (ml : mg "len" = none) : FnOk P w K mg base CX0 1 f fd ["world", "state", "house"] (spLeft K) := by
  refine F.ok scLeft (fun vs H Q E h => ?_) fun cdv A outer s H0 vs Q E hr h => ⟨_, PSs.nox (pss_one (ps_ret (pe_lc (own := [("k", 3)]) (g := gName 3) rfl scLeft.nd (pi_range1 (by rfl) mr (pa_cons (pe_callB call_len_seq (by rfl) ml PySem.boot_len (pa_cons (pe_ix ix_list (pv 0) pe_int (fun _ _ => rfl)) pa_nil)) pa_nil)) (blkOk_by (N := nLeft) (sc := defScope sLeft) (by decide +kernel)) (fun _ _ _ _ _ => pg_name (i := 3) scLeft.nd rfl (.inl rfl))
    (fun _ _ _ _ _ => pts_one (pw_and (pt_cmpR op_eq (pe_ix (r := rIxL K) ix_list (pe_ix (r := rIxL K) ix_list (pv 0) pe_int (fun _ _ => rfl)) (pv 3) (fun _ _ => rfl)) (pv 2) (nomark _)) (pw_and1 (pt_cmpR (r := rIn K true) op_notIn_seq (pv 3) (pe_ix (r := rIxL K) ix_list (pe_ix (r := rIxL K) ix_list (pv 1) pe_int (fun _ _ => rfl)) (pv 2) (fun _ _ => rfl)) (by rfl)))).pt) (fun _ _ _ _ _ => pv 3)))), ?_⟩
  · obtain ⟨F, a, q, w, ad, s, h, rfl, _⟩ := h
    rfl
  · obtain ⟨F, a, q, w, ad, s, h, rfl, ⟨r, hh, c, ts, h1, h2, h3, h4, h5⟩, ⟨ds, ⟨⟨bl, dt, kvs, hS⟩, hF, hC⟩, hD⟩, hlt, h12, hQ⟩ := h
    have okb : (Slot.bk h).ok w false := hlt
    have q1 := hidF_le _ _ hS.hx
    have b1 := hidF_le _ _ hS.hb
    have c1 := hC.at' _ okb
    have l1 : ((w.hs.map natV).length : Int) = (w.hs.length : Int) := by rw [List.length_map]
    refine s_retL (el_lcR1 (n := (w.hs.length : Int)) (fun k => decide (Km.home w k = h) && !(s.bk h).contains k) (fun k => .int (k : Int)) (ea_cons (by rw [← l1]; exact ev_len (ev_op (ev_var rfl) ev_c (rv_ixL (sq_of h1) rfl)) (sq_of h4)) ea_nil) (by omega) (fun _ => rfl) (fun k H1 e1 hk => ?_) fun k H1 e1 hk hb => ev_var rfl) fun p H2 np e2 hp => ?_
    · have hk' : k < w.hs.length := by omega
      have hv : (w.hs.map natV)[k]? = some (natV (Km.home w k)) := by
        unfold Km.home
        rw [List.getElem?_map, List.getD_eq_getElem?_getD, List.getElem?_eq_getElem hk']
        rfl
      refine et_and (et_is (et_test (ev_op (ev_op (ev_op (ev_var rfl) ev_c (rv_ixL (sq_of (e1 _ _ h1)) (v := .ref hh) rfl)) (ev_var rfl) (rv_ixL (sq_of (e1 _ _ h4)) (atI_nat hv))) (ev_var rfl) (rv_eq rfl))) (decide_eq_decide.mpr ⟨fun z => by have := V.int.inj z; omega, fun z => by rw [z]; rfl⟩)) fun _ => ?_
      rw [← inV_nats]
      exact et_test (ev_op (ev_var rfl) (ev_op (ev_op (ev_var rfl) ev_c (rv_ixL (v := .ref bl) (sq_of (e1 _ _ q1)) rfl)) (ev_var rfl) (rv_ixL (sq_of (e1 _ _ b1)) (atI_nat (rng_at hlt)))) (rv_niL (sq_of (e1 _ _ c1)) rfl flat_nats))
    · refine hQ p H2 np e2 ?_
      rw [hp]
      congr 2
theorem ok_comes (F : FnP K "_law_comes" sComes f fd) (G1 : FnOk P w K mg base CX0 1 f1 d1 ["world", "house"] (spNearW K)) (k1 : Kd K mg "_law_near" ["world", "house"] f1 d1) : FnOk P w K mg base CX0 2 f fd ["world", "state", "house", "write", "source"] (spComes K) := by
  refine F.ok scComes (fun vs H Q E h => ?_) fun cdv A outer s H0 vs Q E hr h => ⟨_, PSs.nox (
    pss_cons (ps_par (i := 5) (j := 6) rfl scComes.nd rfl rfl (by decide) rfl rfl (pa_cons (pe_ix ix_list (pv 1) pe_int (fun _ _ => rfl)) (pa_cons (pe_ix ix_list (pv 1) pe_int (fun _ _ => rfl)) pa_nil)) rfl)
    (pss_cons (ps_expr (pe_bm PySem.F.plainAttrs_list PySem.F.slot_list_append PySem.F.type_list_append mt_append (pe_ix ix_list (pv 5) (pv 2) (fun _ _ => rfl)) (pa_cons (pv 3) pa_nil)))
    (pss_one (ps_for PassesOwn.never rfl (pi_list (pe_call G1 hr (by rfl) k1.m k1.k k1.b .nil pass0 (pa_cons (pv 0) (pa_cons (pv 2) pa_nil)))) (pg_name (i := 7) scComes.nd rfl (.inl rfl))
      (pss_one (ps_if (pt_cmpR op_ne (pv 7) (pv 4) (nomark _)) (pss_one (ps_expr (pe_bm PySem.F.plainAttrs_list PySem.F.slot_list_append PySem.F.type_list_append mt_append (pe_dget (hu_of hr) (pv 6) (pe_tup (pa_cons (pv 2) (pa_cons (pv 7) pa_nil))) (fun _ _ => rfl)) (pa_cons (pv 3) pa_nil)))) pss_nil)))))), ?_⟩
  · obtain ⟨F, a, q, w, ad, ct, k, src, h, sv, rfl, _⟩ := h
    rfl
  · obtain ⟨F, a, q, w, ad, ct, k, src, h, sv, rfl, hw, hR, W, hh, hz, hsv, hQ⟩ := h
    obtain ⟨⟨bl, dt, kvs, hS⟩, hF, hC⟩ := id hR
    have okb : (Slot.bk h).ok w false := hh
    have q1 := hidF_le _ _ hS.hx
    refine ⟨_, rfl, q, _, 0, .ref bl, rfl, rfl, sq_of q1, rfl, _, rfl, q, _, 1, .ref dt, rfl, rfl, sq_of q1, rfl, _, _, rfl, ?_⟩
    show tSeq _ _ _ _ _
    refine q_app (xs := ct (.bk h)) (hC.at' _ okb) (ev_op (ev_var rfl) (ev_var rfl) (rv_ixL (sq_of (hidF_le _ _ hS.hb)) (atI_nat (rng_at hh)))) (ev_var rfl) (by have := hz _ okb; omega) fun H1 e1 => ?_
    have R1 : StC F (upd H1 (ad (.bk h)) (.lst (ct (.bk h) ++ [V.int (k : Int)]))) q w ad (arrP k src h [] ct) := (hR.mono e1).set okb (if_pos rfl) fun t ht => by
      cases t with
      | bk y => exact if_neg fun z => ht (by rw [z])
      | qu a b => exact if_neg fun z => by simp at z
      | un y => rfl
      | dd => rfl
    have fr1 : Fr (In w false ad) H0 (upd H1 (ad (.bk h)) (.lst (ct (.bk h) ++ [V.int (k : Int)]))) := (Fr.of e1).trans (Fr.at ⟨_, okb, rfl⟩)
    have dt0 : ∀ {H'}, Fr (In w false ad) H0 H' → H' dt = some (.dT kvs) := fun {H'} fr => hidF_le _ _ ((fr.up hF).hid _ _ hS.hd)
    have hw' : ∀ {H'}, Fr (In w false ad) H0 H' → WorldAt H' a w := fun {H'} fr => (hw.mono (fr.up hF).hid).mono hidF_le
    generalize upd H1 (ad (.bk h)) (.lst (ct (.bk h) ++ [V.int (k : Int)])) = H2 at R1 fr1 ⊢
    obtain ⟨_, _, hC1⟩ := id R1
    refine s_forNL (xs := (Km.near w h).map natV) (el_call (ea_cons (ev_var rfl) (ea_cons (ev_var rfl) ea_nil)) fun H3 e3 Q q => ⟨a, w, h, rfl, (hw' fr1).mono e3, W, q⟩)
      (fun p j (σ' : L2.St) (H' : Hp) => (∃ y, σ' = [some (.ref a), some (.ref q), some (.int (h : Int)), some (.int (k : Int)), some sv, some (.ref bl), some (.ref dt), y]) ∧ H' p = some (.lst ((Km.near w h).map natV)) ∧ (¬ In w false ad p) ∧ Fr (In w false ad) H0 H' ∧ StC F H' q w ad (arrP k src h ((Km.near w h).take j) ct))
      (fun p H3 np e3 hp => ⟨⟨_, rfl⟩, hp, fun z => ?_, fr1.trans (Fr.of e3), R1.mono e3⟩) (fun p j σ' H' _ q => sq_of q.2.1) (fun p j y σ' H' hy q' => ?_) fun p σ' H' q' => ?_
    · obtain ⟨s, hs, rfl⟩ := z
      have := hC1.at' s hs
      rw [np] at this
      cases this
    · obtain ⟨⟨z, rfl⟩, hp, npi, fr, Rj⟩ := q'
      have hj : j < (Km.near w h).length := by
        have := (List.getElem?_eq_some_iff.mp hy).1
        rwa [List.length_map] at this
      obtain ⟨b, hb⟩ : ∃ b, (Km.near w h)[j]? = some b := ⟨_, List.getElem?_eq_getElem hj⟩
      have hy' : y = natV b := by
        rw [List.getElem?_map, hb] at hy
        exact (Option.some.inj hy).symm
      subst hy'
      have bm : b ∈ Km.near w h := List.mem_of_getElem? hb
      have hn : Km.nb w h b := of_decide_eq_true (List.mem_filter.mp bm).2
      have tk : (Km.near w h).take (j + 1) = (Km.near w h).take j ++ [b] := by rw [List.take_succ, hb]; rfl
      have nd : (Km.near w h).Nodup := List.Pairwise.sublist List.filter_sublist List.nodup_range
      have bn : b ∉ (Km.near w h).take j := fun z => by
        have n2 : ((Km.near w h).take (j + 1)).Nodup := List.Pairwise.sublist (List.take_sublist _ _) nd
        rw [tk] at n2
        exact (List.nodup_append.mp n2).2.2 b z b (List.mem_singleton.mpr rfl) rfl
      obtain ⟨sc, sd⟩ := hsv b hn
      show tIfS _ _ _ _ _ _
      refine s_when (b := !decide (V.int (b : Int) = sv)) (et_test (ev_op (ev_var rfl) (ev_var rfl) (rv_ne sc))) (fun hb1 H4 e4 => ?_) fun hb1 H4 e4 => ?_
      · have ne : b ≠ src := fun z => by
          rw [sd, z] at hb1
          simp at hb1
        obtain ⟨_, _, hC⟩ := id (Rj.mono e4)
        have okq : (Slot.qu h b).ok w false := hn
        have ct' : arrP k src h ((Km.near w h).take j) ct (.qu h b) = ct (.qu h b) := if_neg fun z => bn z.2.1
        refine s_app (hC.at' _ okq) (ev_dgT (k := [Sum.inl (h : Int), Sum.inl (b : Int)]) (ev_var rfl) (e4 _ _ (dt0 fr)) (eu_tup (ea_cons (ev_var rfl) (ea_cons (ev_var rfl) ea_nil)) (by show 2 ≤ 100000; decide)) (hS.hq h b hn)) (ev_var rfl) (by rw [ct']; have := hz _ okq; omega) fun H5 e5 => ?_
        refine ⟨⟨_, rfl⟩, ?_, npi, ((fr.trans (Fr.of e4)).trans (Fr.of e5)).trans (Fr.at ⟨_, okq, rfl⟩), ?_⟩
        · rw [upd_ne (fun z => npi ⟨_, okq, z.symm⟩)]
          exact e5 _ _ (e4 _ _ hp)
        · rw [tk]
          refine ((Rj.mono e4).mono e5).set okq ?_ fun t ht => ?_
          · rw [ct']
            exact if_pos ⟨rfl, List.mem_append_right _ (List.mem_singleton.mpr rfl), ne⟩
          · cases t with
            | bk y => rfl
            | un y => rfl
            | dd => rfl
            | qu a c =>
              show (if a = h ∧ c ∈ _ ++ [b] ∧ c ≠ src then _ else _) = if a = h ∧ c ∈ _ ∧ c ≠ src then _ else _
              by_cases c1 : a = h ∧ c = b
              · exact absurd (by rw [c1.1, c1.2]) ht
              · have e : (a = h ∧ c ∈ (Km.near w h).take j ++ [b] ∧ c ≠ src) ↔ (a = h ∧ c ∈ (Km.near w h).take j ∧ c ≠ src) := by
                  rw [List.mem_append, List.mem_singleton]
                  constructor
                  · rintro ⟨q1, q2 | q2, q3⟩
                    · exact ⟨q1, q2, q3⟩
                    · exact absurd ⟨q1, q2⟩ c1
                  · rintro ⟨q1, q2, q3⟩
                    exact ⟨q1, .inl q2, q3⟩
                simp only [e]
      · have eq : b = src := by
          rw [sd] at hb1
          simpa using hb1
        refine ⟨⟨_, rfl⟩, e4 _ _ hp, npi, fr.trans (Fr.of e4), ?_⟩
        rw [tk]
        refine (Rj.mono e4).congr fun s _ => ?_
        cases s with
        | bk y => rfl
        | un y => rfl
        | dd => rfl
        | qu a c =>
          show (if a = h ∧ c ∈ _ ∧ c ≠ src then _ else _) = if a = h ∧ c ∈ _ ++ [b] ∧ c ≠ src then _ else _
          have e : (a = h ∧ c ∈ (Km.near w h).take j ++ [b] ∧ c ≠ src) ↔ (a = h ∧ c ∈ (Km.near w h).take j ∧ c ≠ src) := by
            rw [List.mem_append, List.mem_singleton]
            constructor
            · rintro ⟨q1, q2 | q2, q3⟩
              · exact ⟨q1, q2, q3⟩
              · exact absurd (q2.trans eq) q3
            · rintro ⟨q1, q2, q3⟩
              exact ⟨q1, .inl q2, q3⟩
          simp only [e]
    · obtain ⟨_, _, _, fr, Rj⟩ := q'
      refine hQ H' fr (Rj.congr fun s hs => ?_)
      rw [List.length_map, List.take_length]
      cases s with
      | bk y => rfl
      | un y => rfl
      | dd => rfl
      | qu a b =>
        show (if a = h ∧ b ∈ _ ∧ b ≠ src then _ else _) = if a = h ∧ Km.nb w h b ∧ b ≠ src then _ else _
        by_cases c : a = h
        · subst c
          have hb : Km.nb w a b := hs
          have bm : b ∈ Km.near w a := List.mem_filter.mpr ⟨List.mem_range.mpr (Km.nb_r W.ok hb), decide_eq_true hb⟩
          simp [bm, hb]
        · simp [c]
theorem s_retFirst {σ : L2.St} {H : Hp} {te : TE} {tr : TA} {D : Ends} (PP : V → Hp → Prop) (h : ∀ Q : VK, (∀ v H2, PP v H2 → Q v H2) → te σ H Q) (k : ∀ v H2, PP v H2 → tr σ H2 fun vs H3 => (v :: vs).length ≤ sizeLine ∧ ∀ p, H3 p = none → D.rt (.ref p) (upd H3 p (.lst (v :: vs)))) : tRet (tLst (tCons te tr)) D σ H := h _ fun v H2 p => k v H2 p
theorem ok_begun (F : FnP K "_law_begun" sBegun f fd) (G1 : FnOk P w K mg base CX0 1 f1 d1 ["world"] (spWays K)) (k1 : Kd K mg "_law_ways" ["world"] f1 d1) (mr : mg "range" = none) : FnOk P w K mg base CX0 2 f fd ["world"] (spBegun K) := by
  refine F.ok scBegun (fun vs H Q E h => ?_) fun cdv A outer s H0 vs Q E hr h => ⟨_, PSs.nox (
    pss_cons (ps_set (i := 1) scBegun.nd rfl (.inl rfl) pe_dnewT)
    (pss_cons (ps_for PassesOwn.never rfl (pi_list (pe_call G1 hr (by rfl) k1.m k1.k k1.b .nil pass0 (pa_cons (pv 0) pa_nil))) (pg_name (i := 2) scBegun.nd rfl (.inl rfl)) (pss_one (ps_dput (hu_of hr) (pv 1) (pv 2) (pe_lst pa_nil) rfl)))
    (pss_one (ps_ret (pe_lst (pa_cons (pe_lc (own := [("house", 3)]) (g := gName 3) (tt := tYes) rfl scBegun.nd (pi_range1 (by rfl) mr (pa_cons (pe_ix ix_list (pv 0) pe_int (fun _ _ => rfl)) pa_nil)) (blkOk_by (N := nBegun) (sc := defScope sBegun) (by decide +kernel)) (fun _ _ _ _ _ => pg_name (i := 3) scBegun.nd rfl (.inl rfl)) (fun _ _ _ _ _ => pts_nil) (fun _ _ _ _ _ => pe_lst pa_nil)) (pa_cons (pv 1) (pa_cons (pe_lst pa_nil) pa_nil)))))))), ?_⟩
  · obtain ⟨F0, a, w, rfl, _⟩ := h
    rfl
  · obtain ⟨F0, a, w, rfl, hw, W, hL, hQ⟩ := h
    have n16 := W.ok.most
    refine fun dt ndt => ?_
    show tSeq _ _ _ _ _
    have e1 : Ex H0 (upd H0 dt (.dT [])) := Ex.new ndt
    refine ⟨_, rfl, a, w, rfl, hw.mono e1, W, fun p us H2 np e2 hp htp => ⟨p, rfl, ⟨_, sq_of hp⟩, ?_⟩⟩
    have lus : us.length = (waysL w.n w.ps).length := htp.len
    have lw := ways_len W
    have dt2 : H2 dt = some (.dT []) := e2 _ _ upd_same
    have pdt : p ≠ dt := (ne_of_none upd_same np).symm
    refine for_it (walk_list (K := K) (a := p) (xs := us)) (fun i (σ' : L2.St) (H : Hp) => (∃ y, σ' = [some (.ref a), some (.ref dt), y, none]) ∧ H p = some (.lst us) ∧ Tps H (waysL w.n w.ps) us ∧ DcI H0 dt (waysL w.n w.ps) i H)
      ⟨⟨_, rfl⟩, hp, htp, e1.trans e2, [], dt2, Nat.le_refl _, fun k v z => (by cases z), fun k k' a z => (by cases z), fun j p z => (by omega)⟩ (fun i σ' H _ q => sq_of q.2.1) (fun i y σ' H H9 hi q yy => ?_) fun σ' H q' => ?_
    · obtain ⟨rfl, hy⟩ := yy
      obtain ⟨⟨z, rfl⟩, qp, qt, qe, kvs, qk, ql, qv, qj, qa⟩ := q
      obtain ⟨pr, hpr, t, rfl, htt⟩ := qt.of hy
      refine ⟨Nat.zero_le _, fun b na => ⟨_, rfl, _, rfl, dt, _, rfl, DPut.t (k := [Sum.inl (pr.1 : Int), Sum.inl (pr.2 : Int)]) ((Ex.new na) _ _ qk) ((Ex.new na) _ _ htt) (sz_lt (by omega)), ?_⟩⟩
      have ea : Ex H9 (upd H9 b (.lst [])) := Ex.new na
      have aD : b ≠ dt := (ne_of_none qk na).symm
      refine ⟨⟨_, rfl⟩, by rw [upd_ne pdt]; exact ea _ _ qp, Tps.putT (ea _ _ qk) (qt.mono ea), Ex.mut (qe.trans ea) ndt, _, upd_same, Nat.le_trans (length_putK _ _ _) (by omega), fun k v z => ?_, fun k k' b' z z' => ?_, fun j p' hj hp' => ?_⟩
      · rw [valV_put] at z
        by_cases c : k = [Sum.inl (pr.1 : Int), Sum.inl (pr.2 : Int)]
        · rw [if_pos c] at z
          cases z
          exact ⟨b, rfl, aD, fresh_back qe na, by rw [upd_ne aD]; exact upd_same⟩
        · rw [if_neg c] at z
          obtain ⟨b', rfl, h1, h2, h3⟩ := qv k v z
          exact ⟨b', rfl, h1, h2, by rw [upd_ne h1]; exact ea _ _ h3⟩
      · rw [valV_put] at z z'
        have old : ∀ k b', valV kvs k = some (.ref b') → b' ≠ b := fun k b' z => by
          obtain ⟨b2, e, h1, h2, h3⟩ := qv k _ z
          cases e
          exact ne_of_none h3 na
        by_cases c : k = [Sum.inl (pr.1 : Int), Sum.inl (pr.2 : Int)]
        · by_cases c' : k' = [Sum.inl (pr.1 : Int), Sum.inl (pr.2 : Int)]
          · rw [c, c']
          · rw [if_pos c] at z
            rw [if_neg c'] at z'
            cases z
            exact absurd rfl (old _ _ z')
        · rw [if_neg c] at z
          by_cases c' : k' = [Sum.inl (pr.1 : Int), Sum.inl (pr.2 : Int)]
          · rw [if_pos c'] at z'
            cases z'
            exact absurd rfl (old _ _ z)
          · rw [if_neg c'] at z'
            exact qj k k' b' z z'
      · rw [valV_put]
        by_cases c : [Sum.inl (p'.1 : Int), Sum.inl (p'.2 : Int)] = ([Sum.inl (pr.1 : Int), Sum.inl (pr.2 : Int)] : List Key)
        · exact ⟨_, if_pos c⟩
        · rw [if_neg c]
          rcases Nat.lt_or_ge j i with g | g
          · exact qa j p' g hp'
          · have : j = i := by omega
            subst this
            rw [hpr] at hp'
            cases hp'
            exact absurd rfl c
    · obtain ⟨⟨z, rfl⟩, qp, qt, qe, kvs, qk, ql, qv, qj, qa⟩ := q'
      obtain ⟨r, hh, c, ts, h1, _⟩ := id hw
      dsimp only
      refine s_retFirst (fun v H4 => ∃ bl bs, v = .ref bl ∧ H bl = none ∧ Ex H H4 ∧ H4 bl = some (.lst bs) ∧ Cls2 H w.n (fun h => []) bl bs H4) (fun Q2 q2 => ⟨_, rfl, a, _, 0, natV w.n, rfl, rfl, sq_of (qe _ _ h1), rfl, (w.n : Int), rfl, by omega, by omega, ?_⟩) fun v H4 hv => ?_
      · refine lcN (n := (w.n : Int).toNat) walk_R (fun h => []) (by omega) (fun _ _ => trivial) (fun i y H H' hi e yy => ?_) fun p us H4 np e4 hp nd ha => q2 _ H4 ⟨p, us, rfl, np, e4, hp, cls2_of nd ha⟩
        obtain ⟨rfl, rfl⟩ := yy
        exact ⟨Ex.refl _, fun k hk => hk _ _ (Ex.refl _) rfl (el_lst ea_nil (Nat.zero_le _))⟩
      · obtain ⟨bl, bs, rfl, nbl, e4, hbl, cb⟩ := hv
        refine ⟨_, rfl, Nat.zero_le _, fun dl ndl => ⟨Nat.le_of_ble_eq_true rfl, fun q nq => ?_⟩⟩
        have e5 : Ex H4 (upd H4 dl (.lst [])) := Ex.new ndl
        have e6 : Ex (upd H4 dl (.lst [])) (upd (upd H4 dl (.lst [])) q (.lst [.ref bl, .ref dt, .ref dl])) := Ex.new nq
        have eH := (e4.trans e5).trans e6
        have e0 := qe.trans eH
        have dl6 : upd (upd H4 dl (.lst [])) q (.lst [.ref bl, .ref dt, .ref dl]) dl = some (.lst []) := e6 _ _ upd_same
        have q6 : upd (upd H4 dl (.lst [])) q (.lst [.ref bl, .ref dt, .ref dl]) q = some (.lst [.ref bl, .ref dt, .ref dl]) := upd_same
        have nq0 : H4 q = none := fresh_back e5 nq
        have qn8 : ∀ u v, Km.nb w u v → ∃ a, valV kvs [Sum.inl (u : Int), Sum.inl (v : Int)] = some (.ref a) ∧ refD kvs u v = a ∧ a ≠ dt ∧ H0 a = none ∧ H a = some (.lst []) := fun u v huv => by
          obtain ⟨j, hj⟩ := List.mem_iff_getElem?.mp (mem_ways W huv)
          have : j < us.length := by
            rw [lus]
            exact (List.getElem?_eq_some_iff.mp hj).1
          obtain ⟨v', hv'⟩ := qa j _ this hj
          obtain ⟨a, rfl, h1, h2, h3⟩ := qv _ _ hv'
          exact ⟨a, hv', by unfold refD; rw [hv'], h1, h2, h3⟩
        generalize upd (upd H4 dl (.lst [])) q (.lst [.ref bl, .ref dt, .ref dl]) = H6 at e6 dl6 q6 eH e0 ⊢
        have bn4 := cb.at'
        have bnH := cb.nw
        have okz : ∀ s : Slot, s.ok w false → H0 (mkAd [] bs kvs dl s) = none := fun s hs => by
          cases s with
          | un h => cases hs.1
          | bk h => exact fresh_back qe (cb.nw h hs)
          | qu u v =>
            obtain ⟨a, z1, z2, z3, z4, z5⟩ := qn8 u v hs
            show H0 (refD kvs u v) = none
            rw [z2]; exact z4
          | dd => exact fresh_back qe (fresh_back e4 ndl)
        have bnq : ∀ h u v, h < w.n → Km.nb w u v → refAt bs h ≠ refD kvs u v := fun h u v hh huv => by
          obtain ⟨a, z1, z2, z3, z4, z5⟩ := qn8 u v huv
          rw [z2]
          exact (ne_of_none z5 (cb.nw h hh)).symm
        have bnd : ∀ h, h < w.n → refAt bs h ≠ dl := fun h hh => ne_of_none (cb.at' h hh) ndl
        have qnd : ∀ u v, Km.nb w u v → refD kvs u v ≠ dl := fun u v huv => by
          obtain ⟨a, z1, z2, z3, z4, z5⟩ := qn8 u v huv
          rw [z2]
          exact ne_of_none (e4 _ _ z5) ndl
        have inj : ∀ s t : Slot, s.ok w false → t.ok w false → mkAd [] bs kvs dl s = mkAd [] bs kvs dl t → s = t := fun s t hs ht e => by
          cases s with
          | un h => cases hs.1
          | bk h =>
            cases t with
            | un k => cases ht.1
            | bk k => rw [cb.inj h k hs ht e]
            | qu u v => exact absurd e (bnq h u v hs ht)
            | dd => exact absurd e (bnd h hs)
          | qu u v =>
            cases t with
            | un k => cases ht.1
            | bk k => exact absurd e.symm (bnq k u v ht hs)
            | qu u' v' =>
              obtain ⟨a, h1, h2, _⟩ := qn8 u v hs
              obtain ⟨b, f1, f2, _⟩ := qn8 u' v' ht
              have e : refD kvs u v = refD kvs u' v' := e
              rw [h2, f2] at e
              subst e
              have z := qj _ _ _ h1 f1
              injection z with z1 z2
              injection z2 with z2 z3
              have z1 := Sum.inl.inj z1
              have z2 := Sum.inl.inj z2
              rw [show u = u' by omega, show v = v' by omega]
            | dd => exact absurd e (qnd u v hs)
          | dd =>
            cases t with
            | un k => cases ht.1
            | bk k => exact absurd e.symm (bnd k ht)
            | qu u v => exact absurd e.symm (qnd u v ht)
            | dd => rfl
        have notF : ∀ {a : Addr}, H0 a = none → (∀ s : Slot, s.ok w false → mkAd [] bs kvs dl s ≠ a) → ¬ (F0 a ∨ In w false (mkAd [] bs kvs dl) a) := fun {a} h n z => by
          rcases z with z | ⟨s, hs, e⟩
          · exact hL.new h z
          · exact n s hs e
        have nbl' : ¬ (F0 bl ∨ In w false (mkAd [] bs kvs dl) bl) := notF (fresh_back qe nbl) fun s hs => by
          cases s with
          | un h => cases hs.1
          | bk h => exact cb.nep h hs
          | qu u v =>
            obtain ⟨a, z1, z2, z3, z4, z5⟩ := qn8 u v hs
            show refD kvs u v ≠ bl
            rw [z2]
            exact ne_of_none z5 nbl
          | dd => exact (ne_of_none hbl ndl).symm
        have ndt' : ¬ (F0 dt ∨ In w false (mkAd [] bs kvs dl) dt) := notF ndt fun s hs => by
          cases s with
          | un h => cases hs.1
          | bk h => exact (ne_of_none qk (cb.nw h hs)).symm
          | qu u v =>
            obtain ⟨a, z1, z2, z3, z4, z5⟩ := qn8 u v hs
            show refD kvs u v ≠ dt
            rw [z2]
            exact z3
          | dd => exact (ne_of_none (e4 _ _ qk) ndl).symm
        have nqq : ¬ (F0 q ∨ In w false (mkAd [] bs kvs dl) q) := notF (fresh_back qe (fresh_back e4 nq0)) fun s hs => by
          cases s with
          | un h => cases hs.1
          | bk h => exact ne_of_none (cb.at' h hs) nq0
          | qu u v =>
            obtain ⟨a, z1, z2, z3, z4, z5⟩ := qn8 u v hs
            show refD kvs u v ≠ q
            rw [z2]
            exact ne_of_none (e4 _ _ z5) nq0
          | dd => exact ne_of_none (upd_same (H := H4)) nq
        have cells : Cells w false (mkAd [] bs kvs dl) H6 (ctOf w Km.begun []) := ⟨inj, fun s hs => by
          cases s with
          | un h => cases hs.1
          | bk h => exact e6 _ _ (e5 _ _ (cb.at' h hs))
          | qu u v =>
            obtain ⟨a, z1, z2, z3, z4, z5⟩ := qn8 u v hs
            show H6 (refD kvs u v) = some (.lst [])
            rw [z2]
            exact eH _ _ z5
          | dd => exact dl6⟩
        refine hQ q H6 (mkAd [] bs kvs dl) e0 (fresh_back qe (fresh_back e4 nq0)) okz (fun a k => ?_) ⟨[], ⟨⟨bl, dt, kvs, ⟨?_, ?_, ?_, ?_⟩⟩, fun a h => .inr h, cells⟩, .nil⟩
        · rcases k with k | ⟨t, ht, rfl⟩
          · obtain ⟨o, z⟩ := hL a k
            exact ⟨o, e0 _ _ z⟩
          · exact ⟨_, cells.at' t ht⟩
        · rw [hidF_eq nqq]
          exact q6
        · rw [hidF_eq nbl', e6 _ _ (e5 _ _ hbl)]
          exact congrArg (fun l => some (HO.lst l)) cb.eq
        · rw [hidF_eq ndt']
          exact eH _ _ qk
        · intro u v huv
          obtain ⟨a, z1, z2, _⟩ := qn8 u v huv
          rw [z1]
          show _ = some (V.ref (refD kvs u v))
          rw [z2]
end
end Tr

set_option maxHeartbeats 4000000
/-! ### a deed in the law's state (law k04): _law_due -/
namespace Tr
open PySem PySem.Spec PyProof.Rows L2 LK Evl
abbrev sDue : Stmt := top 57
abbrev nDue : List Str := ["world", "state", "deed", "value", "left", "u", "v", "write"]
theorem scDue : FnScope nDue ["world", "state", "deed"] (defScope sDue) := ⟨rfl, rfl, rfl, by decide +kernel, rfl, by decide +kernel, by decide +kernel⟩
/-- a deed that is asked for -/
inductive Dx where
  | mk (d : PyData)
  | hd (d e : PyData)
def Dx.l : Dx → List PyData
  | .mk d => [d]
  | .hd d e => [d, e]
def Dx.nm : Dx → Str
  | .mk _ => "make"
  | .hd _ _ => "hand"
def natOf : PyData → Nat
  | .int i => i.toNat
  | _ => 0
def toldD (l : List PyData) : PyData := .list l
/-- what becomes of it -/
def dueOf (w : Km.W) (s : Km.S) : Dx → Km.S × PyData
  | .mk d => if houseD w.n d = true then (match Km.step w s (.mk (natOf d)) with
    | some (t, k) => (t, .list [.str "write", natD k])
    | none => (s, .list [.str "nothing to make", d])) else (s, .list [.str "no house", d])
  | .hd d e => if houseD w.n d = true then (if houseD w.n e = true then (if Km.nb w (natOf d) (natOf e) then (match Km.step w s (.hd (natOf d) (natOf e)) with
    | some (t, k) => (t, .list [.str "write", natD k])
    | none => (s, .list [.str "nothing under way", d, e])) else (s, .list [.str "no road", d, e])) else (s, .list [.str "no house", e])) else (s, .list [.str "no house", d])
/-- the deed's tuple -/
def DxAt (G : Hp) (t : Addr) : Dx → Prop
  | .mk d => ∃ v, G t = some (.tup [.str "make", v]) ∧ Dq G v d
  | .hd d e => ∃ v u, G t = some (.tup [.str "hand", v, u]) ∧ Dq G v d ∧ Dq G u e
theorem DxAt.mono {G G' : Hp} {t : Addr} {dx : Dx} (e : Ex G G') (h : DxAt G t dx) : DxAt G' t dx := by
  cases dx with
  | mk d =>
    obtain ⟨v, h1, h2⟩ := h
    exact ⟨v, e _ _ h1, Dq.mono e h2⟩
  | hd d d' =>
    obtain ⟨v, u, h1, h2, h3⟩ := h
    exact ⟨v, u, e _ _ h1, Dq.mono e h2, Dq.mono e h3⟩
theorem due_mk0 {w : Km.W} {s : Km.S} {d : PyData} (n : houseD w.n d = false) : dueOf w s (.mk d) = (s, .list [.str "no house", d]) := by simp [dueOf, n]
theorem due_mk1 {w : Km.W} {s : Km.S} {d : PyData} (n : houseD w.n d = true) (e : Km.step w s (.mk (natOf d)) = none) : dueOf w s (.mk d) = (s, .list [.str "nothing to make", d]) := by simp [dueOf, n, e]
theorem due_mk2 {w : Km.W} {s t : Km.S} {d : PyData} {k : Nat} (n : houseD w.n d = true) (e : Km.step w s (.mk (natOf d)) = some (t, k)) : dueOf w s (.mk d) = (t, .list [.str "write", natD k]) := by simp [dueOf, n, e]
theorem due_hd0 {w : Km.W} {s : Km.S} {d e : PyData} (n : houseD w.n d = false) : dueOf w s (.hd d e) = (s, .list [.str "no house", d]) := by simp [dueOf, n]
theorem due_hd1 {w : Km.W} {s : Km.S} {d e : PyData} (n : houseD w.n d = true) (m : houseD w.n e = false) : dueOf w s (.hd d e) = (s, .list [.str "no house", e]) := by simp [dueOf, n, m]
theorem due_hd2 {w : Km.W} {s : Km.S} {d e : PyData} (n : houseD w.n d = true) (m : houseD w.n e = true) (b : ¬ Km.nb w (natOf d) (natOf e)) : dueOf w s (.hd d e) = (s, .list [.str "no road", d, e]) := by simp [dueOf, n, m, b]
theorem due_hd3 {w : Km.W} {s : Km.S} {d e : PyData} (n : houseD w.n d = true) (m : houseD w.n e = true) (b : Km.nb w (natOf d) (natOf e)) (z : Km.step w s (.hd (natOf d) (natOf e)) = none) : dueOf w s (.hd d e) = (s, .list [.str "nothing under way", d, e]) := by simp [dueOf, n, m, b, z]
theorem due_hd4 {w : Km.W} {s t : Km.S} {d e : PyData} {k : Nat} (n : houseD w.n d = true) (m : houseD w.n e = true) (b : Km.nb w (natOf d) (natOf e)) (z : Km.step w s (.hd (natOf d) (natOf e)) = some (t, k)) : dueOf w s (.hd d e) = (t, .list [.str "write", natD k]) := by simp [dueOf, n, m, b, z]
theorem no_house {w : Km.W} {s : Km.S} {dx : Dx} {i : Nat} {d : PyData} (h : dx.l[i]? = some d) (n : houseD w.n d = false) (a : ∀ j d', j < i → dx.l[j]? = some d' → houseD w.n d' = true) : dueOf w s dx = (s, .list [.str "no house", d]) := by
  cases dx with
  | mk e =>
    match i, h with
    | 0, h =>
      cases h
      exact due_mk0 n
    | i + 1, h => cases h
  | hd e e' =>
    match i, h with
    | 0, h =>
      cases h
      exact due_hd0 n
    | 1, h =>
      cases h
      exact due_hd1 (a 0 e (by decide) rfl) n
    | i + 2, h => cases h
theorem step_mk0 {w : Km.W} {s : Km.S} {h : Nat} (e : Km.left w s h = []) : Km.step w s (.mk h) = none := by
  show (match Km.left w s h with | [] => none | k :: _ => _) = none
  rw [e]
theorem step_hd0 {w : Km.W} {s : Km.S} {u v : Nat} (e : s.qu u v = []) : Km.step w s (.hd u v) = none := by
  show (match s.qu u v with | [] => none | k :: _ => _) = none
  rw [e]
def spDue (K : PySem.W.Frag) : Sp := fun vs H Q _ => ∃ (F : Addr → Prop) (a q t : Addr) (w : Km.W) (ad : Slot → Addr) (s : Km.S) (dx : Dx), vs = [.ref a, .ref q, .ref t] ∧ WorldAt (hidF F H) a w ∧ StAt F H q w ad s ∧ Live F H ∧ Wd w ∧ Km.Run w s ∧ DxAt (hidF F H) t dx ∧
  ∀ r H2, Fr (In w false ad) H H2 → Live F H2 → StAt F H2 q w ad (dueOf w s dx).1 → H r = none → Dq (hidF F H2) (.ref r) (dueOf w s dx).2 → Q (.ref r) H2
section
variable {P : Program} {w : World} {K : PySem.W.Frag} {mg : Str → Option Value} {base : Heap} {f f1 f2 f3 f4 : Addr} {fd d1 d2 d3 d4 : FuncData}
theorem et_eqNil {σ : L2.St} {H : Hp} {ta : TE} {l : Addr} {xs : List V} {ds : List PyData} (h : Ev ta σ H (.ref l)) (hl : SqL K H l xs) (hd : DpAll K H xs ds) (sh : ∀ d ∈ ds, d.canLay0 = true ∧ d.depth ≤ 60) : EvT (tTest (tOp (rEqD K) ta (tLst tNil))) σ H ds.isEmpty :=
  et_is (et_test (ev_opL h (el_lst ea_nil (Nat.zero_le _)) fun p H1 hp e => rv_eqD (d := .list ds) (e := .list []) (ex_dp e (.lst hl hd)) (.lst (sq_of hp) .nil) (PyData.shaped_list sh) (PyData.shaped_list fun d hd => by cases hd))) (by rw [PyData.eqv_nil])
theorem q_callC {tz : TS} {D : Ends} {sp : Sp} {dvs : List V} {E : XK} {σ : L2.St} {H : Hp} {ta : TA} {vs : List V} (h : EvA ta σ H vs) (k : ∀ H1, Ex H H1 → sp (vs ++ dvs) H1 (fun _ H2 => tz D σ H2) E) : tSeq (tDrop (tCall sp dvs E ta)) tz D σ H := h H (Ex.refl H) _ k
theorem house_nat {n : Nat} {d : PyData} (h : houseD n d = true) : d = .int ((natOf d : Nat) : Int) ∧ natOf d < n := by
  obtain ⟨u, rfl, hu⟩ := house_of h
  have : natOf (.int (u : Int)) = u := by simp [natOf]
  rw [this]
  exact ⟨rfl, hu⟩
theorem ok_due (F : FnP K "_law_due" sDue f fd) (G1 : FnOk P w K mg base CX0 1 f1 d1 ["world", "value"] (spIsHouse K)) (k1 : Kd K mg "_law_is_house" ["world", "value"] f1 d1) (G2 : FnOk P w K mg base CX0 1 f2 d2 ["world", "state", "house"] (spLeft K)) (k2 : Kd K mg "_law_left" ["world", "state", "house"] f2 d2)
    (G3 : FnOk P w K mg base CX0 2 f3 d3 ["world", "state", "house", "write", "source"] (spComes K)) (k3 : Kd K mg "_law_comes" ["world", "state", "house", "write", "source"] f3 d3) (G4 : FnOk P w K mg base CX0 1 f4 d4 ["world", "house"] (spNearW K)) (k4 : Kd K mg "_law_near" ["world", "house"] f4 d4) :
    FnOk P w K mg base CX0 3 f fd ["world", "state", "deed"] (spDue K) := by
  refine F.ok scDue (fun vs H Q E h => ?_) fun cdv A outer s H0 vs Q E hr h => ⟨_, PSs.nox (
    pss_cut (ps_for PassesOwn.never rfl (pi_tup (pe_slice sl_tup (pv 2) (po_some pe_int) po_none)) (pg_name (i := 3) scDue.nd rfl (.inl rfl))
      (pss_one (ps_if (pt_not (pt_val (pe_call G1 (hr.mono (by decide)) (by rfl) k1.m k1.k k1.b .nil pass0 (pa_cons (pv 0) (pa_cons (pv 3) pa_nil))))) (pss_one (ps_ret (pe_lst (pa_cons pe_str (pa_cons (pv 3) pa_nil))))) pss_nil)))
    (pss_cons (ps_if (pt_cmpR op_eq (pe_ix ix_tup (pv 2) pe_int (fun _ _ => rfl)) pe_str (nomark _))
      (pss_cons (ps_set (i := 4) scDue.nd rfl (.inl rfl) (pe_call G2 (hr.mono (by decide)) (by rfl) k2.m k2.k k2.b .nil pass0 (pa_cons (pv 0) (pa_cons (pv 1) (pa_cons (pe_ix ix_tup (pv 2) pe_int (fun _ _ => rfl)) pa_nil)))))
      (pss_cons (ps_if (pt_cmpR (op_eqD hr.units) (pv 4) (pe_lst pa_nil) (nomark _)) (pss_one (ps_ret (pe_lst (pa_cons pe_str (pa_cons (pe_ix ix_tup (pv 2) pe_int (fun _ _ => rfl)) pa_nil))))) pss_nil)
      (pss_cons (ps_expr (pe_call G3 hr (by rfl) k3.m k3.k k3.b .nil pass0 (pa_cons (pv 0) (pa_cons (pv 1) (pa_cons (pe_ix ix_tup (pv 2) pe_int (fun _ _ => rfl)) (pa_cons (pe_ix ix_list (pv 4) pe_int (fun _ _ => rfl)) (pa_cons pe_non pa_nil)))))))
      (pss_cons (ps_expr (pe_bm PySem.F.plainAttrs_list PySem.F.slot_list_append PySem.F.type_list_append mt_append (pe_ix ix_list (pv 1) pe_int (fun _ _ => rfl)) (pa_cons (pv 2) pa_nil)))
      (pss_one (ps_ret (pe_lst (pa_cons pe_str (pa_cons (pe_ix ix_list (pv 4) pe_int (fun _ _ => rfl)) pa_nil))))))))) pss_nil)
    (pss_cons (ps_par (i := 5) (j := 6) rfl scDue.nd rfl rfl (by decide) rfl rfl (pa_cons (pe_ix ix_tup (pv 2) pe_int (fun _ _ => rfl)) (pa_cons (pe_ix ix_tup (pv 2) pe_int (fun _ _ => rfl)) pa_nil)) rfl)
    (pss_cons (ps_if (pt_cmpR op_notIn_seq (pv 6) (pe_call G4 (hr.mono (by decide)) (by rfl) k4.m k4.k k4.b .nil pass0 (pa_cons (pv 0) (pa_cons (pv 5) pa_nil))) (by rfl)) (pss_one (ps_ret (pe_lst (pa_cons pe_str (pa_cons (pv 5) (pa_cons (pv 6) pa_nil)))))) pss_nil)
    (pss_cons (ps_if (pt_cmpR (op_eqD hr.units) (pe_dget (hu_of hr) (pe_ix ix_list (pv 1) pe_int (fun _ _ => rfl)) (pe_tup (pa_cons (pv 5) (pa_cons (pv 6) pa_nil))) (fun _ _ => rfl)) (pe_lst pa_nil) (nomark _)) (pss_one (ps_ret (pe_lst (pa_cons pe_str (pa_cons (pv 5) (pa_cons (pv 6) pa_nil)))))) pss_nil)
    (pss_cons (ps_set (i := 7) scDue.nd rfl (.inl rfl) (pe_bm PySem.F.plainAttrs_list PySem.F.slot_list_pop PySem.F.type_list_pop mt_popAt (pe_dget (hu_of hr) (pe_ix ix_list (pv 1) pe_int (fun _ _ => rfl)) (pe_tup (pa_cons (pv 5) (pa_cons (pv 6) pa_nil))) (fun _ _ => rfl)) (pa_cons pe_int pa_nil)))
    (pss_cons (ps_expr (pe_call G3 hr (by rfl) k3.m k3.k k3.b .nil pass0 (pa_cons (pv 0) (pa_cons (pv 1) (pa_cons (pv 6) (pa_cons (pv 7) (pa_cons (pv 5) pa_nil)))))))
    (pss_cons (ps_expr (pe_bm PySem.F.plainAttrs_list PySem.F.slot_list_append PySem.F.type_list_append mt_append (pe_ix ix_list (pv 1) pe_int (fun _ _ => rfl)) (pa_cons (pv 2) pa_nil)))
    (pss_one (ps_ret (pe_lst (pa_cons pe_str (pa_cons (pv 7) pa_nil))))))))))))), ?_⟩
  · obtain ⟨F, a, q, t, w, ad, s, dx, rfl, _⟩ := h
    rfl
  · obtain ⟨F, a, q, t, w, ad, s, dx, rfl, hw, hR, hL, W, r, hX, hQ⟩ := h
    -- nothing is done
    have still : ∀ (ds : List PyData) (vs : List V) (p : Addr) (H2 : Hp), dueOf w s dx = (s, .list ds) → H0 p = none → Ex H0 H2 → H2 p = some (.lst vs) → DqAll (hidF F H2) vs ds → Q (.ref p) H2 := fun ds vs p H2 e np e2 hp hd => by
      refine hQ p H2 (Fr.of e2) (hL.mono e2) ?_ np ?_
      · rw [e]
        exact hR.mono e2
      · rw [e]
        exact .lst (by rw [hidF_eq (hL.new np)]; exact hp) hd
    -- the items of the deed
    obtain ⟨nm, vs, ht, hv⟩ : ∃ (nm : Str) (vs : List V), hidF F H0 t = some (.tup (.str nm :: vs)) ∧ DqAll (hidF F H0) vs dx.l ∧ nm = dx.nm := by
      cases dx with
      | mk d =>
        obtain ⟨v, h1, h2⟩ := hX
        exact ⟨_, [v], h1, .cons h2 .nil, rfl⟩
      | hd d e =>
        obtain ⟨v, u, h1, h2, h3⟩ := hX
        exact ⟨_, [v, u], h1, .cons h2 (.cons h3 .nil), rfl⟩
    have cut : cutV (.str nm :: vs) (some 1) none = vs := by
      unfold cutV
      have l := dq_len hv.1
      cases dx with
      | mk d =>
        match vs, l with
        | [v], _ => rfl
      | hd d e =>
        match vs, l with
        | [v, u], _ => rfl
    have ncut : ¬ (HT.sIx (.str nm :: vs : List V).length 0 (some 1) = 0 ∧ HT.sIx (.str nm :: vs : List V).length (.str nm :: vs : List V).length none = (.str nm :: vs : List V).length) := by
      have l := dq_len hv.1
      cases dx with
      | mk d =>
        match vs, l with
        | [v], _ =>
          show ¬ (HT.sIx 2 0 (some 1) = 0 ∧ HT.sIx 2 2 none = 2)
          decide
      | hd d e =>
        match vs, l with
        | [v, u], _ =>
          show ¬ (HT.sIx 3 0 (some 1) = 0 ∧ HT.sIx 3 3 none = 3)
          decide
    have tN : ∀ {H'}, Fr (In w false ad) H0 H' → H' t = some (.tup (.str nm :: vs)) := fun {H'} fr => by
      obtain ⟨ds, ⟨_, hF, _⟩, _⟩ := id hR
      exact hidF_le _ _ ((fr.up hF).hid _ _ ht)
    have l := dq_len hv.1
    refine q_cut (M := fun (σ' : L2.St) (H' : Hp) => (∃ y, σ' = [some (.ref a), some (.ref q), some (.ref t), y, none, none, none, none]) ∧ Ex H0 H' ∧ ∀ d ∈ dx.l, houseD w.n d = true) ?_ fun σ' H1 hM => ?_
    · refine ⟨_, rfl, 1, rfl, t, _, rfl, st_of (hidF_le _ _ ht), ncut, fun p np => ⟨p, rfl, ⟨_, st_of upd_same⟩, ?_⟩⟩
      rw [cut]
      refine for_tup (xs := vs) (fun i (σ' : L2.St) (H' : Hp) => (∃ y, σ' = [some (.ref a), some (.ref q), some (.ref t), y, none, none, none, none]) ∧ H' p = some (.tup vs) ∧ Ex H0 H' ∧ ∀ j d', j < i → dx.l[j]? = some d' → houseD w.n d' = true)
        ⟨⟨_, rfl⟩, upd_same, Ex.new np, fun j d' z => absurd z (Nat.not_lt_zero _)⟩ (fun i σ' H' _ q => st_of q.2.1) (fun i x σ' H' hx q' => ?_) fun σ' H' q' => ?_
      · obtain ⟨⟨y, rfl⟩, hp, e, all⟩ := q'
        obtain ⟨d, hd, hxd⟩ := dq_get hv.1 i x hx
        have hxd' : Dq H' x d := Dq.mono e (Dq.mono hidF_le hxd)
        show tIfS _ _ _ _ _ _
        refine s_when (b := !houseD w.n d) (et_not (et_B (ev_callP (ea_cons (ev_var rfl) (ea_cons (ev_var rfl) ea_nil)) fun H2 e2 Q q => ⟨a, w, x, d, rfl, (hw.mono hidF_le).mono (e.trans e2), Dq.mono e2 hxd', q⟩))) (fun hb H2 e2 => ?_) fun hb H2 e2 => ?_
        · have hb : houseD w.n d = false := by simpa using hb
          refine s_retL (el_lst (ea_cons ev_c (ea_cons (ev_var rfl) ea_nil)) (by show 2 ≤ 100000; decide)) fun r H3 nr e3 hr => ?_
          have e03 := (e.trans e2).trans e3
          exact still _ _ r H3 (no_house hd hb all) (fresh_back (e.trans e2) nr) e03 hr (.cons (.str _) (.cons (Dq.mono (Fr.of e03).hid hxd) .nil))
        · have hb : houseD w.n d = true := by simpa using hb
          refine ⟨⟨_, rfl⟩, e2 _ _ hp, e.trans e2, fun j d' hj hd' => ?_⟩
          rcases Nat.lt_or_ge j i with c | c
          · exact all j d' c hd'
          · have : j = i := by omega
            subst this
            rw [hd] at hd'
            cases hd'
            exact hb
      · obtain ⟨⟨y, rfl⟩, hp, e, all⟩ := q'
        refine ⟨⟨_, rfl⟩, e, fun d hd => ?_⟩
        obtain ⟨i, hi⟩ := List.mem_iff_getElem?.mp hd
        refine all i d ?_ hi
        rw [l]
        exact (List.getElem?_eq_some_iff.mp hi).1
    · obtain ⟨⟨y, rfl⟩, e1, all⟩ := hM
      have ht1 : H1 t = some (.tup (.str nm :: vs)) := tN (Fr.of e1)
      obtain ⟨ds, hC0, hD0⟩ := id hR
      have hC1 := hC0.mono e1
      have hD1 : Deeds (hidF F H1) ds s.dd := DqAll.mono (Fr.of e1).hid hD0
      have hF := hC0.2.1
      obtain ⟨⟨bl, dt, kvs, hS1⟩, _, cells1⟩ := id hC1
      have I := r.inv W.ok
      have okd : Slot.dd.ok w false := trivial
      have okt : ∀ t : Slot, t.ok w false → t.ok w true := fun t h => by
        cases t with
        | un h' => cases h.1
        | _ => exact h
      have few := W.ok.few
      have qN : ∀ {H'}, Fr (In w false ad) H1 H' → H' q = some (.lst [.ref bl, .ref dt, .ref (ad .dd)]) := fun {H'} fr => hidF_le _ _ ((fr.up hF).hid _ _ hS1.hx)
      have wN : ∀ {H'}, Fr (In w false ad) H1 H' → WorldAt (hidF F H') a w := fun {H'} fr => (hw.mono (Fr.of e1).hid).mono (fr.up hF).hid
      have tN1 : ∀ {H'}, Fr (In w false ad) H1 H' → H' t = some (.tup (.str nm :: vs)) := fun {H'} fr => tN ((Fr.of e1).trans fr)
      have tD : ∀ {H'}, Fr (In w false ad) H1 H' → hidF F H' t = some (.tup (.str nm :: vs)) := fun {H'} fr => ((Fr.of e1).trans fr |>.up hF).hid _ _ ht
      obtain ⟨hv, hnm⟩ := hv
      cases dx with
      | mk d =>
        match vs, l, hv with
        | [v], _, .cons hvd .nil =>
        have hh := all d List.mem_cons_self
        obtain ⟨ed, hlt⟩ := house_nat hh
        have ev : v = natV (natOf d) := by
          rw [ed] at hvd
          cases hvd
          rfl
        subst hnm ev
        generalize eh : natOf d = h at hlt ht1 ht tN tN1 tD hvd
        refine q_when (b := true) (et_is (et_test (ev_op (ev_op (ev_var rfl) ev_c (rv_ixT (v := .str "make") (st_of ht1) rfl)) ev_c (rv_eq rfl))) (by simp)) (fun _ H2 e2 => ?_) fun z => nomatch z
        have ht2 := e2 _ _ ht1
        refine q_asgL (el_call (ea_cons (ev_var rfl) (ea_cons (ev_var rfl) (ea_cons (ev_op (ev_var rfl) ev_c (rv_ixT (v := natV h) (st_of ht2) rfl)) ea_nil))) fun H3 e3 Q qq => ⟨F, a, q, w, ad, s, h, rfl, (wN (Fr.of (e2.trans e3))).mono hidF_le, (hR.mono e1).mono (e2.trans e3), hlt, few, qq⟩) fun p H3 np e3 hp => ?_
        have e13 := e2.trans e3
        refine q_when (et_eqNil (ds := (Km.left w s h).map natD) (ev_var rfl) (sq_of hp) (dpAll_nats _) sh_nats) (fun hb H4 e4 => ?_) fun hb H4 e4 => ?_
        · have z : Km.left w s h = [] := by
            cases qz : Km.left w s h with
            | nil => rfl
            | cons _ _ => rw [qz] at hb; cases hb
          have e14 := e13.trans e4
          refine s_retL (el_lst (ea_cons ev_c (ea_cons (ev_op (ev_var rfl) ev_c (rv_ixT (v := natV h) (st_of (tN1 (Fr.of e14))) rfl)) ea_nil)) (by show 2 ≤ 100000; decide)) fun r H5 nr e5 hr => ?_
          have e15 := e14.trans e5
          refine still _ _ r H5 (due_mk1 hh (by rw [eh]; exact step_mk0 z)) (fresh_back (e1.trans e14) nr) (e1.trans e15) hr (.cons (.str _) (.cons ?_ .nil))
          exact Dq.mono (Fr.of (e1.trans e15)).hid hvd
        · obtain ⟨k, rs, hk⟩ : ∃ k rs, Km.left w s h = k :: rs := by
            cases qz : Km.left w s h with
            | nil => rw [qz] at hb; cases hb
            | cons k rs => exact ⟨k, rs, rfl⟩
          rw [hk] at hp
          have e14 := e13.trans e4
          have hp4 := e4 _ _ hp
          refine q_callC (ea_cons (ev_var rfl) (ea_cons (ev_var rfl) (ea_cons (ev_op (ev_var rfl) ev_c (rv_ixT (v := natV h) (st_of (tN1 (Fr.of e14))) rfl)) (ea_cons (ev_op (ev_var rfl) ev_c (rv_ixL (v := natV k) (sq_of hp4) (atI_nat (j := 0) rfl))) (ea_cons ev_c ea_nil))))) fun H5 e5 => ?_
          have e15 := e14.trans e5
          refine ⟨F, a, q, w, ad, ctOf w s ds, k, h, h, .non, rfl, wN (Fr.of e15), hC1.mono e15, W, hlt, fun t' ht' => ?_, fun b hb => ⟨rfl, ?_⟩, fun H6 fr6 R6 => ?_⟩
          · have := ct_len W r hD1 t' (okt t' ht')
            omega
          · have nb : b ≠ h := fun z => by
              rw [z] at hb
              rcases hb with hb | hb <;> (have := (W.ok.ed _ hb).2.2; exact absurd this (Nat.lt_irrefl _))
            rw [decide_eq_false nb]
            rfl
          have fr16 := (Fr.of e15).trans fr6
          have hD6 : Deeds (hidF F H6) ds s.dd := DqAll.mono (fr16.up hF).hid hD1
          have dd6 : H6 (ad .dd) = some (.lst ds) := R6.2.2.at' _ okd
          have p6 : H6 p = some (.lst ((k :: rs).map natV)) := fr6 _ _ (fun z => by
            obtain ⟨t', ht', z⟩ := z
            have := cells1.at' t' ht'
            rw [z] at this
            have := e2 _ _ this
            rw [np] at this
            cases this) (e5 _ _ hp4)
          refine q_app (xs := ds) dd6 (ev_op (ev_var rfl) ev_c (rv_ixL (v := .ref (ad .dd)) (sq_of (qN fr16)) rfl)) (ev_var rfl) (by
            have := ct_len W r hD6 .dd trivial
            have z : (ctOf w s ds .dd).length = ds.length := rfl
            omega) fun H7 e7 => ?_
          have pdd : p ≠ ad .dd := fun z => by
            have := cells1.at' .dd okd
            rw [← z] at this
            have := e2 _ _ this
            rw [np] at this
            cases this
          have p7 : upd H7 (ad .dd) (.lst (ds ++ [.ref t])) p = some (.lst ((k :: rs).map natV)) := by rw [upd_ne pdd]; exact e7 _ _ p6
          have R7 := (R6.mono e7).set (ct' := fun t' => if t' = .dd then ds ++ [.ref t] else arrC w k h h (ctOf w s ds) t') okd (if_pos rfl) fun t' n => if_neg n
          have fr17 := (fr16.trans (Fr.of e7)).trans (Fr.at (o := .lst (ds ++ [.ref t])) (A := H7) ⟨_, okd, rfl⟩)
          refine s_retL (el_lst (ea_cons ev_c (ea_cons (ev_op (ev_var rfl) ev_c (rv_ixL (v := natV k) (sq_of p7) (atI_nat (j := 0) rfl))) ea_nil)) (by show 2 ≤ 100000; decide)) fun r' H8 nr e8 hr => ?_
          have fr18 := fr17.trans (Fr.of e8)
          have fr08 := (Fr.of e1).trans fr18
          have R8 := R7.mono e8
          have L8 : Live F H8 := R8.live hL fr08
          have L7 : Live F (upd H7 (ad .dd) (.lst (ds ++ [.ref t]))) := R7.live hL ((Fr.of e1).trans fr17)
          have nrF : ¬ F r' := L7.new nr
          have st := Km.mk_step hk hlt
          have du := due_mk2 hh (by rw [eh]; exact st)
          refine hQ r' H8 fr08 L8 ?_ (fr_none ((Fr.of e1).trans fr17) (fun z => nrF (hF _ z)) nr) ?_
          · rw [du]
            refine ⟨ds ++ [.ref t], R8.congr fun t' ht' => ?_, ?_⟩
            · cases t' with
              | dd => rfl
              | un y => cases ht'.1
              | bk y =>
                show (if y = h then (s.bk y).map natV ++ [natV k] else (s.bk y).map natV) = ((if y = h then s.bk h ++ [k] else s.bk y)).map natV
                by_cases c : y = h
                · rw [if_pos c, if_pos c, List.map_append, c]; rfl
                · rw [if_neg c, if_neg c]
              | qu a b =>
                show (if a = h ∧ Km.nb w h b ∧ b ≠ h then (s.qu a b).map natV ++ [natV k] else (s.qu a b).map natV) = ((if a = h ∧ Km.nb w h b ∧ b ≠ h then s.qu a b ++ [k] else s.qu a b)).map natV
                by_cases c : a = h ∧ Km.nb w h b ∧ b ≠ h
                · rw [if_pos c, if_pos c, List.map_append]; rfl
                · rw [if_neg c, if_neg c]
            · show DqAll _ (ds ++ [.ref t]) ((s.dd ++ [_]).map deedD)
              rw [List.map_append]
              exact dqAll_snoc (DqAll.mono (fr18.up hF).hid hD1) (deed_dq (d := .mk h) (tD fr18))
          · rw [du]
            exact .lst (by rw [hidF_eq nrF]; exact hr) (.cons (.str _) (.cons (.int _) .nil))
      | hd d e =>
        match vs, l, hv with
        | [v, u], _, .cons hvd (.cons hve .nil) =>
        have hh := all d List.mem_cons_self
        have hg := all e (List.mem_cons_of_mem _ List.mem_cons_self)
        obtain ⟨ed, hlt⟩ := house_nat hh
        obtain ⟨ee, glt⟩ := house_nat hg
        have ev : v = natV (natOf d) := by
          rw [ed] at hvd
          cases hvd
          rfl
        have eu : u = natV (natOf e) := by
          rw [ee] at hve
          cases hve
          rfl
        subst hnm ev eu
        generalize eh : natOf d = x at hlt ht1 ht tN tN1 tD hvd
        generalize eg : natOf e = z at glt ht1 ht tN tN1 tD hve
        refine q_when (b := false) (et_is (et_test (ev_op (ev_op (ev_var rfl) ev_c (rv_ixT (v := .str "hand") (st_of ht1) rfl)) ev_c (rv_eq rfl))) (by decide +kernel)) (fun z => nomatch z) fun _ H2 e2 => ?_
        have ht2 := e2 _ _ ht1
        refine ⟨_, rfl, t, _, 1, natV x, rfl, rfl, st_of ht2, rfl, _, rfl, t, _, 2, natV z, rfl, rfl, st_of ht2, rfl, _, _, rfl, ?_⟩
        dsimp only
        refine q_when (et_test (ev_opL (ev_var rfl) (el_call (ea_cons (ev_var rfl) (ea_cons (ev_var rfl) ea_nil)) fun H3 e3 Q qq => ⟨a, w, x, rfl, (wN (Fr.of (e2.trans e3))).mono hidF_le, W, qq⟩) fun p H3 hp e3 => rv_niL (sq_of hp) rfl flat_nats)) (fun hb H3 e3 => ?_) fun hb H3 e3 => ?_
        · have nn : ¬ Km.nb w x z := fun n => by
            have m : z ∈ Km.near w x := List.mem_filter.mpr ⟨List.mem_range.mpr glt, decide_eq_true n⟩
            have hb : (!inV (.int (z : Int)) ((Km.near w x).map natV)) = true := hb
            rw [inV_nats] at hb
            simp [m] at hb
          have e13 := e2.trans e3
          refine s_retL (el_lst (ea_cons ev_c (ea_cons (ev_var rfl) (ea_cons (ev_var rfl) ea_nil))) (by show 3 ≤ 100000; decide)) fun r H5 nr e5 hr => ?_
          have e15 := e13.trans e5
          refine still _ _ r H5 (due_hd2 hh hg (by rw [eh, eg]; exact nn)) (fresh_back (e1.trans e13) nr) (e1.trans e15) hr (.cons (.str _) (.cons (Dq.mono (Fr.of (e1.trans e15)).hid hvd) (.cons (Dq.mono (Fr.of (e1.trans e15)).hid hve) .nil)))
        · have hn : Km.nb w x z := Classical.byContradiction fun n => by
            have m : z ∉ Km.near w x := fun m => n (of_decide_eq_true (List.mem_filter.mp m).2)
            have hb : (!inV (.int (z : Int)) ((Km.near w x).map natV)) = false := hb
            rw [inV_nats] at hb
            simp [m] at hb
          have e13 := e2.trans e3
          have okq : (Slot.qu x z).ok w false := hn
          have cq : ∀ H', Ex H1 H' → H' (ad (.qu x z)) = some (.lst ((s.qu x z).map natV)) := fun H' e => e _ _ (cells1.at' _ okq)
          have ixq : ∀ H' (o : Option V), Ex H1 H' → Ev (tDGet (tOp (rIxL K) (tVar 1) (tC (.int 1))) (tTup (tCons (tVar 5) (tCons (tVar 6) tNil)))) [some (.ref a), some (.ref q), some (.ref t), y, none, some (natV x), some (natV z), o] H' (.ref (ad (.qu x z))) := fun H' o e =>
            ev_dgT (k := [Sum.inl (x : Int), Sum.inl (z : Int)]) (ev_op (ev_var rfl) ev_c (rv_ixL (v := .ref dt) (sq_of (qN (Fr.of e))) rfl)) (e _ _ (hidF_le _ _ hS1.hd)) (eu_tup (ea_cons (ev_var rfl) (ea_cons (ev_var rfl) ea_nil)) (by show 2 ≤ 100000; decide)) (hS1.hq x z hn)
          refine q_when (et_eqNil (ds := (s.qu x z).map natD) (ixq _ _ e13) (sq_of (cq _ e13)) (dpAll_nats _) sh_nats) (fun hb H4 e4 => ?_) fun hb H4 e4 => ?_
          · have zq : s.qu x z = [] := by
              cases qz : s.qu x z with
              | nil => rfl
              | cons _ _ => rw [qz] at hb; cases hb
            have e14 := e13.trans e4
            refine s_retL (el_lst (ea_cons ev_c (ea_cons (ev_var rfl) (ea_cons (ev_var rfl) ea_nil))) (by show 3 ≤ 100000; decide)) fun r H5 nr e5 hr => ?_
            have e15 := e14.trans e5
            refine still _ _ r H5 (due_hd3 hh hg (by rw [eh, eg]; exact hn) (by rw [eh, eg]; exact step_hd0 zq)) (fresh_back (e1.trans e14) nr) (e1.trans e15) hr (.cons (.str _) (.cons (Dq.mono (Fr.of (e1.trans e15)).hid hvd) (.cons (Dq.mono (Fr.of (e1.trans e15)).hid hve) .nil)))
          · obtain ⟨k, rs, hk⟩ : ∃ k rs, s.qu x z = k :: rs := by
              cases qz : s.qu x z with
              | nil => rw [qz] at hb; cases hb
              | cons k rs => exact ⟨k, rs, rfl⟩
            have e14 := e13.trans e4
            refine q_pop0 (x := natV k) (xs := rs.map natV) (by rw [cq _ e14, hk]; rfl) (ixq _ _ e14) fun H5 e5 => ?_
            have e15 := e14.trans e5
            have R5 : StC F (upd H5 (ad (.qu x z)) (.lst (rs.map natV))) q w ad (fun t => if t = .qu x z then rs.map natV else ctOf w s ds t) := (hC1.mono e15).set okq (if_pos rfl) fun t nt => if_neg nt
            have fr15 : Fr (In w false ad) H1 (upd H5 (ad (.qu x z)) (.lst (rs.map natV))) := (Fr.of e15).trans (Fr.at ⟨_, okq, rfl⟩)
            generalize upd H5 (ad (.qu x z)) (.lst (rs.map natV)) = H6 at R5 fr15 ⊢
            refine q_callC (ea_cons (ev_var rfl) (ea_cons (ev_var rfl) (ea_cons (ev_var rfl) (ea_cons (ev_var rfl) (ea_cons (ev_var rfl) ea_nil))))) fun H7 e7 => ?_
            have fr17 := fr15.trans (Fr.of e7)
            refine ⟨F, a, q, w, ad, _, k, x, z, .int (x : Int), rfl, wN fr17, R5.mono e7, W, glt, fun t' ht' => ?_, fun b hb => ⟨rfl, decide_eq_decide.mpr ⟨fun q => by have := V.int.inj q; omega, fun q => by rw [q]⟩⟩, fun H8 fr8 R8 => ?_⟩
            · have := ct_len W r hD1 t' (okt t' ht')
              show (if _ then _ else _ : List V).length ≤ 5000
              by_cases c : t' = .qu x z
              · rw [if_pos c]
                subst c
                have zz : (ctOf w s ds (.qu x z)).length = ((s.qu x z).map natV).length := rfl
                rw [hk, List.map_cons, List.length_cons] at zz
                omega
              · rw [if_neg c]
                omega
            have fr18 := fr17.trans fr8
            have hD8 : Deeds (hidF F H8) ds s.dd := DqAll.mono (fr18.up hF).hid hD1
            have dd8 : H8 (ad .dd) = some (.lst ds) := R8.2.2.at' _ okd
            dsimp only
            refine q_app (xs := ds) dd8 (ev_op (ev_var rfl) ev_c (rv_ixL (v := .ref (ad .dd)) (sq_of (qN fr18)) rfl)) (ev_var rfl) (by
              have := ct_len W r hD8 .dd trivial
              have z : (ctOf w s ds .dd).length = ds.length := rfl
              omega) fun H9 e9 => ?_
            have R9 := (R8.mono e9).set (ct' := fun t' => if t' = .dd then ds ++ [.ref t] else arrC w k x z (fun t => if t = .qu x z then rs.map natV else ctOf w s ds t) t') okd (if_pos rfl) fun t' n => if_neg n
            have fr19 := (fr18.trans (Fr.of e9)).trans (Fr.at (o := .lst (ds ++ [.ref t])) (A := H9) ⟨_, okd, rfl⟩)
            refine s_retL (el_lst (ea_cons ev_c (ea_cons (ev_var rfl) ea_nil)) (by show 2 ≤ 100000; decide)) fun r' H10 nr e10 hr => ?_
            have fr110 := fr19.trans (Fr.of e10)
            have fr010 := (Fr.of e1).trans fr110
            have R10 := R9.mono e10
            have L10 : Live F H10 := R10.live hL fr010
            have L9 : Live F (upd H9 (ad .dd) (.lst (ds ++ [.ref t]))) := R9.live hL ((Fr.of e1).trans fr19)
            have nrF : ¬ F r' := L9.new nr
            have st := Km.hd_step hk hn
            have du := due_hd4 hh hg (by rw [eh, eg]; exact hn) (by rw [eh, eg]; exact st)
            refine hQ r' H10 fr010 L10 ?_ (fr_none ((Fr.of e1).trans fr19) (fun z => nrF (hF _ z)) nr) ?_
            · rw [du]
              refine ⟨ds ++ [.ref t], R10.congr fun t' ht' => ?_, ?_⟩
              · cases t' with
                | dd => rfl
                | un y => cases ht'.1
                | bk y =>
                  show (if y = z then (s.bk y).map natV ++ [natV k] else (s.bk y).map natV) = ((if y = z then s.bk z ++ [k] else s.bk y)).map natV
                  by_cases c : y = z
                  · rw [if_pos c, if_pos c, List.map_append, c]; rfl
                  · rw [if_neg c, if_neg c]
                | qu a b =>
                  have pq : (if Slot.qu a b = .qu x z then rs.map natV else (s.qu a b).map natV) = ((if a = x ∧ b = z then (s.qu x z).tail else s.qu a b)).map natV := by
                    by_cases c : a = x ∧ b = z
                    · rw [if_pos (by rw [c.1, c.2]), if_pos c, hk]; rfl
                    · rw [if_neg (fun z => c (by injection z with z1 z2; exact ⟨z1, z2⟩)), if_neg c]
                  show (if a = z ∧ Km.nb w z b ∧ b ≠ x then (if Slot.qu a b = .qu x z then rs.map natV else (s.qu a b).map natV) ++ [natV k] else (if Slot.qu a b = .qu x z then rs.map natV else (s.qu a b).map natV)) = ((if a = z ∧ Km.nb w z b ∧ b ≠ x then (if a = x ∧ b = z then (s.qu x z).tail else s.qu a b) ++ [k] else (if a = x ∧ b = z then (s.qu x z).tail else s.qu a b))).map natV
                  rw [pq]
                  by_cases c : a = z ∧ Km.nb w z b ∧ b ≠ x
                  · rw [if_pos c, if_pos c, List.map_append]; rfl
                  · rw [if_neg c, if_neg c]
              · show DqAll _ (ds ++ [.ref t]) ((s.dd ++ [_]).map deedD)
                rw [List.map_append]
                exact dqAll_snoc (DqAll.mono (fr110.up hF).hid hD1) (deed_dq (d := .hd x z) (tD fr110))
            · rw [du]
              exact .lst (by rw [hidF_eq nrF]; exact hr) (.cons (.str _) (.cons (.int _) .nil))
end
end Tr

set_option maxHeartbeats 4000000
/-! ### a deed in the running (law k04): _law_did -/
namespace Tr
open PySem PySem.Spec PyProof.Rows L2 LK Evl
abbrev sDid : Stmt := top 58
abbrev nDid : List Str := ["running", "deed", "turn", "e"]
theorem scDid : FnScope nDid ["running", "deed", "turn"] (defScope sDid) := ⟨rfl, rfl, rfl, by decide +kernel, rfl, by decide +kernel, by decide +kernel⟩
/-- the four classes that are caught, and what they are to each other -/
structure Ex4 (K : PySem.W.Frag) (mg : Str → Option Value) (CI CM CN CW CL : Addr) : Prop where
  mI : mg "InvalidHouse" = some (.ref CI)
  mM : mg "NothingToMake" = some (.ref CM)
  mN : mg "NotARoad" = some (.ref CN)
  mW : mg "NothingUnderWay" = some (.ref CW)
  mL : mg "LeftError" = some (.ref CL)
  xI : XfC K CI
  xM : XfC K CM
  xN : XfC K CN
  xW : XfC K CW
  fI : PySem.W.findIn K (.ref CI) "given" = some none
  fM : PySem.W.findIn K (.ref CM) "house" = some none
  fN : PySem.W.findIn K (.ref CN) "u" = some none
  gN : PySem.W.findIn K (.ref CN) "v" = some none
  fW : PySem.W.findIn K (.ref CW) "u" = some none
  gW : PySem.W.findIn K (.ref CW) "v" = some none
  II : PySem.W.exmOne K (.ref CI) (.ref CI) = some true
  MI : PySem.W.exmOne K (.ref CM) (.ref CI) = some false
  MM : PySem.W.exmOne K (.ref CM) (.ref CM) = some true
  NI : PySem.W.exmOne K (.ref CN) (.ref CI) = some false
  NM : PySem.W.exmOne K (.ref CN) (.ref CM) = some false
  NN : PySem.W.exmOne K (.ref CN) (.ref CN) = some true
  WI : PySem.W.exmOne K (.ref CW) (.ref CI) = some false
  WM : PySem.W.exmOne K (.ref CW) (.ref CM) = some false
  WN : PySem.W.exmOne K (.ref CW) (.ref CN) = some false
  WW : PySem.W.exmOne K (.ref CW) (.ref CW) = some true
  wL : PySem.W.kitOne K (.ref CW) (.ref CL) = some true
  iW : ExcC K CW
def spDid (K : PySem.W.Frag) (C CS CR : Addr) : Sp := fun vs H Q _ => ∃ (F : Addr → Prop) (x t : Addr) (w : Km.W) (ad : Slot → Addr) (s : Km.S) (dx : Dx) (tn : Int), vs = [.ref x, .ref t, .int tn] ∧ RunAt K C CS CR F H x w ad s ∧ Live F H ∧ Wd w ∧ Km.Run w s ∧ DxAt (hidF F H) t dx ∧
  ∀ r H2, Fr (In w true ad) H H2 → Live F H2 → RunAt K C CS CR F H2 x w ad (dueOf w s dx).1 → H r = none → Dq (hidF F H2) (.ref r) (dueOf w s dx).2 → Q (.ref r) H2
def rIsC (K : PySem.W.Frag) (a D : Addr) (cls : Value) (d : Option Addr) : List V → Hp → VK → Prop := fun xs H Q => cls = .ref D ∧ rIsS K a D d xs H Q
theorem call_isC {X : Cx} {a D : Addr} {cls : Value} {oe : Obj} {d : Option Addr} {pn : List (Addr × Obj)} (ec : ExcC X.K D) (z : L2N.Zn cls d oe) (hf : ∃ vs, oe.data = .fields vs) : CallR (X.suite a ((a, oe) :: pn)) (.builtin "isinstance") (rIsC X.K a D cls d) := by
  intro pins s σ H xs us Q I r h
  obtain ⟨rfl, h⟩ := h
  exact call_isS ec z hf pins s σ H xs us Q I r h
section
variable {P : Program} {w : World} {K : PySem.W.Frag} {mg : Str → Option Value} {base : Heap} {C CS CR CI CN CM CW CL f f1 f2 : Addr} {fd d1 d2 : FuncData}
theorem ev_xf {σ : L2.St} {H : Hp} {a C' dx : Addr} {f : Str} {te : TE} {fs : List (Str × V)} {v : V} (h : Ev te σ H (.ref a)) (hx : H dx = some (.xd fs)) (l : fs.lookup f = some v) : Ev (tXf a (.ref C') (some dx) C' f te) σ H v := fun H1 e Q q =>
  h H1 e _ fun H2 e2 => ⟨rfl, rfl, dx, fs, v, rfl, e2 _ _ (e _ _ hx), l, q H2 e2⟩
def did4 (K : PySem.W.Frag) (CI CM CN CW CL : Addr) : List Cl :=
  [(.ref CI, fun a cls d => tRet (tLst (tCons (tC (.str "no house")) (tCons (tXf a cls d CI "given" (tVar 3)) tNil)))),
   (.ref CM, fun a cls d => tRet (tLst (tCons (tC (.str "nothing to make")) (tCons (tXf a cls d CM "house" (tVar 3)) tNil)))),
   (.ref CN, fun a cls d => tRet (tLst (tCons (tC (.str "no road")) (tCons (tXf a cls d CN "u" (tVar 3)) (tCons (tXf a cls d CN "v" (tVar 3)) tNil))))),
   (.ref CW, fun a cls d => tRet (tIf (tB (tCB (rIsC K a CW cls d) (tCons (tVar 3) (tCons (tC (.ref CL)) tNil)))) (tLst (tCons (tC (.str "nothing under way")) (tCons (tXf a cls d CW "u" (tVar 3)) (tCons (tXf a cls d CW "v" (tVar 3)) tNil)))) (tLst (tCons (tC (.str "odd")) tNil))))]
theorem did_I {D : Ends} {a1 a2 a3 v : V} {H : Hp} (X4 : Ex4 K mg CI CM CN CW CL) (k : ∀ r H3, Ex H H3 → H r = none → H3 r = some (.lst [.str "no house", v]) → D.rt (.ref r) H3) : Out1 CI "given" v H (fun cls d H' => wAll K 3 D (did4 K CI CM CN CW CL) cls d [some a1, some a2, some a3, none] H') := fun dx H2 e2 nd hd =>
  ⟨true, X4.II, fun _ a na => s_retL (el_lst (ea_cons ev_c (ea_cons (ev_xf (ev_var rfl) hd rfl) ea_nil)) (by show 2 ≤ 100000; decide)) fun r H3 nr e3 hr => k r H3 (e2.trans e3) (fresh_back e2 nr) hr, fun z => nomatch z⟩
theorem did_M {D : Ends} {a1 a2 a3 v : V} {H : Hp} (X4 : Ex4 K mg CI CM CN CW CL) (k : ∀ r H3, Ex H H3 → H r = none → H3 r = some (.lst [.str "nothing to make", v]) → D.rt (.ref r) H3) : Out1 CM "house" v H (fun cls d H' => wAll K 3 D (did4 K CI CM CN CW CL) cls d [some a1, some a2, some a3, none] H') := fun dx H2 e2 nd hd =>
  ⟨false, X4.MI, (fun z => nomatch z), fun _ => ⟨true, X4.MM, fun _ a na => s_retL (el_lst (ea_cons ev_c (ea_cons (ev_xf (ev_var rfl) hd rfl) ea_nil)) (by show 2 ≤ 100000; decide)) fun r H3 nr e3 hr => k r H3 (e2.trans e3) (fresh_back e2 nr) hr, fun z => nomatch z⟩⟩
theorem did_N {D : Ends} {a1 a2 a3 v u : V} {H : Hp} (X4 : Ex4 K mg CI CM CN CW CL) (k : ∀ r H3, Ex H H3 → H r = none → H3 r = some (.lst [.str "no road", v, u]) → D.rt (.ref r) H3) : Out2 CN "u" "v" v u H (fun cls d H' => wAll K 3 D (did4 K CI CM CN CW CL) cls d [some a1, some a2, some a3, none] H') := fun dx H2 e2 nd hd =>
  ⟨false, X4.NI, (fun z => nomatch z), fun _ => ⟨false, X4.NM, (fun z => nomatch z), fun _ => ⟨true, X4.NN, fun _ a na => s_retL (el_lst (ea_cons ev_c (ea_cons (ev_xf (ev_var rfl) hd rfl) (ea_cons (ev_xf (ev_var rfl) hd rfl) ea_nil))) (by show 3 ≤ 100000; decide)) fun r H3 nr e3 hr => k r H3 (e2.trans e3) (fresh_back e2 nr) hr, fun z => nomatch z⟩⟩⟩
theorem did_W {D : Ends} {a1 a2 a3 v u : V} {H : Hp} (X4 : Ex4 K mg CI CM CN CW CL) (k : ∀ r H3, Ex H H3 → H r = none → H3 r = some (.lst [.str "nothing under way", v, u]) → D.rt (.ref r) H3) : Out2 CW "u" "v" v u H (fun cls d H' => wAll K 3 D (did4 K CI CM CN CW CL) cls d [some a1, some a2, some a3, none] H') := fun dx H2 e2 nd hd =>
  ⟨false, X4.WI, (fun z => nomatch z), fun _ => ⟨false, X4.WM, (fun z => nomatch z), fun _ => ⟨false, X4.WN, (fun z => nomatch z), fun _ => ⟨true, X4.WW, fun _ a na => s_retL (el_if (b := true) (fun H3 e3 Q q => ⟨_, rfl, ⟨rfl, dx, _, .ref CL, _, true, rfl, rfl, e3 _ _ hd, .own CL, X4.wL, ⟨true, rfl, q H3 (Ex.refl _)⟩⟩⟩) (fun _ => el_lst (ea_cons ev_c (ea_cons (ev_xf (ev_var rfl) hd rfl) (ea_cons (ev_xf (ev_var rfl) hd rfl) ea_nil))) (by show 3 ≤ 100000; decide)) fun z => nomatch z) fun r H3 nr e3 hr => k r H3 (e2.trans e3) (fresh_back e2 nr) hr, fun z => nomatch z⟩⟩⟩⟩
theorem s_retW {σ : L2.St} {H : Hp} {t : TT} {ta tb : TE} {c : V} {b : Bool} {D : Ends} (ht : EvT t σ H b) (ka : b = true → ∀ H1, Ex H H1 → ∀ Q : VK, (∀ v H2, (∀ p, H2 p = none → D.rt (.ref p) (upd H2 p (.lst [c, v]))) → Q v H2) → ta σ H1 Q) (kb : b = false → ∀ H1, Ex H H1 → ∀ Q : VK, (∀ v H2, (∀ p, H2 p = none → D.rt (.ref p) (upd H2 p (.lst [c, v]))) → Q v H2) → tb σ H1 Q) : tRet (tLst (tCons (tC c) (tCons (tIf t ta tb) tNil))) D σ H := ht H (Ex.refl H) _ fun H1 e1 => by
  cases b with
  | true => exact ka rfl H1 e1 _ fun v H2 h => ⟨Nat.le_of_ble_eq_true rfl, h⟩
  | false => exact kb rfl H1 e1 _ fun v H2 h => ⟨Nat.le_of_ble_eq_true rfl, h⟩
theorem ok_did (F : FnP K "_law_did" sDid f fd) (R : RunCls K CR) (hm1 : Meth K CR "make" f1) (G1 : FnOk P w K mg base (L2N.CX P w) 7 f1 d1 ["self", "house"] (spMake K C CS CR CI CM)) (b1 : Binds K d1 ["self", "house"] []) (kb1 : KBn K d1 ["self", "house"] 1 ["house"] (fun us ws => us ++ ws) (fun vs zs => vs ++ zs))
    (hm2 : Meth K CR "hand" f2) (G2 : FnOk P w K mg base (L2N.CX P w) 7 f2 d2 ["self", "u", "v"] (spHand K C CS CR CI CN CW)) (b2 : Binds K d2 ["self", "u", "v"] []) (kb2 : KBn K d2 ["self", "u", "v"] 1 ["v", "u"] (fun us ws => us ++ ws.reverse) (fun vs zs => vs ++ zs.reverse))
    (X4 : Ex4 K mg CI CM CN CW CL) (mi : mg "isinstance" = none) : FnOk P w K mg base CX0 8 f fd ["running", "deed", "turn"] (spDid K C CS CR) := by
  refine F.ok scDid (fun vs H Q E h => ?_) fun cdv A outer s H0 vs Q E hr h => ⟨_, PSs.nox (pss_one (ps_try_all (i := 3) rfl rfl scDid.nd rfl rfl (fun W pn xe tk _ =>
      pss_cons (ps_if (pt_cmpR op_eq (pe_ix (r := rIxT K) ix_tup (pv 1) pe_int (fun _ _ => rfl)) pe_str (nomark _))
        (pss_one (ps_ret (pe_lst (pa_cons pe_str (pa_cons (pe_ifExp (pt_cmpR op_eq (pv 2) pe_int (nomark _)) (pe_methAt (pv 0) R.cl hm1 G1 hr b1 (fun σ => L2N.passAt tk σ) (pa_cons (pe_ix (r := rIxT K) ix_tup (pv 1) pe_int (fun _ _ => rfl)) pa_nil)) (pe_methK (pv 0) R.cl hm1 G1 hr kb1 (fun σ => L2N.passAt tk σ) (pk_cons (pe_ix (r := rIxT K) ix_tup (pv 1) pe_int (fun _ _ => rfl)) pk_nil))) pa_nil))))) pss_nil)
      (pss_one (ps_ret (pe_lst (pa_cons pe_str (pa_cons (pe_ifExp (pt_cmpR op_eq (pv 2) pe_int (nomark _)) (pe_methAt (pv 0) R.cl hm2 G2 hr b2 (fun σ => L2N.passAt tk σ) (pa_cons (pe_ix (r := rIxT K) ix_tup (pv 1) pe_int (fun _ _ => rfl)) (pa_cons (pe_ix (r := rIxT K) ix_tup (pv 1) pe_int (fun _ _ => rfl)) pa_nil))) (pe_methK (pv 0) R.cl hm2 G2 hr kb2 (fun σ => L2N.passAt tk σ) (pk_cons (pe_ix (r := rIxT K) ix_tup (pv 1) pe_int (fun _ _ => rfl)) (pk_cons (pe_ix (r := rIxT K) ix_tup (pv 1) pe_int (fun _ _ => rfl)) pk_nil)))) pa_nil))))))
    (.cons (c := .ref CI) ⟨rfl, by decide, .inl X4.mI⟩ (fun a oe cls d pn hz hf => pss_one (ps_ret (pe_lst (pa_cons pe_str (pa_cons (pe_xf X4.xI X4.fI hz.zc hf (pv 3)) pa_nil)))))
    (.cons (c := .ref CM) ⟨rfl, by decide, .inl X4.mM⟩ (fun a oe cls d pn hz hf => pss_one (ps_ret (pe_lst (pa_cons pe_str (pa_cons (pe_xf X4.xM X4.fM hz.zc hf (pv 3)) pa_nil)))))
    (.cons (c := .ref CN) ⟨rfl, by decide, .inl X4.mN⟩ (fun a oe cls d pn hz hf => pss_one (ps_ret (pe_lst (pa_cons pe_str (pa_cons (pe_xf X4.xN X4.fN hz.zc hf (pv 3)) (pa_cons (pe_xf X4.xN X4.gN hz.zc hf (pv 3)) pa_nil))))))
    (.cons (c := .ref CW) ⟨rfl, by decide, .inl X4.mW⟩ (fun a oe cls d pn hz hf => pss_one (ps_ret (pe_ifExp (pt_val (pe_callB (call_isC X4.iW hz hf) (by rfl) mi (by decide +kernel) (pa_cons (pv 3) (pa_cons (pe_glob (v := .ref CL) (by rfl) X4.mL rfl) pa_nil)))) (pe_lst (pa_cons pe_str (pa_cons (pe_xf X4.xW X4.fW hz.zc hf (pv 3)) (pa_cons (pe_xf X4.xW X4.gW hz.zc hf (pv 3)) pa_nil)))) (pe_lst (pa_cons pe_str pa_nil)))))
    .nil)))))), ?_⟩
  · obtain ⟨F, x, t, w, ad, s, dx, tn, rfl, _⟩ := h
    rfl
  · obtain ⟨F, x, t, w, ad, s, dx, tn, rfl, hR, hL, W, r, hX, hQ⟩ := h
    have still : ∀ (ds : List PyData) (vs : List V) (p : Addr) (H2 : Hp), dueOf w s dx = (s, .list ds) → H0 p = none → Ex H0 H2 → H2 p = some (.lst vs) → DqAll (hidF F H2) vs ds → Q (.ref p) H2 := fun ds vs p H2 e np e2 hp hd => by
      refine hQ p H2 (Fr.of e2) (hL.mono e2) ?_ np ?_
      · rw [e]
        exact hR.mono e2
      · rw [e]
        exact .lst (by rw [hidF_eq (hL.new np)]; exact hp) hd
    have wrote : ∀ (s' : Km.S) (k : Nat) (p : Addr) (H2 : Hp), dueOf w s dx = (s', .list [.str "write", natD k]) → Fr (In w true ad) H0 H2 → Live F H2 → RunAt K C CS CR F H2 x w ad s' → H2 p = none → Q (.ref p) (upd H2 p (.lst [.str "write", .int (k : Int)])) := fun s' k p H2 e fr L2 R2 np => by
      have npF : ¬ F p := L2.new np
      have npI : ¬ In w true ad p := fun z => by
        obtain ⟨ds, ⟨_, hF, _⟩, _⟩ := id hR
        exact npF (hF _ z)
      refine hQ p _ (fr.trans (Fr.of (Ex.new np))) (L2.mono (Ex.new np)) ?_ (fr_none fr npI np) ?_
      · rw [e]
        exact R2.mono (Ex.new np)
      · rw [e]
        exact .lst (by rw [hidF_eq npF]; exact upd_same) (.cons (.str _) (.cons (.int _) .nil))
    have hx : ∃ dx fs, H0 x = some (.ins CR dx fs) ∧ fs.lookup ("make" : Str) = none ∧ fs.lookup ("hand" : Str) = none := by
      obtain ⟨ds, ⟨⟨dx, st, ul, bl, dt, kvs, hS⟩, _⟩, _⟩ := id hR
      exact ⟨dx, _, hidF_le _ _ hS.hx, rfl, rfl⟩
    obtain ⟨da, fs, x1, l1, l2⟩ := hx
    cases dx with
    | mk d =>
      obtain ⟨v, ht, hvd⟩ := hX
      have ht0 := hidF_le _ _ ht
      have go : ∀ (E' : XK), (houseD w.n d = false → ∀ H1, Ex H0 H1 → Out1 CI "given" v H1 E') → (∀ h : Nat, d = .int (h : Int) → h < w.n → Km.left w s h = [] → ∀ H1, Ex H0 H1 → Out1 CM "house" v H1 E') → ∀ H1, Ex H0 H1 → ∀ Q' : VK, (∀ v H2, (∀ p, H2 p = none → Q (.ref p) (upd H2 p (.lst [.str "write", v]))) → Q' v H2) → spMake K C CS CR CI CM [.ref x, v] H1 Q' E' := fun E' oI oM H1 e1 Q' q' =>
        ⟨F, x, w, ad, s, v, d, rfl, hR.mono e1, hL.mono e1, W, r, Dq.mono e1 (Dq.mono hidF_le hvd), fun c => oI c H1 e1, fun h e hh => ⟨fun z => oM h e hh z H1 e1, fun s' k st H2 fr L2 R2 => q' _ H2 fun p np => by
          subst e
          have hn : natOf (.int (h : Int)) = h := by simp [natOf]
          exact wrote s' k p H2 (due_mk2 (house_in hh) (by rw [hn]; exact st)) ((Fr.of e1).trans fr) L2 R2 np⟩⟩
      refine q_when (b := true) (et_is (et_test (ev_op (ev_op (ev_var rfl) ev_c (rv_ixT (v := .str "make") (st_of ht0) rfl)) ev_c (rv_eq rfl))) (by simp)) (fun _ H1 e1 => ?_) fun z => nomatch z
      have oI : houseD w.n d = false → ∀ H1, Ex H0 H1 → Out1 CI "given" v H1 (fun cls d' H' => wAll K 3 { nx := fun _ H' => Q .non H', rt := Q } (did4 K CI CM CN CW CL) cls d' [some (.ref x), some (.ref t), some (.int tn), none] H') := fun c H1 e1 => did_I X4 fun r H3 e3 nr hr => still _ _ r H3 (due_mk0 c) (fresh_back e1 nr) (e1.trans e3) hr (.cons (.str _) (.cons (Dq.mono (Fr.of (e1.trans e3)).hid hvd) .nil))
      have oM : ∀ h : Nat, d = .int (h : Int) → h < w.n → Km.left w s h = [] → ∀ H1, Ex H0 H1 → Out1 CM "house" v H1 (fun cls d' H' => wAll K 3 { nx := fun _ H' => Q .non H', rt := Q } (did4 K CI CM CN CW CL) cls d' [some (.ref x), some (.ref t), some (.int tn), none] H') := fun h e hh z H1 e1 => did_M X4 fun r H3 e3 nr hr => still _ _ r H3 (due_mk1 (by rw [e]; exact house_in hh) (by
          have hn : natOf d = h := by rw [e]; simp [natOf]
          rw [hn]
          exact step_mk0 z)) (fresh_back e1 nr) (e1.trans e3) hr (.cons (.str _) (.cons (Dq.mono (Fr.of (e1.trans e3)).hid hvd) .nil))
      refine s_retW (et_test (ev_op (ev_var rfl) ev_c (rv_eq rfl))) (fun _ H2 e2 Q' q' => ?_) fun _ H2 e2 Q' q' => ?_
      · have e12 := e1.trans e2
        exact ⟨_, rfl, x, da, fs, rfl, e12 _ _ x1, l1, _, rfl, t, _, 1, v, rfl, rfl, st_of (e12 _ _ ht0), rfl, go _ oI oM H2 e12 Q' q'⟩
      · have e12 := e1.trans e2
        exact ⟨_, rfl, x, da, fs, rfl, e12 _ _ x1, l1, _, rfl, t, _, 1, v, rfl, rfl, st_of (e12 _ _ ht0), rfl, rfl, go _ oI oM H2 e12 Q' q'⟩
    | hd d e =>
      obtain ⟨v, u, ht, hvd, hve⟩ := hX
      have ht0 := hidF_le _ _ ht
      have go : ∀ (E' : XK), (houseD w.n d = false → ∀ H1, Ex H0 H1 → Out1 CI "given" v H1 E') → (houseD w.n d = true → houseD w.n e = false → ∀ H1, Ex H0 H1 → Out1 CI "given" u H1 E') → (∀ a b : Nat, d = .int (a : Int) → e = .int (b : Int) → a < w.n → b < w.n → ¬ Km.nb w a b → ∀ H1, Ex H0 H1 → Out2 CN "u" "v" v u H1 E') → (∀ a b : Nat, d = .int (a : Int) → e = .int (b : Int) → a < w.n → b < w.n → Km.nb w a b → s.qu a b = [] → ∀ H1, Ex H0 H1 → Out2 CW "u" "v" v u H1 E') →
          ∀ H1, Ex H0 H1 → ∀ Q' : VK, (∀ v H2, (∀ p, H2 p = none → Q (.ref p) (upd H2 p (.lst [.str "write", v]))) → Q' v H2) → spHand K C CS CR CI CN CW [.ref x, v, u] H1 Q' E' := fun E' o1 o2 oN oW H1 e1 Q' q' =>
        ⟨F, x, w, ad, s, v, u, d, e, rfl, hR.mono e1, hL.mono e1, W, r, Dq.mono e1 (Dq.mono hidF_le hvd), Dq.mono e1 (Dq.mono hidF_le hve), fun c => o1 c H1 e1, fun c c2 => o2 c c2 H1 e1, fun a b ea eb la lb => ⟨fun n => oN a b ea eb la lb n H1 e1, fun n z => oW a b ea eb la lb n z H1 e1, fun s' k st H2 fr L2 R2 => q' _ H2 fun p np => by
          subst ea eb
          have hn : ∀ h : Nat, natOf (.int (h : Int)) = h := fun h => by simp [natOf]
          obtain ⟨_, _, nb, _⟩ := Km.step_hd st
          exact wrote s' k p H2 (due_hd4 (house_in la) (house_in lb) (by rw [hn, hn]; exact nb) (by rw [hn, hn]; exact st)) ((Fr.of e1).trans fr) L2 R2 np⟩⟩
      refine q_when (b := false) (et_is (et_test (ev_op (ev_op (ev_var rfl) ev_c (rv_ixT (v := .str "hand") (st_of ht0) rfl)) ev_c (rv_eq rfl))) (by decide +kernel)) (fun z => nomatch z) fun _ H1 e1 => ?_
      have o1 : houseD w.n d = false → ∀ H1, Ex H0 H1 → Out1 CI "given" v H1 (fun cls d' H' => wAll K 3 { nx := fun _ H' => Q .non H', rt := Q } (did4 K CI CM CN CW CL) cls d' [some (.ref x), some (.ref t), some (.int tn), none] H') := fun c H1 e1 => did_I X4 fun r H3 e3 nr hr => still _ _ r H3 (due_hd0 c) (fresh_back e1 nr) (e1.trans e3) hr (.cons (.str _) (.cons (Dq.mono (Fr.of (e1.trans e3)).hid hvd) .nil))
      have o2 : houseD w.n d = true → houseD w.n e = false → ∀ H1, Ex H0 H1 → Out1 CI "given" u H1 (fun cls d' H' => wAll K 3 { nx := fun _ H' => Q .non H', rt := Q } (did4 K CI CM CN CW CL) cls d' [some (.ref x), some (.ref t), some (.int tn), none] H') := fun c c2 H1 e1 => did_I X4 fun r H3 e3 nr hr => still _ _ r H3 (due_hd1 c c2) (fresh_back e1 nr) (e1.trans e3) hr (.cons (.str _) (.cons (Dq.mono (Fr.of (e1.trans e3)).hid hve) .nil))
      have hn : ∀ {d : PyData} {h : Nat}, d = .int (h : Int) → natOf d = h := fun {d h} e => by rw [e]; simp [natOf]
      have oN : ∀ a b : Nat, d = .int (a : Int) → e = .int (b : Int) → a < w.n → b < w.n → ¬ Km.nb w a b → ∀ H1, Ex H0 H1 → Out2 CN "u" "v" v u H1 (fun cls d' H' => wAll K 3 { nx := fun _ H' => Q .non H', rt := Q } (did4 K CI CM CN CW CL) cls d' [some (.ref x), some (.ref t), some (.int tn), none] H') := fun a b ea eb la lb n H1 e1 => did_N X4 fun r H3 e3 nr hr => still _ _ r H3 (due_hd2 (by rw [ea]; exact house_in la) (by rw [eb]; exact house_in lb) (by rw [hn ea, hn eb]; exact n)) (fresh_back e1 nr) (e1.trans e3) hr (.cons (.str _) (.cons (Dq.mono (Fr.of (e1.trans e3)).hid hvd) (.cons (Dq.mono (Fr.of (e1.trans e3)).hid hve) .nil)))
      have oW : ∀ a b : Nat, d = .int (a : Int) → e = .int (b : Int) → a < w.n → b < w.n → Km.nb w a b → s.qu a b = [] → ∀ H1, Ex H0 H1 → Out2 CW "u" "v" v u H1 (fun cls d' H' => wAll K 3 { nx := fun _ H' => Q .non H', rt := Q } (did4 K CI CM CN CW CL) cls d' [some (.ref x), some (.ref t), some (.int tn), none] H') := fun a b ea eb la lb n z H1 e1 => did_W X4 fun r H3 e3 nr hr => still _ _ r H3 (due_hd3 (by rw [ea]; exact house_in la) (by rw [eb]; exact house_in lb) (by rw [hn ea, hn eb]; exact n) (by rw [hn ea, hn eb]; exact step_hd0 z)) (fresh_back e1 nr) (e1.trans e3) hr (.cons (.str _) (.cons (Dq.mono (Fr.of (e1.trans e3)).hid hvd) (.cons (Dq.mono (Fr.of (e1.trans e3)).hid hve) .nil)))
      refine s_retW (et_test (ev_op (ev_var rfl) ev_c (rv_eq rfl))) (fun _ H2 e2 Q' q' => ?_) fun _ H2 e2 Q' q' => ?_
      · have e12 := e1.trans e2
        exact ⟨_, rfl, x, da, fs, rfl, e12 _ _ x1, l2, _, rfl, t, _, 1, v, rfl, rfl, st_of (e12 _ _ ht0), rfl, _, rfl, t, _, 2, u, rfl, rfl, st_of (e12 _ _ ht0), rfl, go _ o1 o2 oN oW H2 e12 Q' q'⟩
      · have e12 := e1.trans e2
        exact ⟨_, rfl, x, da, fs, rfl, e12 _ _ x1, l2, _, rfl, t, _, 2, u, rfl, rfl, st_of (e12 _ _ ht0), rfl, _, rfl, t, _, 1, v, rfl, rfl, st_of (e12 _ _ ht0), rfl, rfl, go _ o1 o2 oN oW H2 e12 Q' q'⟩
end
end Tr

set_option maxHeartbeats 4000000
/-! ### what is shown (law k04): _law_shown -/
namespace Tr
open PySem PySem.Spec PyProof.Rows L2 LK Evl
abbrev sShown : Stmt := top 59
abbrev nShown : List Str := ["world", "book", "cell", "found", "write"]
theorem scShown : FnScope nShown ["world", "book", "cell"] (defScope sShown) := ⟨rfl, rfl, rfl, by decide +kernel, rfl, by decide +kernel, by decide +kernel⟩
def spShown (K : PySem.W.Frag) : Sp := fun vs H Q _ => ∃ (a b : Addr) (w : Km.W) (bs : List Nat) (c : Nat), vs = [.ref a, .ref b, .int (c : Int)] ∧ WorldAt H a w ∧ H b = some (.lst (bs.map natV)) ∧ bs.length ≤ 1000 ∧ (∀ b ∈ bs, b < w.cs.length) ∧ RetV (optV ((bs.filter fun b => decide (w.cs.getD b 0 = c)).getLast?)) H Q
theorem funOf {K : PySem.W.Frag} {x q : Str} {st : Stmt} {f : Addr} {fd : FuncData} (F : FunD K x q (defArgs st) (defBody st) (defScope st) [] [] f fd) : Fun K x q st f fd := by
  obtain ⟨oc, od, dV, kV, doc, pm, an, cdv, ct, osl, rfl, lk, hcd, hD, hK⟩ := F.ex
  rcases hD with ⟨_, rfl⟩ | ⟨e, _⟩
  · exact ⟨⟨oc, od, kV, doc, pm, an, cdv, ct, osl, rfl, lk, hcd⟩, F.kp⟩
  · exact absurd rfl e
theorem atI_last {xs : List Nat} (h : xs ≠ []) : atI (xs.map natV) (-1) = some (optV xs.getLast?) := by
  obtain ⟨ys, y, rfl⟩ : ∃ ys y, xs = ys ++ [y] := ⟨xs.dropLast, xs.getLast h, (List.dropLast_concat_getLast h).symm⟩
  have e1 : (ys ++ [y]).getLast? = some y := by simp
  rw [e1, List.map_append]
  unfold atI
  have e2 : ixN (ys.map natV ++ [y].map natV).length (-1) = some ys.length := by
    unfold ixN
    rw [if_neg (by decide), List.length_append, List.length_map, if_pos (by simp; omega)]
    simp
    omega
  rw [e2]
  show (ys.map natV ++ [y].map natV)[ys.length]? = _
  rw [List.getElem?_append_right (by simp)]
  simp [optV, natV]
theorem ru_neg {i : Int} {H : Hp} : RU (rU fun i => .int (-i)) (.int i) H (.int (-i)) := fun H1 e Q q => ⟨i, rfl, q H1 (Ex.refl H1)⟩
section
variable {P : Program} {w : World} {K : PySem.W.Frag} {mg : Str → Option Value} {base : Heap} {f f1 f2 : Addr} {fd d1 d2 : FuncData}
theorem ok_shown (F : FnP K "_law_shown" sShown f fd) : FnOk P w K mg base CX0 1 f fd ["world", "book", "cell"] (spShown K) := by
  refine F.ok scShown (fun vs H Q E h => ?_) fun cdv A outer s H0 vs Q E hr h => ⟨_, PSs.nox (
    pss_cons (ps_setLc (i := 3) (own := [("write", 4)]) (g := gName 4) rfl scShown.nd rfl rfl (sw_true rfl rfl rfl (by decide +kernel)) (pi_list (pv 1)) (blkOk_by (N := nShown) (sc := defScope sShown) (by decide +kernel)) (fun _ _ _ _ _ => pg_name (i := 4) scShown.nd rfl (.inl rfl))
      (fun _ _ _ _ _ => pts_one (pt_cmpR op_eq (pe_ix (r := rIxL K) ix_list (pe_ix (r := rIxL K) ix_list (pv 0) pe_int (fun _ _ => rfl)) (pv 4) (fun _ _ => rfl)) (pv 2) (nomark _))) (fun _ _ _ _ _ => pv 4))
    (pss_one (ps_ret (pe_ifExp (pt_cmpR (op_neD hr.units) (pv 3) (pe_lst pa_nil) (nomark _)) (pe_ix ix_list (pv 3) (pe_un un_neg pe_int) (fun _ _ => rfl)) pe_non)))), ?_⟩
  · obtain ⟨a, b, w, bs, c, rfl, _⟩ := h
    rfl
  · obtain ⟨a, b, w, bs, c, rfl, ⟨r, hh, cc, ts, h1, h2, h3, h4, h5⟩, hb, hz, hlt, hQ⟩ := h
    have lb : (bs.map natV).length = bs.length := List.length_map _
    have gv : given (bs.map natV).length (fun i => decide (w.cs.getD (bs.getD i 0) 0 = c)) (fun i => natV (bs.getD i 0)) = (bs.filter fun b => decide (w.cs.getD b 0 = c)).map natV := by
      rw [lb]
      exact filter_range bs 0 (fun b => decide (w.cs.getD b 0 = c)) natV
    have gd : ∀ (i : Nat) (x : V), (bs.map natV)[i]? = some x → x = natV (bs.getD i 0) ∧ bs.getD i 0 ∈ bs := fun i x hx => by
      rw [List.getElem?_map] at hx
      cases hb : bs[i]? with
      | none => rw [hb] at hx; cases hx
      | some y =>
        rw [hb] at hx
        have e : bs.getD i 0 = y := by rw [List.getD_eq_getElem?_getD, hb]; rfl
        rw [e]
        exact ⟨(Option.some.inj hx).symm, List.mem_of_getElem? hb⟩
    refine q_asgL (el_lcL (fun i => decide (w.cs.getD (bs.getD i 0) 0 = c)) (fun i => natV (bs.getD i 0)) (ev_var rfl) (sq_of hb) (by rw [lb]; omega) (fun _ => rfl) (fun i x H1 e1 hx => ?_) fun i x H1 e1 hx _ => ?_) fun p H1 np e1 hp => ?_
    · obtain ⟨rfl, hm⟩ := gd i x hx
      have hl := hlt _ hm
      have hc : (w.cs.map natV)[bs.getD i 0]? = some (natV (w.cs.getD (bs.getD i 0) 0)) := by
        rw [List.getElem?_map, List.getElem?_eq_getElem hl, List.getD_eq_getElem?_getD (l := w.cs), List.getElem?_eq_getElem hl]
        rfl
      exact et_is (et_test (ev_op (ev_op (ev_op (ev_var rfl) ev_c (rv_ixL (sq_of (e1 _ _ h1)) (v := .ref cc) rfl)) (ev_var rfl) (rv_ixL (sq_of (e1 _ _ h5)) (atI_nat hc))) (ev_var rfl) (rv_eq rfl))) (decide_eq_decide.mpr ⟨fun z => by have := V.int.inj z; omega, fun z => by rw [z]; rfl⟩)
    · obtain ⟨rfl, _⟩ := gd i x hx
      exact ev_var rfl
    · rw [gv] at hp
      refine s_ret (v := optV ((bs.filter fun b => decide (w.cs.getD b 0 = c)).getLast?)) ?_ fun H2 e2 => hQ H2 (e1.trans e2)
      generalize (bs.filter fun b => decide (w.cs.getD b 0 = c)) = fs at hp
      refine ev_if (b := !(fs.map natD).isEmpty) (et_neNil (ev_var rfl) (sq_of hp) (dpAll_nats fs) sh_nats) (fun hb => ?_) fun hb => ?_
      · have ne : fs ≠ [] := fun z => by rw [z] at hb; cases hb
        exact ev_op (ev_var rfl) (ev_un ev_c (ru_neg (i := 1))) (rv_ixL (sq_of hp) (atI_last ne))
      · cases fs with
        | nil => exact ev_c
        | cons x r => cases hb
end
end Tr

set_option maxHeartbeats 4000000
/-! ### readings for _law_is (law k04): new tuples, methods, repr -/
namespace PySem.PyData
open PySem
theorem shaped_tuple {ds : List PyData} (h : ∀ d ∈ ds, d.canLay0 = true ∧ d.depth ≤ 60) : SeqAt.shaped (.tuple ds) = true := by
  have z := shaped_list h
  have h1 := SeqAt.canLay_of_shaped z
  have h2 := SeqAt.depth_of_shaped z
  show (PyData.canLay0 (.tuple ds) && decide (PyData.depth (.tuple ds) ≤ 64)) = true
  rw [Bool.and_eq_true]
  simp only [PyData.canLay0, PyData.depth] at h1 h2 ⊢
  exact ⟨h1, decide_eq_true h2⟩
end PySem.PyData
namespace Tr
open PySem PySem.Spec PyProof.Rows L2 LK Evl
def optD : Option Nat → PyData
  | none => .none
  | some p => .int (p : Int)
theorem dqN {H : Hp} : ∀ xs : List Nat, DqAll H (xs.map natV) (xs.map natD)
  | [] => .nil
  | _ :: xs => .cons (.int _) (dqN xs)
theorem dq_opts {H : Hp} : ∀ xs : List (Option Nat), DqAll H (xs.map optV) (xs.map optD)
  | [] => .nil
  | none :: xs => .cons .non (dq_opts xs)
  | some _ :: xs => .cons (.int _) (dq_opts xs)
theorem dp_opts {K : PySem.W.Frag} {H : Hp} : ∀ xs : List (Option Nat), DpAll K H (xs.map optV) (xs.map optD)
  | [] => .nil
  | none :: xs => .cons .non (dp_opts xs)
  | some _ :: xs => .cons (.int _) (dp_opts xs)
theorem sh_opts {xs : List (Option Nat)} : ∀ d ∈ xs.map optD, d.canLay0 = true ∧ d.depth ≤ 60 := fun d hd => by
  obtain ⟨o, _, rfl⟩ := List.mem_map.mp hd
  cases o <;> simp [optD, PyData.canLay0, PyData.depth]
theorem eqv_opts : ∀ xs : List (Option Nat), PyData.eqvAll (xs.map optD) (xs.map optD) = true
  | [] => by simp [PyData.eqvAll]
  | none :: xs => by simp [optD, PyData.eqvAll, PyData.eqv, eqv_opts xs]
  | some _ :: xs => by simp [optD, PyData.eqvAll, PyData.eqv, eqv_opts xs]
theorem depthAll_le {n : Nat} : ∀ {ds : List PyData}, (∀ d ∈ ds, d.depth ≤ n) → PyData.depthAll ds ≤ n
  | [], _ => by simp [PyData.depthAll]
  | d :: ds, h => by
    have a := h d List.mem_cons_self
    have b := depthAll_le fun x hx => h x (List.mem_cons_of_mem d hx)
    simp only [PyData.depthAll]
    omega
theorem szAll_le {n : Nat} : ∀ {ds : List PyData}, (∀ d ∈ ds, PyData.szD d ≤ n) → PyData.szAll ds ≤ (n + 2) * ds.length
  | [], _ => by simp [PyData.szAll]
  | d :: ds, h => by
    have a := h d List.mem_cons_self
    have b := szAll_le fun x hx => h x (List.mem_cons_of_mem d hx)
    simp only [PyData.szAll, List.length_cons, Nat.mul_add, Nat.mul_one]
    omega
theorem fineAll_of : ∀ {ds : List PyData}, (∀ d ∈ ds, PyData.fine d = true) → PyData.fineAll ds = true
  | [], _ => by simp [PyData.fineAll]
  | d :: ds, h => by
    simp only [PyData.fineAll, h d List.mem_cons_self, fineAll_of fun x hx => h x (List.mem_cons_of_mem d hx), Bool.and_self]
/-- small things: what repr takes -/
def Sml (k n : Nat) (d : PyData) : Prop := PyData.fine d = true ∧ d.depth ≤ k ∧ PyData.szD d ≤ n
theorem Sml.ok {k n : Nat} {d : PyData} (h : Sml k n d) (hk : k ≤ 60) (hn : n ≤ 100000) : PyData.okD d = true := PyData.ok_fine h.1 (by have := h.2.1; omega) (by have := h.2.2; omega)
theorem sml_tup {k n m : Nat} {ds : List PyData} (h : ∀ d ∈ ds, Sml k n d) (hl : ds.length ≤ m) : Sml (k + 1) ((n + 2) * m + 4) (.tuple ds) := by
  refine ⟨?_, ?_, ?_⟩
  · simp only [PyData.fine]
    exact fineAll_of fun d hd => (h d hd).1
  · have := depthAll_le fun d hd => (h d hd).2.1
    simp only [PyData.depth]
    omega
  · have := szAll_le fun d hd => (h d hd).2.2
    have := Nat.mul_le_mul_left (n + 2) hl
    simp only [PyData.szD]
    omega
theorem sml_lst {k n m : Nat} {ds : List PyData} (h : ∀ d ∈ ds, Sml k n d) (hl : ds.length ≤ m) : Sml (k + 1) ((n + 2) * m + 4) (.list ds) := by
  have z := sml_tup h hl
  obtain ⟨a, b, c⟩ := z
  refine ⟨?_, ?_, ?_⟩
  · simp only [PyData.fine] at a ⊢
    exact a
  · simp only [PyData.depth] at b ⊢
    exact b
  · simp only [PyData.szD] at c ⊢
    exact c
theorem Sml.up {k k' n n' : Nat} {d : PyData} (h : Sml k n d) (hk : k ≤ k') (hn : n ≤ n') : Sml k' n' d := ⟨h.1, by have := h.2.1; omega, by have := h.2.2; omega⟩
theorem sml_nat {x : Nat} (h : x ≤ 200) : Sml 0 40 (natD x) := by
  refine ⟨?_, ?_, ?_⟩
  · simp [natD, PyData.fine]
    omega
  · simp [natD, PyData.depth]
  · simp [natD, PyData.szD]
theorem sml_opt {o : Option Nat} (h : ∀ x, o = some x → x ≤ 200) : Sml 0 40 (optD o) := by
  cases o with
  | none => exact ⟨by simp [optD, PyData.fine], by simp [optD, PyData.depth], by simp [optD, PyData.szD]⟩
  | some x => exact sml_nat (h x rfl)
theorem sml_bool {b : Bool} : Sml 0 40 (.bool b) := ⟨by simp [PyData.fine], by simp [PyData.depth], by simp [PyData.szD]⟩
theorem sml_nats {xs : List Nat} {m : Nat} (h : ∀ x ∈ xs, x ≤ 200) (hl : xs.length ≤ m) : Sml 1 (42 * m + 4) (.tuple (xs.map natD)) := sml_tup (fun d hd => by
  obtain ⟨x, hx, rfl⟩ := List.mem_map.mp hd
  exact sml_nat (h x hx)) (by rw [List.length_map]; exact hl)
theorem sml_deed {w : Km.W} (W : Wd w) {d : Km.Dd} (h : d.ok w) : Sml 1 130 (deedD d) := by
  have n16 := W.ok.most
  have ms : Sml 0 40 (.str "make") := ⟨by simp only [PyData.fine]; decide +kernel, by simp [PyData.depth], by simp [PyData.szD]⟩
  have hs : Sml 0 40 (.str "hand") := ⟨by simp only [PyData.fine]; decide +kernel, by simp [PyData.depth], by simp [PyData.szD]⟩
  cases d with
  | mk x =>
    have hx : x ≤ 200 := by
      have : x < w.n := h
      omega
    refine (sml_tup (k := 0) (n := 40) (m := 3) (ds := [.str "make", natD x]) (fun d hd => ?_) (by simp)).up (by omega) (by omega)
    rcases List.mem_cons.mp hd with rfl | hd
    · exact ms
    · rw [List.mem_singleton] at hd
      subst hd
      exact sml_nat hx
  | hd u v =>
    have nb : Km.nb w u v := h
    have hv : v ≤ 200 := by have := Km.nb_r W.ok nb; omega
    have hu : u ≤ 200 := by
      rcases nb with z | z
      · have := (W.ok.ed _ z).1
        dsimp only at this
        omega
      · have := (W.ok.ed _ z).2.1
        dsimp only at this
        omega
    refine (sml_tup (k := 0) (n := 40) (m := 3) (ds := [.str "hand", natD u, natD v]) (fun d hd => ?_) (by simp)).up (by omega) (by omega)
    rcases List.mem_cons.mp hd with rfl | hd
    · exact hs
    · rcases List.mem_cons.mp hd with rfl | hd
      · exact sml_nat hu
      · rw [List.mem_singleton] at hd
        subst hd
        exact sml_nat hv
section
variable {K : PySem.W.Frag} {σ : L2.St} {H : Hp} {ta tb te : TE} {t : TT} {D : Ends} {tz tu : TS} {g : TG}
theorem et_tupL {a : Addr} {xs : List V} {ds : List PyData} (h : Ev te σ H (.ref a)) (hs : H a = some (.lst xs)) (hd : DqAll H xs ds) : EvT2 (tCB (rTupOf K) (tCons te tNil)) σ H (.tuple ds) := fun H1 e Q q =>
  h H1 e _ fun H2 e2 => ⟨a, xs, rfl, .inl ⟨sq_of ((e.trans e2) _ _ hs), fun t nt => q (.ref t) _ (e2.trans (Ex.new nt)) (.tup upd_same (DqAll.mono ((e.trans e2).trans (Ex.new nt)) hd))⟩⟩
theorem eu_tupL {xs : List V} (h : EvL te σ H xs) : EvU (tCB (rTupOf K) (tCons te tNil)) σ H xs := fun H1 e Q q =>
  h H1 e _ fun a H2 na e2 ha => ⟨a, xs, rfl, .inl ⟨sq_of ha, fun t nt => q t _ (fresh_back e2 nt) (e2.trans (Ex.new nt)) upd_same⟩⟩
theorem et2_if {b : Bool} {d : PyData} (h : EvT t σ H b) (h1 : b = true → EvT2 ta σ H d) (h2 : b = false → EvT2 tb σ H d) : EvT2 (tIf t ta tb) σ H d := fun H1 e Q q => h H1 e _ fun H2 e2 => by
  cases b with
  | true =>
    show ta σ H2 Q
    exact h1 rfl H2 (e.trans e2) Q fun v H3 e3 => q v H3 (e2.trans e3)
  | false =>
    show tb σ H2 Q
    exact h2 rfl H2 (e.trans e2) Q fun v H3 e3 => q v H3 (e2.trans e3)
/-- what a call hands out, told by what is known of it -/
def EvP (te : TE) (σ : L2.St) (H : Hp) (PP : V → Hp → Prop) : Prop := ∀ H1, Ex H H1 → ∀ Q : VK, (∀ v H2, Ex H1 H2 → PP v H2 → Q v H2) → te σ H1 Q
theorem evp_t2 {d : PyData} (h : EvP te σ H fun v H2 => Dq H2 v d) : EvT2 te σ H d := h
theorem evp_meth {C x dx : Addr} {m : Str} {fs : List (Str × V)} {sp : Sp} {ta' : TA} {vs : List V} {PP : V → Hp → Prop} (h : Ev ta σ H (.ref x)) (hx : H x = some (.ins C dx fs)) (l : fs.lookup m = none) (ha : EvA ta' σ H vs)
    (hs : ∀ H1, Ex H H1 → ∀ Q : VK, (∀ v H2, Ex H1 H2 → PP v H2 → Q v H2) → sp (.ref x :: (vs ++ [])) H1 Q E0) : EvP (tMeth C m sp [] E0 ta ta') σ H PP := fun H1 e Q q =>
  h H1 e _ fun H2 e2 => ⟨x, dx, fs, rfl, (e.trans e2) _ _ hx, l, ha H2 (e.trans e2) _ fun H3 e3 => hs H3 ((e.trans e2).trans e3) Q fun v H4 e4 hd => q v H4 ((e2.trans e3).trans e4) hd⟩
theorem evp_methK {C x dx : Addr} {m : Str} {fs : List (Str × V)} {mk : Nat} {sp : Sp} {gV : List V → List V → List V} {tk : TA} {zs : List V} {PP : V → Hp → Prop} (h : Ev ta σ H (.ref x)) (hx : H x = some (.ins C dx fs)) (l : fs.lookup m = none) (ha : EvA tk σ H zs) (lz : zs.length = mk)
    (hs : ∀ H1, Ex H H1 → ∀ Q : VK, (∀ v H2, Ex H1 H2 → PP v H2 → Q v H2) → sp (gV [.ref x] zs) H1 Q E0) : EvP (tMethK C m mk sp gV (fun _ => E0) ta tk) σ H PP := fun H1 e Q q =>
  h H1 e _ fun H2 e2 => ⟨x, dx, fs, rfl, (e.trans e2) _ _ hx, l, ha H2 (e.trans e2) _ fun H3 e3 => ⟨lz, hs H3 ((e.trans e2).trans e3) Q fun v H4 e4 hd => q v H4 ((e2.trans e3).trans e4) hd⟩⟩
theorem evp_prop {C x dx : Addr} {fs : List (Str × V)} {sp : Sp} {PP : V → Hp → Prop} (h : Ev ta σ H (.ref x)) (hx : H x = some (.ins C dx fs)) (hs : ∀ H1, Ex H H1 → ∀ Q : VK, (∀ v H2, Ex H1 H2 → PP v H2 → Q v H2) → sp [.ref x] H1 Q E0) : EvP (tProp C sp [] E0 ta) σ H PP := fun H1 e Q q =>
  h H1 e _ fun H2 e2 => ⟨x, dx, fs, rfl, (e.trans e2) _ _ hx, hs H2 (e.trans e2) Q fun v H4 e4 hd => q v H4 (e2.trans e4) hd⟩
theorem ev_opP {r : R2} {PP : V → Hp → Prop} {y z : V} (h : EvP ta σ H PP) (hb : Ev tb σ H y) (hr : ∀ v H2 H3, Ex H H2 → PP v H2 → Ex H2 H3 → RV r v y H3 z) : Ev (tOp r ta tb) σ H z := fun H1 e Q q =>
  h H1 e _ fun v H2 e2 pp => hb H2 (e.trans e2) _ fun H3 e3 => hr v H2 H3 (e.trans e2) pp e3 H3 (Ex.refl _) Q fun H4 e4 => q H4 ((e2.trans e3).trans e4)
theorem q_asgP {i : Nat} {PP : V → Hp → Prop} (h : EvP te σ H PP) (k : ∀ v H1, Ex H H1 → PP v H1 → tz D (σ.set i (some v)) H1) : tSeq (tAsg te (gName i)) tz D σ H := h H (Ex.refl H) _ k
theorem evp_of {PP : V → Hp → Prop} {v : V} (h : Ev te σ H v) (p : ∀ H1, Ex H H1 → PP v H1) : EvP te σ H PP := fun H1 e Q q => h H1 e _ fun H2 e2 => q v H2 e2 (p H2 (e.trans e2))
theorem q_forQ {tl : TE} (PP : V → Hp → Prop) (h : ∀ Q : VK, (∀ v H2, PP v H2 → Q v H2) → tl σ H Q) (k : ∀ v H2, PP v H2 → tSeq (tFor (iList K (tC v)) g tu) tz D σ H2) : tSeq (tFor (iList K tl) g tu) tz D σ H := h _ k
/-- d[k], k a tuple that stands -/
theorem ev_dgP {td ty : TE} {a p : Addr} {kvs : List (List Key × V)} {k : List Key} {v : V} (hd : Ev td σ H (.ref a)) (ha : H a = some (.dT kvs)) (ek : Ev ty σ H (.ref p)) (hp : H p = some (.tup (k.map kV))) (hv : valV kvs k = some v) : Ev (tDGet td ty) σ H v := fun H1 e Q q =>
  hd H1 e _ fun H2 e2 => ek H2 (e.trans e2) _ fun H3 e3 => ⟨a, v, rfl, by
    have := DGet.t (k := k) (((e.trans e2).trans e3) _ _ ha) (((e.trans e2).trans e3) _ _ hp)
    rw [hv] at this
    exact this, q H3 (e2.trans e3)⟩
end
section
variable {X : Cx} {e : Expr} {te : TE} {p pos : Pos}
theorem p_repr (sm : ∃ o, X.K.lookup sysModules = some o) (hu : X.A.units + 64 < cLine) (gd : X.A.guards = some []) (mr : X.mg "repr" = none) (h : PE X e te) (hg : Gl X "repr" := by rfl)
    (he : starEach [e] X.env = (false, eval e X.env) :: starEach [] X.env := by rfl) (hpl : (backTo pos (starEach [] X.env)).any (·.1) = false := by rfl) : PE X (.Call (.Name "repr" p) [e] [] pos) (tCB rRepr (tCons te tNil)) :=
  pe_callB (call_repr sm hu gd) hg mr (by decide +kernel) (pa_cons h pa_nil he) (he := he) (hpl := hpl)
theorem passK {P : Program} {w : World} {X : Cx} (hp : X.prog = P) (hw : X.w = w) (σ : L2.St) : PassesAt (L2N.CX P w) X σ ((fun _ => E0) σ) := fun pins H s e s' I c => passF hp hw pins σ H s e s' I c
theorem pass0K {X : Cx} (σ : L2.St) : PassesAt CX0 X σ ((fun _ => E0) σ) := fun _ _ _ _ _ _ h => h.elim
end
section
variable {K : PySem.W.Frag} {C CS CR CI CN : Addr} {F : Addr → Prop} {H : Hp} {x : Addr} {w : Km.W} {ad : Slot → Addr} {s : Km.S} {Q : VK}
theorem sp_book (hR : RunAt K C CS CR F H x w ad s) {h : Nat} (hh : h < w.n) (q : ∀ v H2, Ex H H2 → Dq H2 v (.tuple ((s.bk h).map natD)) → Q v H2) : spBook K C CS CR CI [.ref x, .int (h : Int)] H Q E0 := by
  obtain ⟨ds, hC, hD⟩ := hR
  refine ⟨F, x, w, ad, ctOf w s ds, .int (h : Int), .int (h : Int), rfl, hC, .int _, fun c => ?_, fun h' e hh' t H2 e2 ht => ?_⟩
  · rw [house_in hh] at c
    cases c
  · have : h' = h := by injection e with e; omega
    subst this
    exact q _ _ e2 (.tup ht (dqN _))
theorem sp_shows (hR : RunAt K C CS CR F H x w ad s) (W : Wd w) (r : Km.Run w s) {h : Nat} (hh : h < w.n) (hb : ∀ h, ∀ b ∈ s.bk h, b < w.cs.length) (q : ∀ t H2, Ex H H2 → H2 t = some (.tup ((lastL w.cs (s.bk h)).map optV)) → Q (.ref t) H2) : spShows K C CS CR CI [.ref x, .int (h : Int)] H Q E0 := by
  obtain ⟨ds, hC, hD⟩ := hR
  refine ⟨F, x, w, ad, ctOf w s ds, s.bk, .int (h : Int), .int (h : Int), rfl, hC, .int _, fun _ => rfl, hb, W.ok.c6, fun c => ?_, fun h' e hh' t H2 e2 ht => ?_⟩
  · rw [house_in hh] at c
    cases c
  · have : h' = h := by injection e with e; omega
    subst this
    exact q _ _ e2 ht
theorem sp_under (hR : RunAt K C CS CR F H x w ad s) (W : Wd w) {u v : Nat} (nb : Km.nb w u v) (hu : u < w.n) (hv : v < w.n) (q : ∀ y H2, Ex H H2 → Dq H2 y (.tuple ((s.qu u v).map natD)) → Q y H2) : spUnder K C CS CR CI CN [.ref x, .int (u : Int), .int (v : Int)] H Q E0 := by
  obtain ⟨ds, hC, hD⟩ := hR
  refine ⟨F, x, w, ad, ctOf w s ds, .int (u : Int), .int (v : Int), .int (u : Int), .int (v : Int), rfl, hC, W, .int _, .int _, fun c => ?_, fun _ c => ?_, fun u' v' e e' hu' hv' => ⟨fun _ t H2 e2 ht => ?_, fun n => ?_⟩⟩
  · rw [house_in hu] at c
    cases c
  · rw [house_in hv] at c
    cases c
  · have e1 : u' = u := by injection e with e; omega
    have e3 : v' = v := by injection e' with e'; omega
    subst e1 e3
    exact q _ _ e2 (.tup ht (dqN _))
  · have e1 : u' = u := by injection e with e; omega
    have e3 : v' = v := by injection e' with e'; omega
    subst e1 e3
    exact absurd nb n
end
end Tr

set_option maxHeartbeats 4000000
/-! ### the running is as the state says (law k04): _law_is -/
namespace Tr
open PySem PySem.Spec PyProof.Rows L2 LK Evl
abbrev sIs : Stmt := top 60
abbrev nIs : List Str := ["world", "running", "state", "turn", "books", "under", "house", "copy", "told", "way", "u", "v", "done", "cell", "book"]
theorem scIs : FnScope nIs ["world", "running", "state", "turn"] (defScope sIs) := ⟨rfl, rfl, rfl, by decide +kernel, rfl, by decide +kernel, by decide +kernel⟩
def spIs (K : PySem.W.Frag) (C CS CR : Addr) : Sp := fun vs H Q _ => ∃ (F : Addr → Prop) (a x q : Addr) (w : Km.W) (ad1 ad2 : Slot → Addr) (s : Km.S) (tn : Int), vs = [.ref a, .ref x, .ref q, .int tn] ∧ WorldAt H a w ∧ RunAt K C CS CR F H x w ad1 s ∧ StAt F H q w ad2 s ∧ Wd w ∧ Km.Run w s ∧ RetV (.bl true) H Q
theorem lastL_len {cs bs : List Nat} : (lastL cs bs).length = 6 := by
  unfold lastL
  rw [lastF_len, List.length_replicate]
theorem copy_eq {cs bs : List Nat} : ((List.range 6).map fun c => optV ((bs.filter fun b => decide (cs.getD b 0 = c)).getLast?)) = (lastL cs bs).map optV := by
  refine List.ext_getElem? fun i => ?_
  rw [List.getElem?_map, List.getElem?_map]
  by_cases h : i < 6
  · rw [List.getElem?_range h, lastL_get h]
    rfl
  · rw [List.getElem?_eq_none (by rw [List.length_range]; omega), List.getElem?_eq_none (by rw [lastL_len]; omega)]
    rfl
theorem lastL_mem {cs bs : List Nat} {o : Option Nat} {x : Nat} (h : o ∈ lastL cs bs) (e : o = some x) : x ∈ bs := by
  subst e
  obtain ⟨i, hi⟩ := List.getElem?_of_mem h
  have h6 : i < 6 := by
    have := (List.getElem?_eq_some_iff.mp hi).1
    rwa [lastL_len] at this
  rw [lastL_get h6] at hi
  have z := Option.some.inj hi
  exact (List.mem_filter.mp (List.mem_of_getLast? z)).1
section
variable {K : PySem.W.Frag} {σ : L2.St} {H : Hp} {ta tb te : TE} {D : Ends} {tz tu : TS}
theorem q_two {i j : Nat} {va vb : V} (ha : EvA (tCons ta (tCons tb tNil)) σ H [va, vb]) (k : ∀ H1, Ex H H1 → tz D ((σ.set i (some va)).set j (some vb)) H1) : tSeq (tAsg (tTup (tCons ta (tCons tb tNil))) (gTup K 2 (gCons (gName i) (gCons (gName j) gNil)))) tz D σ H := by
  unfold tSeq tAsg
  exact ha H (Ex.refl H) _ fun H1 e1 => ⟨Nat.le_of_ble_eq_true rfl, fun t nt => ⟨t, _, rfl, st_of upd_same, rfl, _, _, rfl, _, _, rfl, rfl, k _ (e1.trans (Ex.new nt))⟩⟩
theorem q_unpack {i j : Nat} {t : Addr} {va vb : V} (h : Ev te σ H (.ref t)) (ht : H t = some (.tup [va, vb])) (k : ∀ H1, Ex H H1 → tz D ((σ.set i (some va)).set j (some vb)) H1) : tSeq (tAsg te (gTup K 2 (gCons (gName i) (gCons (gName j) gNil)))) tz D σ H := h H (Ex.refl H) _ fun H1 e1 =>
  ⟨t, _, rfl, st_of (e1 _ _ ht), rfl, _, _, rfl, _, _, rfl, rfl, k H1 e1⟩
end
section
variable {P : Program} {w : World} {K : PySem.W.Frag} {mg : Str → Option Value} {base : Heap} {C CS CR CI CN f f1 f2 fB fS fU p1 p2 fF fC : Addr} {fd d1 d2 dB dS dU dF dC : FuncData}
theorem ok_is (F : FnP K "_law_is" sIs f fd) (sm : ∃ o, K.lookup sysModules = some o) (R : RunCls K CR)
    (G1 : FnOk P w K mg base CX0 1 f1 d1 ["world", "book", "cell"] (spShown K)) (k1 : Kd K mg "_law_shown" ["world", "book", "cell"] f1 d1) (G2 : FnOk P w K mg base CX0 1 f2 d2 ["world"] (spWays K)) (k2 : Kd K mg "_law_ways" ["world"] f2 d2)
    (mB : Meth K CR "book" fB) (GB : FnOk P w K mg base (L2N.CX P w) 5 fB dB ["self", "house"] (spBook K C CS CR CI)) (bB : Binds K dB ["self", "house"] []) (kB : KBn K dB ["self", "house"] 1 ["house"] (fun us ws => us ++ ws) (fun vs zs => vs ++ zs))
    (mS : Meth K CR "shows" fS) (GS : FnOk P w K mg base (L2N.CX P w) 5 fS dS ["self", "house"] (spShows K C CS CR CI)) (bS : Binds K dS ["self", "house"] []) (kS : KBn K dS ["self", "house"] 1 ["house"] (fun us ws => us ++ ws) (fun vs zs => vs ++ zs))
    (mU : Meth K CR "under_way" fU) (GU : FnOk P w K mg base (L2N.CX P w) 6 fU dU ["self", "u", "v"] (spUnder K C CS CR CI CN)) (bU : Binds K dU ["self", "u", "v"] []) (kU : KBn K dU ["self", "u", "v"] 1 ["v", "u"] (fun us ws => us ++ ws.reverse) (fun vs zs => vs ++ zs.reverse))
    (pF : PropOf K CR "finished" p1 fF) (GF : FnOk P w K mg base CX0 3 fF dF ["self"] (spFin K C CS CR)) (bF : Binds K dF ["self"] []) (pC : PropOf K CR "script" p2 fC) (GC : FnOk P w K mg base CX0 1 fC dC ["self"] (spScr K C CS CR)) (bC : Binds K dC ["self"] [])
    (mr : mg "range" = none) (mt : mg "tuple" = none) (mp : mg "repr" = none) (ml : mg "len" = none) : FnG P w K mg base 7 f fd ["world", "running", "state", "turn"] (spIs K C CS CR) := by
  refine fnG (k := 6) (funOf F) scIs (fun vs H Q E h => ?_) fun cdv A outer s0 H0 vs Q hr hg h => ⟨_,
    pss_cons (ps_asg (pe_tup (pa_cons (pe_ix ix_list (pv 2) pe_int (fun _ _ => rfl)) (pa_cons (pe_ix ix_list (pv 2) pe_int (fun _ _ => rfl)) pa_nil))) (pg_tup rfl (pgs_cons (pg_name (i := 4) scIs.nd rfl (.inr rfl)) (pgs_cons (pg_name (i := 5) scIs.nd rfl (.inl rfl)) pgs_nil))))
    (pss_cons (ps_for PassesOwn.never rfl (pi_range1 (by rfl) mr (pa_cons (pe_ix ix_list (pv 0) pe_int (fun _ _ => rfl)) pa_nil)) (pg_name (i := 6) scIs.nd rfl (.inr rfl))
      (pss_cons (ps_set (i := 7) scIs.nd rfl (.inl rfl) (pe_callTy (r := rTupOf K) call_tuple_of (by rfl) mt (by decide +kernel) (pa_cons (pe_lc (own := [("cell", 13)]) (g := gName 13) (tt := tYes) rfl scIs.nd (pi_range1 (by rfl) mr (pa_cons pe_int pa_nil)) (blkOk_by (N := nIs) (sc := defScope sIs) (by decide +kernel)) (fun _ _ _ _ _ => pg_name (i := 13) scIs.nd rfl (.inl rfl)) (fun _ _ _ _ _ => pts_nil)
          (fun _ _ _ _ _ => pe_call G1 (hr.mono (by decide)) (by rfl) k1.m k1.k k1.b .nil pass0 (pa_cons (pv 0) (pa_cons (pe_ix (r := rIxL K) ix_list (pv 4) (pv 6) (fun _ _ => rfl)) (pa_cons (pv 13) pa_nil))))) pa_nil)))
      (pss_cons (ps_set (i := 8) scIs.nd rfl (.inl rfl) (pe_lst (pa_cons (pe_ifExp (pt_cmpR op_eq (pv 3) pe_int (nomark _)) (pe_meth (pv 1) R.cl mB GB (hr.mono (by decide)) bB .nil (passF rfl rfl) (pa_cons (pv 6) pa_nil)) (pe_methK (pv 1) R.cl mB GB (hr.mono (by decide)) kB (passK rfl rfl) (pk_cons (pv 6) pk_nil)))
          (pa_cons (pe_meth (pv 1) R.cl mS GS (hr.mono (by decide)) bS .nil (passF rfl rfl) (pa_cons (pv 6) pa_nil)) pa_nil))))
      (pss_one (ps_if (pw_or (pt_cmpR op_ne (p_repr sm hr.units hg mp (pv 8)) (p_repr sm hr.units hg mp (pe_lst (pa_cons (pe_callTy (r := rTupOf K) call_tuple_of (by rfl) mt (by decide +kernel) (pa_cons (pe_ix ix_list (pv 4) (pv 6) (fun _ _ => rfl)) pa_nil)) (pa_cons (pv 7) pa_nil)))) (nomark _))
          (pw_or1 (pt_cmpR (op_neD hr.units) (pe_methK (pv 1) R.cl mS GS (hr.mono (by decide)) kS (passK rfl rfl) (pk_cons (pv 6) pk_nil)) (pv 7) (nomark _)))).pt (pss_one (ps_ret pe_bl)) pss_nil)))))
    (pss_cons (ps_for PassesOwn.never rfl (pi_list (pe_call G2 (hr.mono (by decide)) (by rfl) k2.m k2.k k2.b .nil pass0 (pa_cons (pv 0) pa_nil))) (pg_name (i := 9) scIs.nd rfl (.inl rfl))
      (pss_cons (ps_asg (pv 9) (pg_tup rfl (pgs_cons (pg_name (i := 10) scIs.nd rfl (.inl rfl)) (pgs_cons (pg_name (i := 11) scIs.nd rfl (.inl rfl)) pgs_nil))))
      (pss_cons (ps_set (i := 8) scIs.nd rfl (.inl rfl) (pe_ifExp (pt_cmpR op_eq (pv 3) pe_int (nomark _)) (pe_meth (pv 1) R.cl mU GU hr bU .nil (passF rfl rfl) (pa_cons (pv 10) (pa_cons (pv 11) pa_nil))) (pe_methK (pv 1) R.cl mU GU hr kU (passK rfl rfl) (pk_cons (pv 11) (pk_cons (pv 10) pk_nil)))))
      (pss_one (ps_if (pt_cmpR op_ne (p_repr sm hr.units hg mp (pv 8)) (p_repr sm hr.units hg mp (pe_callTy (r := rTupOf K) call_tuple_of (by rfl) mt (by decide +kernel) (pa_cons (pe_dget (hu_of hr) (pv 5) (pv 9) (fun _ _ => rfl)) pa_nil))) (nomark _)) (pss_one (ps_ret pe_bl)) pss_nil)))))
    (pss_cons (ps_set (i := 12) scIs.nd rfl (.inl rfl) (pe_cmpR (op_eqD hr.units) (pe_lc (own := [("book", 14)]) (g := gName 14) rfl scIs.nd (pi_list (pv 4)) (blkOk_by (N := nIs) (sc := defScope sIs) (by decide +kernel)) (fun _ _ _ _ _ => pg_name (i := 14) scIs.nd rfl (.inl rfl))
        (fun _ _ _ _ _ => pts_one (pt_cmpR op_lt (pe_callB (r := rLenS K) call_len_seq (by rfl) ml PySem.boot_len (pa_cons (pv 14) pa_nil)) (pe_callB (r := rLenS K) call_len_seq (by rfl) ml PySem.boot_len (pa_cons (pe_ix (r := rIxL K) ix_list (pv 0) pe_int (fun _ _ => rfl)) pa_nil)) (nomark _))) (fun _ _ _ _ _ => pe_int)) (pe_lst pa_nil) (nomark _)))
    (pss_one (ps_ret (pe_cmpR op_eq (p_repr sm hr.units hg mp (pe_lst (pa_cons (pe_prop (pv 1) R.cl pF GF (hr.mono (by decide)) bF .nil pass0 rfl) (pa_cons (pe_prop (pv 1) R.cl pC GC (hr.mono (by decide)) bC .nil pass0 rfl) pa_nil))))
      (p_repr sm hr.units hg mp (pe_lst (pa_cons (pv 12) (pa_cons (pe_callTy (r := rTupOf K) call_tuple_of (by rfl) mt (by decide +kernel) (pa_cons (pe_ix ix_list (pv 2) pe_int (fun _ _ => rfl)) pa_nil)) pa_nil)))) (nomark _))))))), ?_⟩
  · obtain ⟨F, a, x, q, w, ad1, ad2, s, tn, rfl, _⟩ := h
    rfl
  · obtain ⟨F, a, x, q, w, ad1, ad2, s, tn, rfl, hw, hRun, hSt, W, r, hQ⟩ := h
    have I := r.inv W.ok
    have n16 := W.ok.most
    have w12 := W.ok.few
    obtain ⟨rr, hh, cc, ts, wa, w2, w3, w4, w5⟩ := id hw
    obtain ⟨ds1, hR, hD1⟩ := id hRun
    obtain ⟨⟨dx, st, ul, bl, dt, kvs, hS⟩, hF, hC⟩ := id hR
    obtain ⟨ds2, ⟨⟨bl2, dt2, kvs2, hT⟩, hF2, hC2⟩, hD2⟩ := id hSt
    have x1 := hidF_le _ _ hS.hx
    have q1 := hidF_le _ _ hT.hx
    have b1 := hidF_le _ _ hT.hb
    have t1 := hidF_le _ _ hT.hd
    have bk : ∀ h, h < w.n → H0 (ad2 (.bk h)) = some (.lst ((s.bk h).map natV)) := fun h hh => hC2.at' (.bk h) hh
    have qu : ∀ u v, Km.nb w u v → H0 (ad2 (.qu u v)) = some (.lst ((s.qu u v).map natV)) := fun u v nb => hC2.at' (.qu u v) nb
    have dd : H0 (ad2 .dd) = some (.lst ds2) := hC2.at' .dd trivial
    have hb : ∀ h, ∀ b ∈ s.bk h, b < w.cs.length := fun h b m => by rw [W.ok.cl]; exact (I.b1 h b m).1
    have hb2 : ∀ h, ∀ b ∈ s.bk h, b ≤ 200 := fun h b m => by have := (I.b1 h b m).1; omega
    have lbk : ∀ h, h < w.n → (s.bk h).length ≤ 12 := fun h hh => by have := I.few W.ok hh; omega
    -- repr of what is told
    have okT : ∀ h, h < w.n → PyData.okD (.list [.tuple ((s.bk h).map natD), .tuple ((lastL w.cs (s.bk h)).map optD)]) = true := fun h hh => by
      refine (sml_lst (k := 1) (n := 508) (m := 2) (fun d hd => ?_) (by simp)).ok (by decide) (by decide)
      rcases List.mem_cons.mp hd with rfl | hd
      · exact sml_nats (hb2 h) (lbk h hh)
      · rw [List.mem_singleton] at hd
        subst hd
        refine (sml_tup (k := 0) (n := 40) (m := 6) (fun d hd => ?_) (by rw [List.length_map, lastL_len]; exact Nat.le_refl _)).up (by omega) (by omega)
        obtain ⟨o, ho, rfl⟩ := List.mem_map.mp hd
        exact sml_opt fun y e => hb2 h y (lastL_mem ho e)
    have okQ : ∀ u v, PyData.okD (.tuple ((s.qu u v).map natD)) = true := fun u v => (sml_nats (m := 12) (fun k hk => by have := (I.q1 u v k hk).1; omega) (by have := I.qfew W.ok u v; omega)).ok (by decide) (by decide)
    refine q_two (ea_cons (ev_op (ev_var rfl) ev_c (rv_ixL (v := .ref bl2) (sq_of q1) rfl)) (ea_cons (ev_op (ev_var rfl) ev_c (rv_ixL (v := .ref dt2) (sq_of q1) rfl)) ea_nil)) fun H1 e1 => ?_
    -- the houses
    refine q_forR1 (n := (w.n : Int)) (ea_cons (ev_op (ev_var rfl) ev_c (rv_ixL (v := natV w.n) (sq_of (e1 _ _ wa)) rfl)) ea_nil) (by omega) (fun _ (σ' : L2.St) (H' : Hp) => (∃ y6 y7 y8, σ' = [some (.ref a), some (.ref x), some (.ref q), some (.int tn), some (.ref bl2), some (.ref dt2), y6, y7, y8, none, none, none, none, none, none]) ∧ Ex H0 H') (fun H2 e2 => ⟨⟨_, _, _, rfl⟩, e1.trans e2⟩) (fun h σ' H' hlt hp => ?_) fun σ' H' hp => ?_
    · obtain ⟨⟨y6, y7, y8, rfl⟩, e2⟩ := hp
      have hh : h < w.n := by omega
      have book : ∀ {σ' : L2.St} {H' : Hp}, Ex H0 H' → σ'[4]? = some (some (.ref bl2)) → σ'[6]? = some (some (.int (h : Int))) → Ev (tOp (rIxL K) (tVar 4) (tVar 6)) σ' H' (.ref (ad2 (.bk h))) := fun {σ' H'} e s4 s6 => ev_op (ev_var s4) (ev_var s6) (rv_ixL (sq_of (e _ _ b1)) (atI_nat (rng_at hh)))
      have gv : given (Int.toNat 6) (fun _ => true) (fun c => optV (((s.bk h).filter fun b => decide (w.cs.getD b 0 = c)).getLast?)) = (lastL w.cs (s.bk h)).map optV := by
        rw [given_all]
        exact copy_eq
      refine q_asgU (eu_tupL (el_lcR1 (n := 6) (fun _ => true) (fun c => optV (((s.bk h).filter fun b => decide (w.cs.getD b 0 = c)).getLast?)) (ea_cons ev_c ea_nil) (by decide) (fun _ => rfl) (fun i H3 e3 hi H4 e4 Q q => by unfold tYes; exact q H4 (Ex.refl _)) fun c H3 e3 hc _ => ?_)) fun p H3 np e3 hp => ?_
      · exact ev_call' (ea_cons (ev_var rfl) (ea_cons (book (e2.trans e3) rfl rfl) (ea_cons (ev_var rfl) ea_nil))) fun H4 e4 Q q => ⟨a, ad2 (.bk h), w, s.bk h, c, rfl, hw.mono ((e2.trans e3).trans e4), ((e2.trans e3).trans e4) _ _ (bk h hh), by have := lbk h hh; omega, hb h, q⟩
      · rw [gv] at hp
        have e03 := e2.trans e3
        refine q_asgP (PP := fun v H2 => Dq H2 v (.list [.tuple ((s.bk h).map natD), .tuple ((lastL w.cs (s.bk h)).map optD)])) (et_lst (ets_cons (et2_if (et_test (ev_op (ev_var rfl) ev_c (rv_eq rfl)))
            (fun _ => evp_meth (ev_var rfl) (e03 _ _ x1) rfl (ea_cons (ev_var rfl) ea_nil) fun H4 e4 Q q => sp_book (hRun.mono (e03.trans e4)) hh q)
            fun _ => evp_methK (ev_var rfl) (e03 _ _ x1) rfl (ea_cons (ev_var rfl) ea_nil) rfl fun H4 e4 Q q => sp_book (hRun.mono (e03.trans e4)) hh q)
          (ets_cons (evp_meth (ev_var rfl) (e03 _ _ x1) rfl (ea_cons (ev_var rfl) ea_nil) fun H4 e4 Q q => sp_shows (hRun.mono (e03.trans e4)) W r hh hb fun t H5 e5 ht => q _ _ e5 (.tup ht (dq_opts _))) ets_nil)) (by show 2 ≤ 100000; decide)) fun v H4 e4 hv => ?_
        have e04 := e03.trans e4
        refine s_when (b := false) (et_is (et_or (et_test (ev_op (ev_repr (ev_var rfl) hv (okT h hh)) (ev_reprT (et_lst (ets_cons (et_tupL (book e04 rfl rfl) (e04 _ _ (bk h hh)) (dqN _)) (ets_cons (et_v (ev_var rfl) (.tup (e4 _ _ hp) (dq_opts _))) ets_nil)) (by show 2 ≤ 100000; decide)) (okT h hh)) (rv_ne rfl))) fun _ =>
          et_test (ev_opP (PP := fun v H2 => ∃ t, v = .ref t ∧ H2 t = some (.tup ((lastL w.cs (s.bk h)).map optV))) (evp_methK (ev_var rfl) (e04 _ _ x1) rfl (ea_cons (ev_var rfl) ea_nil) rfl fun H5 e5 Q q => sp_shows (hRun.mono (e04.trans e5)) W r hh hb fun t H6 e6 ht => q _ _ e6 ⟨t, rfl, ht⟩) (ev_var rfl) fun v H5 H6 e5 pp e6 => by
            obtain ⟨t, rfl, ht⟩ := pp
            exact rv_neD (d := .tuple ((lastL w.cs (s.bk h)).map optD)) (e := .tuple ((lastL w.cs (s.bk h)).map optD)) (.tup (st_of (e6 _ _ ht)) (dp_opts _)) (.tup (st_of (((e4.trans e5).trans e6) _ _ hp)) (dp_opts _)) (PyData.shaped_tuple sh_opts) (PyData.shaped_tuple sh_opts))) ?_) (fun hb => nomatch hb) fun _ H5 e5 => ⟨⟨_, _, _, rfl⟩, e04.trans e5⟩
        have : PyData.eqv (.tuple ((lastL w.cs (s.bk h)).map optD)) (.tuple ((lastL w.cs (s.bk h)).map optD)) = true := by
          simp only [PyData.eqv]
          exact eqv_opts _
        rw [this]
        simp
    · obtain ⟨⟨y6, y7, y8, rfl⟩, e2⟩ := hp
      -- the ways
      refine q_forQ (fun v H2 => ∃ p us, v = .ref p ∧ Ex H0 H2 ∧ H2 p = some (.lst us) ∧ Tps H2 (waysL w.n w.ps) us) (fun Q' q' => (ea_cons (ev_var rfl) ea_nil) H' (Ex.refl _) _ fun H3 e3 => ⟨a, w, rfl, hw.mono (e2.trans e3), W, fun p us H4 np e4 hp tp => q' _ _ ⟨p, us, rfl, (e2.trans e3).trans e4, hp, tp⟩⟩) fun v H2 hv => ?_
      obtain ⟨p, us, rfl, e3, hp, tp⟩ := hv
      refine q_forLn (xs := us) ev_c (sq_of hp) (fun _ (σ' : L2.St) (H' : Hp) => (∃ y8 y9 y10 y11, σ' = [some (.ref a), some (.ref x), some (.ref q), some (.int tn), some (.ref bl2), some (.ref dt2), y6, y7, y8, y9, y10, y11, none, none, none]) ∧ Ex H2 H') (fun H4 e4 => ⟨⟨_, _, _, _, rfl⟩, e4⟩) (fun i σ' H' _ q => sq_of (q.2 _ _ hp)) (fun i y σ' H' hy hp' => ?_) fun σ' H' hp' => ?_
      · obtain ⟨⟨y8', y9, y10, y11, rfl⟩, e4⟩ := hp'
        obtain ⟨pr, hpr, t, rfl, ht⟩ := tp.of hy
        have nb : Km.nb w pr.1 pr.2 := (mem_waysL W).mp (List.mem_of_getElem? hpr)
        have hv : pr.2 < w.n := Km.nb_r W.ok nb
        have hu : pr.1 < w.n := Km.nb_r W.ok (u := pr.2) (nb.elim .inr .inl)
        refine q_unpack (ev_var rfl) (e4 _ _ ht) fun H5 e5 => ?_
        have e45 := e4.trans e5
        have e05 := e3.trans e45
        refine q_asgP (PP := fun v H2 => Dq H2 v (.tuple ((s.qu pr.1 pr.2).map natD))) (et2_if (et_test (ev_op (ev_var rfl) ev_c (rv_eq rfl)))
            (fun _ => evp_meth (ev_var rfl) (e05 _ _ x1) rfl (ea_cons (ev_var rfl) (ea_cons (ev_var rfl) ea_nil)) fun H6 e6 Q q => sp_under (hRun.mono (e05.trans e6)) W nb hu hv q)
            fun _ => evp_methK (ev_var rfl) (e05 _ _ x1) rfl (ea_cons (ev_var rfl) (ea_cons (ev_var rfl) ea_nil)) rfl fun H6 e6 Q q => sp_under (hRun.mono (e05.trans e6)) W nb hu hv q) fun v H6 e6 hv' => ?_
        have e06 := e05.trans e6
        exact s_when (b := false) (et_is (et_test (ev_op (ev_repr (ev_var rfl) hv' (okQ _ _)) (ev_reprT (et_tupL (ev_dgP (k := [Sum.inl (pr.1 : Int), Sum.inl (pr.2 : Int)]) (ev_var rfl) (e06 _ _ t1) (ev_var rfl) ((e45.trans e6) _ _ ht) (hT.hq _ _ nb)) (e06 _ _ (qu _ _ nb)) (dqN _)) (okQ _ _)) (rv_ne rfl))) (by simp)) (fun hb => nomatch hb) fun _ H7 e7 => ⟨⟨_, _, _, _, rfl⟩, (e45.trans e6).trans e7⟩
      · obtain ⟨⟨y8', y9, y10, y11, rfl⟩, e4⟩ := hp'
        have e04 := e3.trans e4
        -- whether all is done
        have done : ((((List.range w.n).filter fun i => decide ((s.bk i).length < w.hs.length)).map fun _ => natD 1).isEmpty) = (List.range w.n).all fun h => decide ((s.bk h).length = w.hs.length) := by
          rw [List.isEmpty_map]
          rw [Bool.eq_iff_iff, List.isEmpty_iff, List.filter_eq_nil_iff, List.all_eq_true]
          constructor
          · intro z h m
            have := z h m
            have := I.few W.ok (List.mem_range.mp m)
            simp only [decide_eq_true_eq] at *
            omega
          · intro z h m
            have := z h m
            simp only [decide_eq_true_eq] at *
            omega
        refine q_asg (v := .bl ((List.range w.n).all fun h => decide ((s.bk h).length = w.hs.length))) (ev_is (ev_opLL (el_lcL (fun i => decide ((s.bk i).length < w.hs.length)) (fun _ => natV 1) (ev_var rfl) (sq_of (e04 _ _ b1)) (by rw [List.length_map, List.length_range]; omega) (fun _ => rfl) (fun i y H5 e5 hy => ?_) fun i y H5 e5 hy _ => ev_c) (el_lst ea_nil (Nat.zero_le _)) fun p1 p2 H5 h1 h2 e5 => rv_eqD (d := .list (((List.range w.n).filter fun i => decide ((s.bk i).length < w.hs.length)).map fun _ => natD 1)) (e := .list []) (.lst (sq_of h1) ?_) (.lst (sq_of h2) .nil) (PyData.shaped_list fun d hd => ?_) (PyData.shaped_list fun d hd => by cases hd)) (by rw [PyData.eqv_nil, done])) fun H5 e5 => ?_
        · have hi : i < w.n := by
            have := (List.getElem?_eq_some_iff.mp hy).1
            rwa [List.length_map, List.length_range] at this
          have hy' : y = V.ref (ad2 (.bk i)) := by
            rw [rng_at hi] at hy
            exact (Option.some.inj hy).symm
          subst hy'
          refine et_is (et_test (ev_op (ev_len (ev_var rfl) (sq_of ((e04.trans e5) _ _ (bk i hi)))) (ev_len (ev_op (ev_var rfl) ev_c (rv_ixL (v := .ref hh) (sq_of ((e04.trans e5) _ _ wa)) rfl)) (sq_of ((e04.trans e5) _ _ w4))) rv_I0)) ?_
          rw [List.length_map, List.length_map]
          exact decide_eq_decide.mpr (by omega)
        · have e : given ((List.range w.n).map fun h => V.ref (ad2 (.bk h))).length (fun i => decide ((s.bk i).length < w.hs.length)) (fun _ => natV 1) = (((List.range w.n).filter fun i => decide ((s.bk i).length < w.hs.length)).map fun _ => 1).map natV := by
            unfold given
            rw [List.length_map, List.length_range, List.map_map]
            rfl
          have e2 : (((List.range w.n).filter fun i => decide ((s.bk i).length < w.hs.length)).map fun _ => natD 1) = (((List.range w.n).filter fun i => decide ((s.bk i).length < w.hs.length)).map fun _ => 1).map natD := by
            rw [List.map_map]
            rfl
          rw [e, e2]
          exact dpAll_nats _
        · obtain ⟨_, _, rfl⟩ := List.mem_map.mp hd
          simp [natD, PyData.canLay0, PyData.depth]
        · have e05 := e04.trans e5
          have dl := r.ddfew W.ok
          have okE : PyData.okD (.list [.bool ((List.range w.n).all fun h => decide ((s.bk h).length = w.hs.length)), .tuple (s.dd.map deedD)]) = true := by
            refine (sml_lst (k := 2) (n := 132 * 192 + 4) (m := 2) (fun d hd => ?_) (by simp)).ok (by decide) (by decide)
            rcases List.mem_cons.mp hd with rfl | hd
            · exact sml_bool.up (by omega) (by omega)
            · rw [List.mem_singleton] at hd
              subst hd
              refine sml_tup (k := 1) (n := 130) (m := 192) (fun d hd => ?_) (by rw [List.length_map]; exact dl)
              obtain ⟨z, hz, rfl⟩ := List.mem_map.mp hd
              exact sml_deed W (Km.Path.ok (Km.Run.path r) z hz)
          refine s_ret (v := .bl true) (ev_is (ev_op (ev_reprT (et_lst (ets_cons (evp_prop (ev_var rfl) (e05 _ _ x1) fun H6 e6 Q q => ⟨F, x, w, ad1, ctOf w s ds1, rfl, hR.mono (e05.trans e6), by omega, fun h hh => ?_, by omega, fun H7 e7 => q _ _ e7 ?_⟩) (ets_cons (evp_prop (ev_var rfl) (e05 _ _ x1) fun H6 e6 Q q => ⟨F, x, w, ad1, ctOf w s ds1, rfl, hR.mono (e05.trans e6), fun t H7 e7 ht => q _ _ e7 (.tup ht (DqAll.mono ((e05.trans e6).trans e7) (DqAll.mono hidF_le hD1)))⟩) ets_nil)) (by show 2 ≤ 100000; decide)) okE)
            (ev_reprT (et_lst (ets_cons (et_v (ev_var rfl) (.bl _)) (ets_cons (et_tupL (ev_op (ev_var rfl) ev_c (rv_ixL (v := .ref (ad2 .dd)) (sq_of (e05 _ _ q1)) rfl)) (e05 _ _ dd) (DqAll.mono e05 (DqAll.mono hidF_le hD2))) ets_nil)) (by show 2 ≤ 100000; decide)) okE) (rv_eq rfl)) (by simp)) fun H6 e6 => hQ H6 (e05.trans e6)
          · show ((s.bk h).map natV).length ≤ 1000
            rw [List.length_map]
            have := lbk h hh
            omega
          · have e : ((List.range w.n).all fun h => decide ((ctOf w s ds1 (.bk h)).length = w.hs.length)) = (List.range w.n).all fun h => decide ((s.bk h).length = w.hs.length) := by
              congr 1
              funext h
              show decide (((s.bk h).map natV).length = w.hs.length) = _
              rw [List.length_map]
            rw [e]
            exact .bl _
end
end Tr

set_option maxHeartbeats 4000000
/-! ### a drawn deed (law k04): _law_deed -/
namespace Tr
open PySem PySem.Spec PyProof.Rows L2 LK Evl
abbrev sDeed : Stmt := top 61
abbrev nDeed : List Str := ["box", "world", "state", "kind", "one", "other", "ways", "u", "v", "able", "odd", "way", "house"]
theorem scDeed : FnScope nDeed ["box", "world", "state"] (defScope sDeed) := ⟨rfl, rfl, rfl, by decide +kernel, rfl, by decide +kernel, by decide +kernel⟩
/-- data of a deed that repr takes -/
def DxF : Dx → Prop
  | .mk d => Sml 1 46 d
  | .hd d e => Sml 1 46 d ∧ Sml 1 46 e
/-- what a deed may change: the box -/
structure Boxed (F : Addr → Prop) (p : Addr) (w : Km.W) (r : Bool) (ad : Slot → Addr) : Prop where
  f : F p
  n : ∀ a, In w r ad a → a ≠ p
def spDeed (K : PySem.W.Frag) : Sp := fun vs H Q _ => ∃ (F : Addr → Prop) (p a q : Addr) (w : Km.W) (ad : Slot → Addr) (s : Km.S) (m : Nat), vs = [.ref p, .ref a, .ref q] ∧ Bx H p m ∧ m ≤ 90000 ∧ Boxed F p w false ad ∧ WorldAt (hidF F H) a w ∧ StAt F H q w ad s ∧ Live F H ∧ Wd w ∧ Km.Run w s ∧
  ∀ t dx H2, Fr (One p) H H2 → Bx H2 p (m + 10) → Live F H2 → H t = none → DxAt (hidF F H2) t dx → DxF dx → Q (.ref t) H2
section
variable {K : PySem.W.Frag} {σ : L2.St} {H : Hp} {ta tb te tl : TE} {tr : TA} {D : Ends} {tz tu : TS} {p : Addr}
theorem fr_none_p {H H' : Hp} {p t : Addr} {m : Nat} (e : Fr (One p) H H') (hB : Bx H' p m) (h : H' t = none) : H t = none := by
  by_cases c : t = p
  · subst c
    obtain ⟨o, ho⟩ := hB.some
    rw [ho] at h
    cases h
  · exact fr_none e c h
/-- a draw among arguments -/
theorem a_draw {i m : Nat} {s : Int} {E : XK} {Q : List V → Hp → Prop} (hσ : σ[i]? = some (some (.ref p))) (hs : Ev te σ H (.int s)) (hB : Bx H p m) (hm : m ≤ 100000) (s0 : 0 < s) (s1 : s ≤ 1000) (k : ∀ (r : Nat) H2, (r : Int) < s → Fr (One p) H H2 → Bx H2 p (m + 1) → tr σ H2 fun vs H3 => Q (.int (r : Int) :: vs) H3) :
    tCons (tCall spTake [] E (tCons (tVar i) (tCons te tNil))) tr σ H Q := ⟨_, hσ, hs H (Ex.refl H) _ fun H1 e1 => ⟨p, s, m, rfl, hB.mono e1, hm, s0, s1, fun r H2 hr fr hB2 => k r H2 hr ((Fr.of e1).trans fr) hB2⟩⟩
theorem q_par3 {i j l : Nat} {ta : TA} (h : ta σ H fun vs H1 => ∃ u v w, vs = [u, v, w] ∧ tz D (((σ.set i (some u)).set j (some v)).set l (some w)) H1) : tSeq (tPar3 i j l ta) tz D σ H := h
/-- l[draw] -/
theorem ix_draw {i m : Nat} {s : Int} {E : XK} {l : Addr} {us : List V} {Q : VK} (hl : Ev tl σ H (.ref l)) (hσ : σ[i]? = some (some (.ref p))) (hs : Ev te σ H (.int s)) (hlu : H l = some (.lst us)) (hlp : l ≠ p) (e : s = (us.length : Int)) (h0 : 0 < us.length) (hz : us.length ≤ 1000) (hB : Bx H p m) (hm : m ≤ 100000)
    (q : ∀ (r : Nat) v H2, us[r]? = some v → Fr (One p) H H2 → Bx H2 p (m + 1) → Q v H2) : tOp (rIxL K) tl (tCall spTake [] E (tCons (tVar i) (tCons te tNil))) σ H Q :=
  hl H (Ex.refl H) _ fun H0 e0 => ⟨_, hσ, hs H0 e0 _ fun H1 e1 => ⟨p, s, m, rfl, hB.mono (e0.trans e1), hm, by omega, by omega, fun r H2 hr fr hB2 => by
    have hr' : r < us.length := by omega
    have fr0 : Fr (One p) H H2 := (Fr.of (e0.trans e1)).trans fr
    refine ⟨l, us, (r : Int), us[r], rfl, rfl, sq_of (fr0 _ _ hlp hlu), atI_nat (List.getElem?_eq_getElem hr'), q r _ H2 (List.getElem?_eq_getElem hr') fr0 hB2⟩⟩⟩
/-- arguments, told by what is known of them -/
def EvAP (ta : TA) (σ : L2.St) (H : Hp) (PP : List V → Hp → Prop) : Prop := ∀ H1, Ex H H1 → ∀ Q : List V → Hp → Prop, (∀ vs H2, Ex H1 H2 → PP vs H2 → Q vs H2) → ta σ H1 Q
theorem eap_nil : EvAP tNil σ H fun vs _ => vs = [] := fun H1 _ Q q => q [] H1 (Ex.refl H1) rfl
theorem eap_cons {v : V} {PP : List V → Hp → Prop} (h : Ev te σ H v) (hr : EvAP tr σ H PP) : EvAP (tCons te tr) σ H fun vs H2 => ∃ r, vs = v :: r ∧ PP r H2 := fun H1 e Q q =>
  h H1 e _ fun H2 e2 => hr H2 (e.trans e2) _ fun vs H3 e3 hp => q _ H3 (e2.trans e3) ⟨vs, rfl, hp⟩
theorem eap_tup {xs : List V} {PP : List V → Hp → Prop} (h : EvU te σ H xs) (hr : EvAP tr σ H PP) : EvAP (tCons te tr) σ H fun vs H2 => ∃ t r, vs = .ref t :: r ∧ H t = none ∧ H2 t = some (.tup xs) ∧ PP r H2 := fun H1 e Q q =>
  h H1 e _ fun t H2 nt e2 ht => hr H2 (e.trans e2) _ fun vs H3 e3 hp => q _ H3 (e2.trans e3) ⟨t, vs, rfl, fresh_back e nt, e3 _ _ ht, hp⟩
/-- [..][draw] -/
theorem menuP {i m : Nat} {s : Int} {E : XK} {n : Nat} {PP : List V → Hp → Prop} {Q : VK} (h : EvAP tr σ H PP) (hn : ∀ vs H2, PP vs H2 → vs.length = n) (e : s = (n : Int)) (h0 : 0 < n) (hz : n ≤ 1000) (hσ : σ[i]? = some (some (.ref p))) (hB : Bx H p m) (hm : m ≤ 100000)
    (q : ∀ (r : Nat) vs v H1 H2, PP vs H1 → Ex H H1 → vs[r]? = some v → Fr (One p) H1 H2 → Bx H2 p (m + 1) → Q v H2) : tOp (rIxL K) (tLst tr) (tCall spTake [] E (tCons (tVar i) (tCons (tC (.int s)) tNil))) σ H Q :=
  h H (Ex.refl H) _ fun vs H1 e1 pp => by
    have hl := hn vs H1 pp
    refine ⟨sz_of (by omega), fun l nl => ?_⟩
    obtain ⟨o, hpo⟩ := (hB.mono e1).some
    have lp : l ≠ p := (ne_of_none hpo nl).symm
    have e2 : Ex H1 (upd H1 l (.lst vs)) := Ex.new nl
    refine ⟨_, hσ, ⟨p, s, m, rfl, hB.mono (e1.trans e2), hm, by omega, by omega, fun r H2 hr fr hB2 => ?_⟩⟩
    have hr' : r < vs.length := by omega
    exact ⟨l, vs, (r : Int), vs[r], rfl, rfl, sq_of (fr _ _ lp upd_same), atI_nat (List.getElem?_eq_getElem hr'), q r vs _ H1 H2 pp e1 (List.getElem?_eq_getElem hr') ((Fr.of e2).trans fr) hB2⟩
theorem lc_fromQ {g : TG} {t : TT} {vs : List Nat} {Q : VK} (PP : V → Hp → Prop) (h : ∀ Q : VK, (∀ v H2, PP v H2 → Q v H2) → tl σ H Q) (k : ∀ v H2, PP v H2 → tLc (iList K (tC v)) g t te vs σ H2 Q) : tLc (iList K tl) g t te vs σ H Q := h _ k
theorem dp_tps {H : Hp} : ∀ {ps : List (Nat × Nat)} {us : List V}, Tps H ps us → DpAll K H us (ps.map prD)
  | _, _, .nil => .nil
  | _, _, .cons ⟨t, e, ht⟩ r => by
    subst e
    exact .cons (.tup (st_of ht) (.cons (.int _) (.cons (.int _) .nil))) (dp_tps r)
theorem sh_prs {ps : List (Nat × Nat)} : ∀ d ∈ ps.map prD, d.canLay0 = true ∧ d.depth ≤ 60 := fun d hd => by
  obtain ⟨n, _, rfl⟩ := List.mem_map.mp hd
  simp [prD, PyData.canLay0, PyData.depth, PyData.canLayAll0, PyData.depthAll]
theorem all2_self {α : Type} {R : α → V → Prop} {f : α → V} : ∀ {l : List α}, (∀ a ∈ l, R a (f a)) → All2 R l (l.map f)
  | [], _ => .nil
  | a :: l, h => .cons (h a List.mem_cons_self) (all2_self fun b hb => h b (List.mem_cons_of_mem a hb))
end
/-- the ways along which writes are under way -/
def hotL (w : Km.W) (s : Km.S) : List (Nat × Nat) := (waysL w.n w.ps).filter fun p => !(s.qu p.1 p.2).isEmpty
theorem mem_hot {w : Km.W} (W : Wd w) {s : Km.S} {p : Nat × Nat} : p ∈ hotL w s ↔ Km.nb w p.1 p.2 ∧ s.qu p.1 p.2 ≠ [] := by
  unfold hotL
  rw [List.mem_filter, mem_waysL W]
  simp
theorem ways_few {w : Km.W} (W : Wd w) : (waysL w.n w.ps).length ≤ 300 := by
  have a := (ways_perm W).length_eq
  unfold waysP at a
  rw [List.length_append, List.length_map] at a
  have := W.right.many
  have := W.ok.most
  omega
section
variable {P : Program} {w : World} {K : PySem.W.Frag} {mg : Str → Option Value} {base : Heap} {f f1 f2 f3 : Addr} {fd d1 d2 d3 : FuncData}
/-- [way for way in _law_ways(world) if state[1][way] != []] -/
theorem lc_hot {σ : L2.St} {H : Hp} {F : Addr → Prop} {a q : Addr} {w : Km.W} {ad : Slot → Addr} {s : Km.S} {Q : VK} {iw iq j : Nat} {vs : List Nat} (hw : WorldAt H a w) (W : Wd w) (hS : StAt F H q w ad s) (sw : σ[iw]? = some (some (.ref a))) (sq : ∀ x, ((wipe σ vs).set j (some x))[iq]? = some (some (.ref q)) ∧ ((wipe σ vs).set j (some x))[j]? = some (some x)) (hwp : ∀ x, wipe ((wipe σ vs).set j (some x)) vs = wipe σ vs)
    (k : ∀ l us H2, H l = none → Ex H H2 → H2 l = some (.lst us) → Tps H2 (hotL w s) us → Q (.ref l) H2) :
    tLc (iList K (tCall (spWays K) [] E0 (tCons (tVar iw) tNil))) (gName j) (tTest (tOp (rNeD K) (tDGet (tOp (rIxL K) (tVar iq) (tC (.int 1))) (tVar j)) (tLst tNil))) (tVar j) vs σ H Q := by
  obtain ⟨ds2, ⟨⟨bl2, dt2, kvs2, hT⟩, hF2, hC2⟩, hD2⟩ := id hS
  have q1 := hidF_le _ _ hT.hx
  have t1 := hidF_le _ _ hT.hd
  refine lc_fromQ (fun v H2 => ∃ p us, v = .ref p ∧ Ex H H2 ∧ H2 p = some (.lst us) ∧ Tps H2 (waysL w.n w.ps) us) (fun Q' q' => (ea_cons (ev_var sw) ea_nil) H (Ex.refl _) _ fun H3 e3 => ⟨a, w, rfl, hw.mono e3, W, fun p us H4 np e4 hp tp => q' _ _ ⟨p, us, rfl, e3.trans e4, hp, tp⟩⟩) fun v H2 hv => ?_
  obtain ⟨p, us, rfl, e2, hp, tp⟩ := hv
  have lu := tp.len
  have lw := ways_few W
  have pr : ∀ (i : Nat) (x : V), us[i]? = some x → ∃ t, x = .ref t ∧ H2 t = some (.tup [natV ((waysL w.n w.ps).getD i (0, 0)).1, natV ((waysL w.n w.ps).getD i (0, 0)).2]) ∧ Km.nb w ((waysL w.n w.ps).getD i (0, 0)).1 ((waysL w.n w.ps).getD i (0, 0)).2 ∧ us.getD i .non = x := fun i x hx => by
    obtain ⟨pr, hpr, t, rfl, ht⟩ := tp.of hx
    have e : (waysL w.n w.ps).getD i (0, 0) = pr := by rw [List.getD_eq_getElem?_getD, hpr]; rfl
    rw [e]
    exact ⟨t, rfl, ht, (mem_waysL W).mp (List.mem_of_getElem? hpr), by rw [List.getD_eq_getElem?_getD, hx]; rfl⟩
  refine el_lcL (K := K) (H := H2) (fun i => !(s.qu ((waysL w.n w.ps).getD i (0, 0)).1 ((waysL w.n w.ps).getD i (0, 0)).2).isEmpty) (fun i => us.getD i .non) ev_c (sq_of hp) (by omega) hwp (fun i x H3 e3 hx => ?_) (fun i x H3 e3 hx _ => ?_) H2 (Ex.refl _) Q fun l H3 nl e3 hl => k l _ H3 (fresh_back e2 nl) (e2.trans e3) hl ?_
  · obtain ⟨t, rfl, ht, nb, _⟩ := pr i x hx
    obtain ⟨s1, s2⟩ := sq (.ref t)
    have e := e2.trans e3
    refine et_is (et_neNil (ds := (s.qu ((waysL w.n w.ps).getD i (0, 0)).1 ((waysL w.n w.ps).getD i (0, 0)).2).map natD) (ev_dgP (k := [Sum.inl (((waysL w.n w.ps).getD i (0, 0)).1 : Int), Sum.inl (((waysL w.n w.ps).getD i (0, 0)).2 : Int)]) (ev_op (ev_var s1) ev_c (rv_ixL (v := .ref dt2) (sq_of (e _ _ q1)) rfl)) (e _ _ t1) (ev_var s2) (e3 _ _ ht) (hT.hq _ _ nb)) (sq_of (e _ _ (hC2.at' (.qu _ _) nb))) (dpAll_nats _) sh_nats) ?_
    rw [List.isEmpty_map]
  · obtain ⟨t, rfl, ht, nb, eg⟩ := pr i x hx
    rw [eg]
    exact ev_var (sq _).2
  · unfold given
    have z : hotL w s = ((List.range us.length).filter fun i => !(s.qu ((waysL w.n w.ps).getD i (0, 0)).1 ((waysL w.n w.ps).getD i (0, 0)).2).isEmpty).map fun i => (waysL w.n w.ps).getD i (0, 0) := by
      rw [lu]
      exact (((filter_range (waysL w.n w.ps) (0, 0) (fun p => !(s.qu p.1 p.2).isEmpty) id).trans (List.map_id _)).symm : _)
    rw [z]
    refine all2_mapL (all2_self fun i hi => ?_)
    have hi' := List.mem_range.mp (List.mem_filter.mp hi).1
    obtain ⟨t, e, ht, _, eg⟩ := pr i _ (List.getElem?_eq_getElem hi')
    rw [eg]
    exact ⟨t, e, e3 _ _ ht⟩
/-- [house for house in range(world[0]) if _law_left(world, state, house) != []] -/
def ableL (w : Km.W) (s : Km.S) : List Nat := (List.range w.n).filter fun h => !(Km.left w s h).isEmpty
theorem el_able {σ : L2.St} {H : Hp} {F : Addr → Prop} {a q : Addr} {w : Km.W} {ad : Slot → Addr} {s : Km.S} {iw iq j : Nat} {vs : List Nat} (hw : WorldAt H a w) (W : Wd w) (hS : StAt F H q w ad s) (sw : σ[iw]? = some (some (.ref a)))
    (sq : ∀ x, ((wipe σ vs).set j (some x))[iw]? = some (some (.ref a)) ∧ ((wipe σ vs).set j (some x))[iq]? = some (some (.ref q)) ∧ ((wipe σ vs).set j (some x))[j]? = some (some x)) (hwp : ∀ x, wipe ((wipe σ vs).set j (some x)) vs = wipe σ vs) :
    EvL (tLc (iRng1 (tCons (tOp (rIxL K) (tVar iw) (tC (.int 0))) tNil)) (gName j) (tTest (tOp (rNeD K) (tCall (spLeft K) [] E0 (tCons (tVar iw) (tCons (tVar iq) (tCons (tVar j) tNil)))) (tLst tNil))) (tVar j) vs) σ H ((ableL w s).map natV) := by
  obtain ⟨rr, hh, cc, ts, wa, w2, w3, w4, w5⟩ := id hw
  have n16 := W.ok.most
  have e : (ableL w s).map natV = given (Int.toNat (w.n : Int)) (fun h => !(Km.left w s h).isEmpty) (fun h => natV h) := rfl
  rw [e]
  refine el_lcR1 (n := (w.n : Int)) (fun h => !(Km.left w s h).isEmpty) (fun h => natV h) (ea_cons (ev_op (ev_var sw) ev_c (rv_ixL (v := natV w.n) (sq_of wa) rfl)) ea_nil) (by omega) hwp (fun h H1 e1 hlt => ?_) fun h H1 e1 hlt _ => ev_var (sq _).2.2
  obtain ⟨s1, s2, s3⟩ := sq (.int (h : Int))
  refine et_is (et_test (ev_opLL (el_call (sp := spLeft K) (xs := (Km.left w s h).map natV) (ea_cons (ev_var s1) (ea_cons (ev_var s2) (ea_cons (ev_var s3) ea_nil))) fun H2 e2 Q q' => ?_) (el_lst ea_nil (Nat.zero_le _)) fun p1 p2 H5 h1 h2 e5 => rv_neD (d := .list ((Km.left w s h).map natD)) (e := .list []) (.lst (sq_of h1) (dpAll_nats _)) (.lst (sq_of h2) .nil) (PyData.shaped_list sh_nats) (PyData.shaped_list fun d hd => by cases hd))) (by rw [PyData.eqv_nil, List.isEmpty_map])
  exact ⟨F, a, q, w, ad, s, h, rfl, hw.mono (e1.trans e2), hS.mono (e1.trans e2), by omega, W.ok.few, q'⟩
theorem ok_deed (F : FnP K "_law_deed" sDeed f fd) (G1 : FnOk P w K mg base CX0 1 f1 d1 ["box", "many"] spTake) (k1 : Kd K mg "_law_take" ["box", "many"] f1 d1) (G2 : FnOk P w K mg base CX0 1 f2 d2 ["world"] (spWays K)) (k2 : Kd K mg "_law_ways" ["world"] f2 d2)
    (G3 : FnOk P w K mg base CX0 1 f3 d3 ["world", "state", "house"] (spLeft K)) (k3 : Kd K mg "_law_left" ["world", "state", "house"] f3 d3) (mr : mg "range" = none) (ml : mg "len" = none) (mi : mg "int" = none) : FnOk P w K mg base CX0 2 f fd ["box", "world", "state"] (spDeed K) := by
  refine F.ok scDeed (fun vs H Q E h => ?_) fun cdv A outer s0 H0 vs Q E hr h => ⟨_, PSs.nox (
    pss_cons (ps_par3 (i := 3) (j := 4) (l := 5) rfl scDeed.nd rfl rfl rfl (by decide) (by decide) (by decide) rfl rfl rfl (pa_cons (pe_call G1 hr (by rfl) k1.m k1.k k1.b .nil pass0 (pa_cons (pv 0) (pa_cons pe_int pa_nil))) (pa_cons (pe_call G1 hr (by rfl) k1.m k1.k k1.b .nil pass0 (pa_cons (pv 0) (pa_cons (pe_ix ix_list (pv 1) pe_int (fun _ _ => rfl)) pa_nil)))
        (pa_cons (pe_call G1 hr (by rfl) k1.m k1.k k1.b .nil pass0 (pa_cons (pv 0) (pa_cons (pe_ix ix_list (pv 1) pe_int (fun _ _ => rfl)) pa_nil))) pa_nil))) rfl)
    (pss_cons (ps_setLc (i := 6) (own := [("way", 11)]) (g := gName 11) rfl scDeed.nd rfl rfl (sw_true rfl rfl rfl (by decide +kernel)) (pi_list (pe_call G2 hr (by rfl) k2.m k2.k k2.b .nil pass0 (pa_cons (pv 1) pa_nil))) (blkOk_by (N := nDeed) (sc := defScope sDeed) (by decide +kernel)) (fun _ _ _ _ _ => pg_name (i := 11) scDeed.nd rfl (.inl rfl))
      (fun _ _ _ _ _ => pts_one (pt_cmpR (r := rNeD K) (op_neD hr.units) (pe_dget (hu_of hr) (pe_ix (r := rIxL K) ix_list (pv 2) pe_int (fun _ _ => rfl)) (pv 11) (fun _ _ => rfl)) (pe_lst pa_nil) (nomark _))) (fun _ _ _ _ _ => pv 11))
    (pss_cons (ps_if (pw_and (pt_cmpR op_lt (pv 3) pe_int (nomark _)) (pw_and1 (pt_cmpR (op_neD hr.units) (pv 6) (pe_lst pa_nil) (nomark _)))).pt
        (pss_cons (ps_asg (pe_ix ix_list (pv 6) (pe_call G1 hr (by rfl) k1.m k1.k k1.b .nil pass0 (pa_cons (pv 0) (pa_cons (pe_callB (r := rLenS K) call_len_seq (by rfl) ml PySem.boot_len (pa_cons (pv 6) pa_nil)) pa_nil))) (fun _ _ => rfl)) (pg_tup rfl (pgs_cons (pg_name (i := 7) scDeed.nd rfl (.inl rfl)) (pgs_cons (pg_name (i := 8) scDeed.nd rfl (.inl rfl)) pgs_nil))))
          (pss_one (ps_ret (pe_tup (pa_cons pe_str (pa_cons (pv 7) (pa_cons (pv 8) pa_nil))))))) pss_nil)
    (pss_cons (ps_if (pt_cmpR op_lt (pv 3) pe_int (nomark _))
        (pss_cons (ps_setLc (i := 9) (own := [("house", 12)]) (g := gName 12) rfl scDeed.nd rfl rfl (sw_true rfl rfl rfl (by decide +kernel)) (pi_range1 (by rfl) mr (pa_cons (pe_ix ix_list (pv 1) pe_int (fun _ _ => rfl)) pa_nil)) (blkOk_by (N := nDeed) (sc := defScope sDeed) (by decide +kernel)) (fun _ _ _ _ _ => pg_name (i := 12) scDeed.nd rfl (.inl rfl))
            (fun _ _ _ _ _ => pts_one (pt_cmpR (r := rNeD K) (op_neD hr.units) (pe_call G3 hr (by rfl) k3.m k3.k k3.b .nil pass0 (pa_cons (pv 1) (pa_cons (pv 2) (pa_cons (pv 12) pa_nil)))) (pe_lst pa_nil) (nomark _))) (fun _ _ _ _ _ => pv 12))
          (pss_one (ps_ret (pe_tup (pa_cons pe_str (pa_cons (pe_ifExp (pw_and (pt_cmpR (op_neD hr.units) (pv 9) (pe_lst pa_nil) (nomark _)) (pw_and1 (pt_cmpR op_ne (pv 3) pe_int (nomark _)))).pt
            (pe_ix ix_list (pv 9) (pe_op op_mod (pe_callTy call_int1 (by rfl) mi (by decide +kernel) (pa_cons (pv 4) pa_nil)) (pe_callB (r := rLenS K) call_len_seq (by rfl) ml PySem.boot_len (pa_cons (pv 9) pa_nil))) (fun _ _ => rfl)) (pv 4)) pa_nil)))))) pss_nil)
    (pss_cons (ps_if (pt_cmpR op_lt (pv 3) pe_int (nomark _)) (pss_one (ps_ret (pe_tup (pa_cons pe_str (pa_cons (pv 4) (pa_cons (pv 5) pa_nil)))))) pss_nil)
    (pss_cons (ps_set (i := 10) scDeed.nd rfl (.inl rfl) (pe_ix ix_list (pe_lst (pa_cons (pe_ix ix_list (pv 1) pe_int (fun _ _ => rfl)) (pa_cons (pe_un un_neg pe_int) (pa_cons pe_bl (pa_cons pe_non (pa_cons pe_str (pa_cons pe_bl (pa_cons (pe_tup (pa_cons pe_int pa_nil)) (pa_cons (pe_op op_pow pe_int pe_int) pa_nil)))))))))
        (pe_call G1 hr (by rfl) k1.m k1.k k1.b .nil pass0 (pa_cons (pv 0) (pa_cons pe_int pa_nil))) (fun _ _ => rfl)))
    (pss_one (ps_ret (pe_ix ix_list (pe_lst (pa_cons (pe_tup (pa_cons pe_str (pa_cons (pv 10) pa_nil))) (pa_cons (pe_tup (pa_cons pe_str (pa_cons (pv 10) (pa_cons (pv 5) pa_nil)))) (pa_cons (pe_tup (pa_cons pe_str (pa_cons (pv 4) (pa_cons (pv 10) pa_nil)))) (pa_cons (pe_tup (pa_cons pe_str (pa_cons (pv 10) (pa_cons (pe_un un_neg pe_int) pa_nil)))) pa_nil)))))
        (pe_call G1 hr (by rfl) k1.m k1.k k1.b .nil pass0 (pa_cons (pv 0) (pa_cons pe_int pa_nil))) (fun _ _ => rfl)))))))))), ?_⟩
  · obtain ⟨F, p, a, q, w, ad, s, m, rfl, _⟩ := h
    rfl
  · obtain ⟨F, p, a, q, w, ad, s, m, rfl, hB, hm, bx, hw, hS, hL, W, r, hQ⟩ := h
    have n16 := W.ok.most
    have n1 := W.ok.pos
    have one : ∀ b, One p b → F b := fun b e => by rw [show b = p from e]; exact bx.f
    have nin : ∀ b, In w false ad b → ¬ One p b := fun b i e => bx.n b i e
    have ap : ∀ (l : Addr) (H1 : Hp) (k : Nat), Bx H1 p k → Fr (One p) H0 H1 → H1 l = none → ¬ F l := fun l H1 k hB1 fr nl z => hL.new (fr_none_p fr hB1 nl) z
    have nlen : ∀ {σ' : L2.St} {H1 : Hp}, Fr (One p) H0 H1 → σ'[1]? = some (some (.ref a)) → Ev (tOp (rIxL K) (tVar 1) (tC (.int 0))) σ' H1 (.int (w.n : Int)) := fun {σ' H1} fr s1 => by
      obtain ⟨rr, hh, cc, ts, wa, _⟩ := (hw.mono (fr.up one).hid).mono hidF_le
      exact ev_op (ev_var s1) ev_c (rv_ixL (v := natV w.n) (sq_of wa) rfl)
    refine q_par3 ?_
    refine a_draw (i := 0) rfl ev_c hB (by omega) (by decide) (by decide) fun kd H1 hk fr1 hB1 => ?_
    refine a_draw (i := 0) rfl (nlen fr1 rfl) hB1 (by omega) (by omega) (by omega) fun o1 H2 ho1 fr2 hB2 => ?_
    have fr02 := fr1.trans fr2
    refine a_draw (i := 0) rfl (nlen fr02 rfl) hB2 (by omega) (by omega) (by omega) fun o2 H3 ho2 fr3 hB3 => ?_
    have fr03 := fr02.trans fr3
    clear fr1 fr2 fr3 fr02 hB1 hB2
    refine ⟨_, _, _, rfl, ?_⟩
    have hw3 : WorldAt H3 a w := (hw.mono (fr03.up one).hid).mono hidF_le
    have hS3 : StAt F H3 q w ad s := hS.fr fr03 one nin
    have hL3 : Live F H3 := fun b z => by
      by_cases c : b = p
      · rw [c]; exact hB3.some
      · obtain ⟨o, ho⟩ := hL b z
        exact ⟨o, fr03 _ _ c ho⟩
    -- what is handed out, from a state behind
    have out : ∀ (t : Addr) (dx : Dx) (H' : Hp) (j : Nat), j ≤ 10 → Fr (One p) H3 H' → Bx H' p (m + j) → H3 t = none → DxAt (hidF F H') t dx → DxF dx → Q (.ref t) H' := fun t dx H' j hj fr hB' nt hd hf => hQ t dx H' (fr03.trans fr) (hB'.up (by omega)) (fun b z => by
      by_cases c : b = p
      · rw [c]; exact hB'.some
      · obtain ⟨o, ho⟩ := hL3 b z
        exact ⟨o, fr _ _ c ho⟩) (fr_none_p fr03 hB3 nt) hd hf
    have sm : ∀ k : Nat, k < w.n → Sml 1 46 (.int (k : Int)) := fun k hk => (sml_nat (x := k) (by omega)).up (by omega) (by omega)
    -- the ways along which writes are under way
    refine q_asgQ (fun v H4 => ∃ l us, v = .ref l ∧ H3 l = none ∧ Ex H3 H4 ∧ H4 l = some (.lst us) ∧ Tps H4 (hotL w s) us) (fun Q' q' => lc_hot (iw := 1) (iq := 2) (j := 11) (vs := [11]) hw3 W hS3 rfl (fun _ => ⟨rfl, rfl⟩) (fun _ => rfl) fun l us H4 nl e4 hl tp => q' _ _ ⟨l, us, rfl, nl, e4, hl, tp⟩) fun v H4 hv => ?_
    obtain ⟨l, us, rfl, nl, e4, hl, tp⟩ := hv
    have lus := tp.len
    have lhot : (hotL w s).length ≤ 300 := Nat.le_trans (List.length_filter_le _ _) (ways_few W)
    obtain ⟨op, hop⟩ := hB3.some
    have lp : l ≠ p := (ne_of_none hop nl).symm
    refine q_when (et_and (et_test (ev_op (ev_var rfl) ev_c rv_I0)) fun _ => et_neNil (ds := (hotL w s).map prD) (ev_var rfl) (sq_of hl) (dp_tps tp) sh_prs) (fun hb H5 e5 => ?_) fun hb H5 e5 => ?_
    · -- a hand that can be done
      have pos : 0 < us.length := by
        rw [Bool.and_eq_true] at hb
        have hb2 := hb.2
        rw [List.isEmpty_map] at hb2
        rw [lus]
        cases z : hotL w s with
        | nil => rw [z] at hb2; cases hb2
        | cons _ _ => simp
      have e45 := e4.trans e5
      refine ix_draw (i := 0) (us := us) (ev_var rfl) rfl (ev_len (ev_var rfl) (sq_of (e5 _ _ hl))) (e5 _ _ hl) lp rfl pos (by omega) (hB3.mono e45) (by omega) fun j v H6 hj fr6 hB6 => ?_
      obtain ⟨pr, hpr, t, rfl, ht⟩ := tp.of hj
      have tnp : t ≠ p := fun z => by
        obtain ⟨g, mm, c, b, hp', _⟩ := hB3.mono e4
        rw [z, hp'] at ht
        cases ht
      obtain ⟨nb, _⟩ := (mem_hot W).mp (List.mem_of_getElem? hpr)
      have hv : pr.2 < w.n := Km.nb_r W.ok nb
      have hu : pr.1 < w.n := Km.nb_r W.ok (u := pr.2) (nb.elim .inr .inl)
      refine ⟨t, _, rfl, st_of (fr6 _ _ tnp (e5 _ _ ht)), rfl, _, _, rfl, _, _, rfl, rfl, ?_⟩
      have fr36 : Fr (One p) H3 H6 := (Fr.of e45).trans fr6
      refine s_retU (eu_tup (ea_cons ev_c (ea_cons (ev_var rfl) (ea_cons (ev_var rfl) ea_nil))) (by show 3 ≤ 100000; decide)) fun t' H7 nt e7 ht' => ?_
      exact out t' (.hd (natD pr.1) (natD pr.2)) H7 4 (by omega) (fr36.trans (Fr.of e7)) (hB6.mono e7) (fr_none_p fr36 hB6 nt) ⟨_, _, by rw [hidF_eq (ap t' H6 _ hB6 (fr03.trans fr36) nt)]; exact ht', .int _, .int _⟩ ⟨sm _ hu, sm _ hv⟩
    have e45 := e4.trans e5
    clear hb
    refine q_when (et_test (ev_op (ev_var rfl) ev_c rv_I0)) (fun hb H6 e6 => ?_) fun hb H6 e6 => ?_
    · -- a make
      have e46 := e45.trans e6
      refine q_asgL (el_able (iw := 1) (iq := 2) (j := 12) (vs := [12]) (hw3.mono e46) W (hS3.mono e46) rfl (fun _ => ⟨rfl, rfl, rfl⟩) (fun _ => rfl)) fun l2 H7 nl2 e7 hl2 => ?_
      have e47 := e46.trans e7
      have la : (ableL w s).length ≤ 16 := by
        have := List.length_filter_le (fun h => !(Km.left w s h).isEmpty) (List.range w.n)
        rw [List.length_range] at this
        unfold ableL
        omega
      have am : ∀ x ∈ ableL w s, x < w.n := fun x hx => List.mem_range.mp (List.mem_filter.mp hx).1
      have o1n : o1 < w.n := by omega
      -- the house
      obtain ⟨c, hc, hcn, eC⟩ : ∃ c : Nat, c < w.n ∧ (o1 < w.n) ∧ Ev (tIf (tAnd (tTest (tOp (rNeD K) (tVar 9) (tLst tNil))) (tTest (tOp rNe (tVar 3) (tC (.int 3))))) (tOp (rIxL K) (tVar 9) (tOp (rI (fun _ j => 0 < j) fun i j => .int (i % j)) (tCB (fun xs H Q => (∃ i, xs = [V.int i] ∧ Q (.int i) H) ∨ ∃ k, xs = [V.bl k] ∧ Q (.int (if k then 1 else 0)) H) (tCons (tVar 4) tNil)) (tCB (rLenS K) (tCons (tVar 9) tNil)))) (tVar 4))
          [some (.ref p), some (.ref a), some (.ref q), some (.int (kd : Int)), some (.int (o1 : Int)), some (.int (o2 : Int)), some (.ref l), none, none, some (.ref l2), none, none, none] H7 (.int (c : Int)) := by
        by_cases z : (!((ableL w s).map natD).isEmpty && !decide (V.int (kd : Int) = .int 3)) = true
        · have zn : ableL w s ≠ [] := fun e => by rw [e] at z; cases z
          have zp : 0 < (ableL w s).length := List.length_pos_iff.mpr zn
          have lt : o1 % (ableL w s).length < (ableL w s).length := Nat.mod_lt _ zp
          refine ⟨(ableL w s)[o1 % (ableL w s).length], am _ (List.getElem_mem lt), o1n, ev_if (et_and (et_neNil (ds := (ableL w s).map natD) (ev_var rfl) (sq_of hl2) (dpAll_nats _) sh_nats) fun _ => et_test (ev_op (ev_var rfl) ev_c (rv_ne rfl))) (fun _ => ?_) fun zz => by rw [z] at zz; cases zz⟩
          have e1 : ((o1 : Int) % (((ableL w s).map natV).length : Int)) = ((o1 % (ableL w s).length : Nat) : Int) := by rw [List.length_map]; omega
          refine ev_op (ev_var rfl) (ev_op (ev_cb (ea_cons (ev_var rfl) ea_nil) fun H1 _ Q q => .inl ⟨(o1 : Int), rfl, q H1 (Ex.refl H1)⟩) (ev_len (ev_var rfl) (sq_of hl2)) (rv_I (by rw [List.length_map]; omega))) (rv_ixL (sq_of hl2) (by
            rw [e1]
            exact atI_nat (by rw [List.getElem?_map, List.getElem?_eq_getElem lt]; rfl)))
        · exact ⟨o1, o1n, o1n, ev_if (et_and (et_neNil (ds := (ableL w s).map natD) (ev_var rfl) (sq_of hl2) (dpAll_nats _) sh_nats) fun _ => et_test (ev_op (ev_var rfl) ev_c (rv_ne rfl))) (fun zz => absurd zz z) fun _ => ev_var rfl⟩
      refine s_retU (eu_tup (ea_cons ev_c (ea_cons eC ea_nil)) (by show 2 ≤ 100000; decide)) fun t' H8 nt e8 ht' => ?_
      exact out t' (.mk (natD c)) H8 3 (by omega) (Fr.of (e47.trans e8)) (hB3.mono (e47.trans e8)) (fresh_back e47 nt) ⟨_, by rw [hidF_eq (ap t' H7 _ (hB3.mono e47) (fr03.trans (Fr.of e47)) nt)]; exact ht', .int _⟩ (sm c hc)
    have e46 := e45.trans e6
    clear hb
    refine q_when (et_test (ev_op (ev_var rfl) ev_c rv_I0)) (fun hb H7 e7 => ?_) fun hb H7 e7 => ?_
    · have e47 := e46.trans e7
      refine s_retU (eu_tup (ea_cons ev_c (ea_cons (ev_var rfl) (ea_cons (ev_var rfl) ea_nil))) (by show 3 ≤ 100000; decide)) fun t' H8 nt e8 ht' => ?_
      exact out t' (.hd (natD o1) (natD o2)) H8 3 (by omega) (Fr.of (e47.trans e8)) (hB3.mono (e47.trans e8)) (fresh_back e47 nt) ⟨_, _, by rw [hidF_eq (ap t' H7 _ (hB3.mono e47) (fr03.trans (Fr.of e47)) nt)]; exact ht', .int _, .int _⟩ ⟨sm _ (by omega), sm _ (by omega)⟩
    have e47 := e46.trans e7
    clear hb
    -- an odd value
    refine q_asgQ (fun v H8 => ∃ d, Fr (One p) H3 H8 ∧ Bx H8 p (m + 4) ∧ Dq (hidF F H8) v d ∧ Sml 1 46 d) (fun Q' q' => ?_) fun v H8 hv => ?_
    · refine menuP (n := 8) (m := m + 3) (i := 0) (eap_cons (nlen (fr03.trans (Fr.of e47)) rfl) (eap_cons (ev_un ev_c (ru_neg (i := 1))) (eap_cons ev_c (eap_cons ev_c (eap_cons ev_c (eap_cons ev_c (eap_tup (eu_tup (ea_cons ev_c ea_nil) (by show 1 ≤ 100000; decide)) (eap_cons (ev_op ev_c ev_c (rv_I ⟨by decide, by decide, by decide⟩)) eap_nil)))))))) (fun vs H2 pp => ?_) rfl (by decide) (by decide) rfl (hB3.mono e47) (by omega) fun j vs v H8 H9 pp e8 hj fr9 hB9 => ?_
      · obtain ⟨_, rfl, _, rfl, _, rfl, _, rfl, _, rfl, _, rfl, t, _, rfl, nt, ht, _, rfl, rfl⟩ := pp
        rfl
      · obtain ⟨_, rfl, _, rfl, _, rfl, _, rfl, _, rfl, _, rfl, t, _, rfl, nt, ht, _, rfl, rfl⟩ := pp
        have fr39 : Fr (One p) H3 H9 := (Fr.of (e47.trans e8)).trans fr9
        have lt : j < 8 := (List.getElem?_eq_some_iff.mp hj).1
        have tp' : t ≠ p := (ne_of_none (e47 _ _ hop) nt).symm
        have smb : ∀ {d : PyData}, Sml 0 40 d → Sml 1 46 d := fun h => h.up (by omega) (by omega)
        have s19 : Sml 0 40 (.int (10 ^ Int.toNat 19)) := ⟨by simp only [PyData.fine]; decide +kernel, by simp [PyData.depth], by simp [PyData.szD]⟩
        have sn1 : Sml 0 40 (.int (-1)) := ⟨by simp only [PyData.fine]; decide +kernel, by simp [PyData.depth], by simp [PyData.szD]⟩
        have s0' : Sml 0 40 (.str "0") := ⟨by simp only [PyData.fine]; decide +kernel, by simp [PyData.depth], by simp [PyData.szD]⟩
        have snn : Sml 0 40 .none := ⟨by simp [PyData.fine], by simp [PyData.depth], by simp [PyData.szD]⟩
        match j, lt with
        | 0, _ => cases hj; exact q' _ H9 ⟨natD w.n, fr39, hB9, .int _, smb (sml_nat (by omega))⟩
        | 1, _ => cases hj; exact q' _ H9 ⟨.int (-1), fr39, hB9, .int _, smb sn1⟩
        | 2, _ => cases hj; exact q' _ H9 ⟨.bool true, fr39, hB9, .bl _, smb sml_bool⟩
        | 3, _ => cases hj; exact q' _ H9 ⟨.none, fr39, hB9, .non, smb snn⟩
        | 4, _ => cases hj; exact q' _ H9 ⟨.str "0", fr39, hB9, .str _, smb s0'⟩
        | 5, _ => cases hj; exact q' _ H9 ⟨.bool false, fr39, hB9, .bl _, smb sml_bool⟩
        | 6, _ => cases hj; exact q' _ H9 ⟨.tuple [natD 0], fr39, hB9, .tup (by rw [hidF_eq (ap t H7 _ (hB3.mono e47) (fr03.trans (Fr.of e47)) nt)]; exact fr9 _ _ tp' ht) (.cons (.int _) .nil), (sml_nats (xs := [0]) (m := 1) (by simp) (by simp)).up (by omega) (by omega)⟩
        | 7, _ => cases hj; exact q' _ H9 ⟨.int (10 ^ Int.toNat 19), fr39, hB9, .int _, smb s19⟩
    · obtain ⟨d, fr8, hB8, hvd, sd⟩ := hv
      refine menuP (n := 4) (m := m + 4) (i := 0) (eap_tup (eu_tup (ea_cons ev_c (ea_cons (ev_var rfl) ea_nil)) (by show 2 ≤ 100000; decide)) (eap_tup (eu_tup (ea_cons ev_c (ea_cons (ev_var rfl) (ea_cons (ev_var rfl) ea_nil))) (by show 3 ≤ 100000; decide)) (eap_tup (eu_tup (ea_cons ev_c (ea_cons (ev_var rfl) (ea_cons (ev_var rfl) ea_nil))) (by show 3 ≤ 100000; decide)) (eap_tup (eu_tup (ea_cons ev_c (ea_cons (ev_var rfl) (ea_cons (ev_un ev_c (ru_neg (i := 1))) ea_nil))) (by show 3 ≤ 100000; decide)) eap_nil)))) (fun vs H2 pp => ?_) rfl (by decide) (by decide) rfl hB8 (by omega) fun j vs v' H9 H10 pp e9 hj fr10 hB10 => ?_
      · obtain ⟨t1, _, rfl, n1, h1, t2, _, rfl, n2, h2, t3, _, rfl, n3, h3, t4, _, rfl, n4, h4, rfl⟩ := pp
        rfl
      · obtain ⟨t1, _, rfl, n1, h1, t2, _, rfl, n2, h2, t3, _, rfl, n3, h3, t4, _, rfl, n4, h4, rfl⟩ := pp
        have fr310 : Fr (One p) H3 H10 := (fr8.trans (Fr.of e9)).trans fr10
        have lt : j < 4 := (List.getElem?_eq_some_iff.mp hj).1
        obtain ⟨op8, hop8⟩ := hB8.some
        have hd10 : Dq (hidF F H10) v d := Dq.mono ((((Fr.of e9).trans fr10).up one).hid) hvd
        have at' : ∀ {t : Addr} {o : HO}, H8 t = none → H9 t = some o → hidF F H10 t = some o ∧ H3 t = none := fun {t o} nt ht => by
          refine ⟨?_, fr_none_p fr8 hB8 nt⟩
          rw [hidF_eq (ap t H8 _ hB8 (fr03.trans fr8) nt)]
          exact fr10 _ _ (ne_of_none hop8 nt).symm ht
        have sm1 : Sml 1 46 (.int (-1)) := (show Sml 0 40 (.int (-1)) from ⟨by simp only [PyData.fine]; decide +kernel, by simp [PyData.depth], by simp [PyData.szD]⟩).up (by omega) (by omega)
        match j, lt with
        | 0, _ => cases hj; exact out t1 (.mk d) H10 5 (by omega) fr310 hB10 (at' n1 h1).2 ⟨_, (at' n1 h1).1, hd10⟩ sd
        | 1, _ => cases hj; exact out t2 (.hd d (natD o2)) H10 5 (by omega) fr310 hB10 (at' n2 h2).2 ⟨_, _, (at' n2 h2).1, hd10, .int _⟩ ⟨sd, sm _ (by omega)⟩
        | 2, _ => cases hj; exact out t3 (.hd (natD o1) d) H10 5 (by omega) fr310 hB10 (at' n3 h3).2 ⟨_, _, (at' n3 h3).1, .int _, hd10⟩ ⟨sm _ (by omega), sd⟩
        | 3, _ => cases hj; exact out t4 (.hd d (.int (-1))) H10 5 (by omega) fr310 hB10 (at' n4 h4).2 ⟨_, _, (at' n4 h4).1, hd10, .int _⟩ ⟨sd, sm1⟩
end
end Tr

set_option maxHeartbeats 4000000
/-! ### what is refused (law k04): _law_asked, _law_barred -/
namespace Tr
open PySem PySem.Spec PyProof.Rows L2 LK Evl
abbrev sAsked : Stmt := top 62
abbrev sBarred : Stmt := top 63
abbrev nAsked : List Str := ["running", "deed", "e"]
abbrev nBarred : List Str := ["running", "value", "turn", "e", "first"]
theorem scAsked : FnScope nAsked ["running", "deed"] (defScope sAsked) := ⟨rfl, rfl, rfl, by decide +kernel, rfl, by decide +kernel, by decide +kernel⟩
theorem scBarred : FnScope nBarred ["running", "value", "turn"] (defScope sBarred) := ⟨rfl, rfl, rfl, by decide +kernel, rfl, by decide +kernel, by decide +kernel⟩
theorem takesN {X : Cx} : L2N.Takes X (fun _ _ _ _ => False) := fun _ _ x => by
  obtain ⟨_, _, _, _, _, _, _, _, _, _, _, _, _, _, _, _, w⟩ := x
  exact w.elim
def askedOf (w : Km.W) (s : Km.S) (d e : PyData) : PyData :=
  if houseD w.n d = true then (if houseD w.n e = true then (if Km.nb w (natOf d) (natOf e) then .list [.str "ways", .tuple ((s.qu (natOf d) (natOf e)).map natD)] else .list [.str "no road", d, e]) else .list [.str "no house", e]) else .list [.str "no house", d]
def spAsked (K : PySem.W.Frag) (C CS CR : Addr) : Sp := fun vs H Q _ => ∃ (F : Addr → Prop) (x t : Addr) (w : Km.W) (ad : Slot → Addr) (s : Km.S) (v u : V) (d e : PyData), vs = [.ref x, .ref t] ∧ RunAt K C CS CR F H x w ad s ∧ Wd w ∧ H t = some (.tup [.str "ways", v, u]) ∧ Dq H v d ∧ Dq H u e ∧ ∀ r H2, Ex H H2 → Dq H2 (.ref r) (askedOf w s d e) → Q (.ref r) H2
def spBarred (K : PySem.W.Frag) (C CS CR : Addr) : Sp := fun vs H Q _ => ∃ (F : Addr → Prop) (x : Addr) (w : Km.W) (ad : Slot → Addr) (s : Km.S) (v : V) (d : PyData) (tn : Int), vs = [.ref x, v, .int tn] ∧ RunAt K C CS CR F H x w ad s ∧ Wd w ∧ Km.Run w s ∧ Dq H v d ∧ houseD w.n d = false ∧ Sml 2 60 d ∧ RetV (.bl true) H Q
section
variable {P : Program} {w : World} {K : PySem.W.Frag} {mg : Str → Option Value} {base : Heap} {C CS CR CI CN CM CW CL f fB fS fU : Addr} {fd dB dS dU : FuncData}
def asked2 (K : PySem.W.Frag) (CI CN : Addr) : List Cl :=
  [(.ref CI, fun a cls d => tRet (tLst (tCons (tC (.str "no house")) (tCons (tXf a cls d CI "given" (tVar 2)) tNil)))),
   (.ref CN, fun a cls d => tRet (tLst (tCons (tC (.str "no road")) (tCons (tXf a cls d CN "u" (tVar 2)) (tCons (tXf a cls d CN "v" (tVar 2)) tNil)))))]
theorem asked_I {D : Ends} {a1 a2 v : V} {H : Hp} (X4 : Ex4 K mg CI CM CN CW CL) (k : ∀ r H3, Ex H H3 → H r = none → H3 r = some (.lst [.str "no house", v]) → D.rt (.ref r) H3) : Out1 CI "given" v H (fun cls d H' => wAll K 2 D (asked2 K CI CN) cls d [some a1, some a2, none] H') := fun dx H2 e2 nd hd =>
  ⟨true, X4.II, fun _ a na => s_retL (el_lst (ea_cons ev_c (ea_cons (ev_xf (ev_var rfl) hd rfl) ea_nil)) (by show 2 ≤ 100000; decide)) fun r H3 nr e3 hr => k r H3 (e2.trans e3) (fresh_back e2 nr) hr, fun z => nomatch z⟩
theorem asked_N {D : Ends} {a1 a2 v u : V} {H : Hp} (X4 : Ex4 K mg CI CM CN CW CL) (k : ∀ r H3, Ex H H3 → H r = none → H3 r = some (.lst [.str "no road", v, u]) → D.rt (.ref r) H3) : Out2 CN "u" "v" v u H (fun cls d H' => wAll K 2 D (asked2 K CI CN) cls d [some a1, some a2, none] H') := fun dx H2 e2 nd hd =>
  ⟨false, X4.NI, (fun z => nomatch z), fun _ => ⟨true, X4.NN, fun _ a na => s_retL (el_lst (ea_cons ev_c (ea_cons (ev_xf (ev_var rfl) hd rfl) (ea_cons (ev_xf (ev_var rfl) hd rfl) ea_nil))) (by show 3 ≤ 100000; decide)) fun r H3 nr e3 hr => k r H3 (e2.trans e3) (fresh_back e2 nr) hr, fun z => nomatch z⟩⟩
theorem s_retM {σ : L2.St} {H : Hp} {te : TE} {c : V} {D : Ends} (k : ∀ Q : VK, (∀ v H2, (∀ p, H2 p = none → D.rt (.ref p) (upd H2 p (.lst [c, v]))) → Q v H2) → te σ H Q) : tRet (tLst (tCons (tC c) (tCons te tNil))) D σ H := k _ fun v H2 h => ⟨Nat.le_of_ble_eq_true rfl, h⟩
theorem ok_asked (F : FnP K "_law_asked" sAsked f fd) (R : RunCls K CR) (mU : Meth K CR "under_way" fU) (GU : FnOk P w K mg base (L2N.CX P w) 6 fU dU ["self", "u", "v"] (spUnder K C CS CR CI CN)) (bU : Binds K dU ["self", "u", "v"] []) (X4 : Ex4 K mg CI CM CN CW CL) : FnOk P w K mg base CX0 7 f fd ["running", "deed"] (spAsked K C CS CR) := by
  refine F.ok scAsked (fun vs H Q E h => ?_) fun cdv A outer s0 H0 vs Q E hr h => ⟨_, PSs.nox (pss_one (ps_try_all (i := 2) rfl rfl scAsked.nd rfl rfl (fun W pn xe tk _ =>
      pss_one (ps_ret (pe_lst (pa_cons pe_str (pa_cons (pe_methAt (pv 0) R.cl mU GU hr bU (fun σ => L2N.passAt tk σ) (pa_cons (pe_ix (r := rIxT K) ix_tup (pv 1) pe_int (fun _ _ => rfl)) (pa_cons (pe_ix (r := rIxT K) ix_tup (pv 1) pe_int (fun _ _ => rfl)) pa_nil))) pa_nil)))))
    (.cons (c := .ref CI) ⟨rfl, by decide, .inl X4.mI⟩ (fun a oe cls d pn hz hf => pss_one (ps_ret (pe_lst (pa_cons pe_str (pa_cons (pe_xf X4.xI X4.fI hz.zc hf (pv 2)) pa_nil)))))
    (.cons (c := .ref CN) ⟨rfl, by decide, .inl X4.mN⟩ (fun a oe cls d pn hz hf => pss_one (ps_ret (pe_lst (pa_cons pe_str (pa_cons (pe_xf X4.xN X4.fN hz.zc hf (pv 2)) (pa_cons (pe_xf X4.xN X4.gN hz.zc hf (pv 2)) pa_nil))))))
    .nil)))), ?_⟩
  · obtain ⟨F, x, t, w, ad, s, v, u, d, e, rfl, _⟩ := h
    rfl
  · obtain ⟨F, x, t, w, ad, s, v, u, d, e, rfl, hR, W, ht, hvd, hue, hQ⟩ := h
    obtain ⟨ds, hC, hD⟩ := id hR
    obtain ⟨⟨dx, st, ul, bl, dt, kvs, hS⟩, hF, _⟩ := id hC
    have x1 := hidF_le _ _ hS.hx
    have still : ∀ (ds : List PyData) (vs : List V) (p : Addr) (H2 : Hp), askedOf w s d e = .list ds → Ex H0 H2 → H2 p = some (.lst vs) → DqAll H2 vs ds → Q (.ref p) H2 := fun ds vs p H2 z e2 hp hd => hQ p H2 e2 (by rw [z]; exact .lst hp hd)
    have go : ∀ (E' : XK), (houseD w.n d = false → Out1 CI "given" v H0 E') → (houseD w.n d = true → houseD w.n e = false → Out1 CI "given" u H0 E') → (∀ a b : Nat, d = .int (a : Int) → e = .int (b : Int) → a < w.n → b < w.n → ¬ Km.nb w a b → Out2 CN "u" "v" v u H0 E') →
        ∀ Q' : VK, (∀ v H2, (∀ p, H2 p = none → Q (.ref p) (upd H2 p (.lst [.str "ways", v]))) → Q' v H2) → spUnder K C CS CR CI CN [.ref x, v, u] H0 Q' E' := fun E' o1 o2 oN Q' q' =>
      ⟨F, x, w, ad, ctOf w s ds, v, u, d, e, rfl, hC, W, hvd, hue, o1, o2, fun a b ea eb la lb => ⟨fun nb t' H2 e2 ht' => q' _ H2 fun p np => by
        subst ea eb
        have hn : ∀ h : Nat, natOf (.int (h : Int)) = h := fun h => by simp [natOf]
        refine still [.str "ways", .tuple ((s.qu a b).map natD)] _ p _ (by unfold askedOf; rw [if_pos (house_in la), if_pos (house_in lb), hn, hn, if_pos nb]) (e2.trans (Ex.new np)) upd_same (.cons (.str _) (.cons (.tup (Ex.new np _ _ ht') (dqN _)) .nil)), fun n => oN a b ea eb la lb n⟩⟩
    refine s_retM fun Q' q' => ⟨_, rfl, x, dx, _, rfl, x1, rfl, _, rfl, t, _, 1, v, rfl, rfl, st_of ht, rfl, _, rfl, t, _, 2, u, rfl, rfl, st_of ht, rfl, ?_⟩
    refine go _ (fun c => ?_) (fun c c2 => ?_) (fun a b ea eb la lb n => ?_) Q' q'
    · exact asked_I X4 fun r H3 e3 nr hr => still _ _ r H3 (by unfold askedOf; rw [c]; rfl) e3 hr (.cons (.str _) (.cons (Dq.mono e3 hvd) .nil))
    · exact asked_I X4 fun r H3 e3 nr hr => still _ _ r H3 (by unfold askedOf; rw [c, c2]; rfl) e3 hr (.cons (.str _) (.cons (Dq.mono e3 hue) .nil))
    · have hn : ∀ h : Nat, natOf (.int (h : Int)) = h := fun h => by simp [natOf]
      exact asked_N X4 fun r H3 e3 nr hr => still _ _ r H3 (by unfold askedOf; rw [ea, eb, if_pos (house_in la), if_pos (house_in lb), hn, hn, if_neg n]) e3 hr (.cons (.str _) (.cons (by rw [← ea]; exact Dq.mono e3 hvd) (.cons (by rw [← eb]; exact Dq.mono e3 hue) .nil)))
theorem ok_barred (F : FnP K "_law_barred" sBarred f fd) (sm : ∃ o, K.lookup sysModules = some o) (R : RunCls K CR) (X4 : Ex4 K mg CI CM CN CW CL)
    (mB : Meth K CR "book" fB) (GB : FnOk P w K mg base (L2N.CX P w) 5 fB dB ["self", "house"] (spBook K C CS CR CI)) (bB : Binds K dB ["self", "house"] []) (kB : KBn K dB ["self", "house"] 1 ["house"] (fun us ws => us ++ ws) (fun vs zs => vs ++ zs))
    (mS : Meth K CR "shows" fS) (GS : FnOk P w K mg base (L2N.CX P w) 5 fS dS ["self", "house"] (spShows K C CS CR CI)) (bS : Binds K dS ["self", "house"] []) (mp : mg "repr" = none) : FnG P w K mg base 6 f fd ["running", "value", "turn"] (spBarred K C CS CR) := by
  refine fnG (k := 5) (funOf F) scBarred (fun vs H Q E h => ?_) fun cdv A outer s0 H0 vs Q hr hg h => ⟨_,
    pss_cut (L2N.ps_try_as (i := 3) (c := .ref CI) (Wout := fun _ _ _ _ => False) rfl rfl scBarred.nd rfl rfl ⟨rfl, by decide, .inl X4.mI⟩ takesN
      (fun W pn xe tk _ => pss_cons (ps_if (pt_cmpR op_eq (pv 2) pe_int (nomark _)) (pss_one (ps_expr (pe_methAt (pv 0) R.cl mB GB hr bB (fun σ => L2N.passAt tk σ) (pa_cons (pv 1) pa_nil)))) (pss_one (ps_expr (pe_methK (pv 0) R.cl mB GB hr kB (fun σ => L2N.passAt tk σ) (pk_cons (pv 1) pk_nil))))) (pss_one (ps_ret pe_bl)))
      (fun a oe cls d pn hz hf => pss_one (ps_set (i := 4) scBarred.nd rfl (.inl rfl) (pe_xf X4.xI X4.fI hz.zc hf (pv 3)))))
    (pss_one (L2N.ps_try_as (i := 3) (c := .ref CI) (Wout := fun _ _ _ _ => False) rfl rfl scBarred.nd rfl rfl ⟨rfl, by decide, .inl X4.mI⟩ takesN
      (fun W pn xe tk _ => pss_cons (ps_expr (pe_methAt (pv 0) R.cl mS GS hr bS (fun σ => L2N.passAt tk σ) (pa_cons (pv 1) pa_nil))) (pss_one (ps_ret pe_bl)))
      (fun a oe cls d pn hz hf => pss_one (ps_ret (pe_cmpR op_eq (p_repr sm hr.units hg mp (pe_lst (pa_cons (pv 4) (pa_cons (pe_xf X4.xI X4.fI hz.zc hf (pv 3)) pa_nil)))) (p_repr sm hr.units hg mp (pe_lst (pa_cons (pv 1) (pa_cons (pv 1) pa_nil)))) (nomark _)))))), ?_⟩
  · obtain ⟨F, x, w, ad, s, v, d, tn, rfl, _⟩ := h
    rfl
  · obtain ⟨F, x, w, ad, s, v, d, tn, rfl, hR, W, r, hvd, hn, hs, hQ⟩ := h
    have I := r.inv W.ok
    obtain ⟨ds, hC, hD⟩ := id hR
    obtain ⟨⟨dx, st, ul, bl, dt, kvs, hS⟩, hF, _⟩ := id hC
    have x1 := hidF_le _ _ hS.hx
    have ok2 : PyData.okD (.list [d, d]) = true := (sml_lst (k := 2) (n := 60) (m := 2) (fun d' hd => by
      rcases List.mem_cons.mp hd with rfl | hd
      · exact hs
      · rw [List.mem_singleton] at hd
        subst hd
        exact hs) (by simp)).ok (by decide) (by decide)
    have nohouse : ∀ h : Nat, d = .int (h : Int) → h < w.n → False := fun h e hh => by
      rw [e, house_in hh] at hn
      cases hn
    refine q_cut (M := fun (σ' : L2.St) (H' : Hp) => σ' = [some (.ref x), some v, some (.int tn), none, some v] ∧ Ex H0 H') ?_ fun σ' H' hM => ?_
    · have out : ∀ (H1 : Hp) (D : Ends), Ex H0 H1 → (∀ H', Ex H0 H' → D.nx [some (.ref x), some v, some (.int tn), none, some v] H') → Out1 CI "given" v H1 (fun cls d H' => wAs K (.ref CI) 3 (fun a cls d => tAsg (tXf a cls d CI "given" (tVar 3)) (gName 4)) (fun _ _ _ _ => False) D cls d [some (.ref x), some v, some (.int tn), none, none] H') := fun H1 D e1 k dx H2 e2 nd hd =>
        ⟨true, X4.II, fun _ a na => s_asg (ev_xf (ev_var rfl) hd rfl) fun H3 e3 => k H3 ((e1.trans e2).trans e3), fun z => nomatch z⟩
      refine q_if (et_test (ev_op (ev_var rfl) ev_c (rv_eq rfl))) (fun _ H1 e1 => ?_) fun _ H1 e1 => ?_
      · exact ⟨_, rfl, x, dx, _, rfl, e1 _ _ x1, rfl, _, rfl, F, x, w, ad, ctOf w s ds, v, d, rfl, hC.mono e1, Dq.mono e1 hvd, fun _ => out H1 _ e1 fun H' e' => ⟨rfl, e'⟩, fun h e hh => (nohouse h e hh).elim⟩
      · exact ⟨_, rfl, x, dx, _, rfl, e1 _ _ x1, rfl, _, rfl, rfl, F, x, w, ad, ctOf w s ds, v, d, rfl, hC.mono e1, Dq.mono e1 hvd, fun _ => out H1 _ e1 fun H' e' => ⟨rfl, e'⟩, fun h e hh => (nohouse h e hh).elim⟩
    · obtain ⟨rfl, e1⟩ := hM
      refine ⟨_, rfl, x, dx, _, rfl, e1 _ _ x1, rfl, _, rfl, F, x, w, ad, ctOf w s ds, s.bk, v, d, rfl, hC.mono e1, Dq.mono e1 hvd, fun _ => rfl, fun h b m => by rw [W.ok.cl]; exact (I.b1 h b m).1, W.ok.c6, fun _ dx2 H2 e2 nd hd => ?_, fun h e hh => (nohouse h e hh).elim⟩
      refine ⟨true, X4.II, fun _ a na => ?_, fun z => nomatch z⟩
      have e02 := e1.trans e2
      exact s_ret (v := .bl true) (ev_is (ev_op (ev_reprT (et_lst (ets_cons (et_v (ev_var rfl) (Dq.mono e02 hvd)) (ets_cons (et_v (ev_xf (ev_var rfl) hd rfl) (Dq.mono e02 hvd)) ets_nil)) (by show 2 ≤ 100000; decide)) ok2) (ev_reprT (et_lst (ets_cons (et_v (ev_var rfl) (Dq.mono e02 hvd)) (ets_cons (et_v (ev_var rfl) (Dq.mono e02 hvd)) ets_nil)) (by show 2 ≤ 100000; decide)) ok2) (rv_eq rfl)) (by simp)) fun H3 e3 => hQ H3 (e02.trans e3)
end
end Tr

set_option maxHeartbeats 4000000
/-! ### what is refused at the doors (law k04): _law_doors -/
namespace Tr
open PySem PySem.Spec PyProof.Rows L2 LK Evl
abbrev sDoors : Stmt := top 64
abbrev nDoors : List Str := ["world", "running", "turn", "value", "deed", "u", "v", "told"]
theorem scDoors : FnScope nDoors ["world", "running", "turn"] (defScope sDoors) := ⟨rfl, rfl, rfl, by decide +kernel, rfl, by decide +kernel, by decide +kernel⟩
def spDoors (K : PySem.W.Frag) (C CS CR : Addr) : Sp := fun vs H Q _ => ∃ (F : Addr → Prop) (a x : Addr) (w : Km.W) (ad : Slot → Addr) (s : Km.S) (tn : Int), vs = [.ref a, .ref x, .int tn] ∧ WorldAt H a w ∧ RunAt K C CS CR F H x w ad s ∧ Wd w ∧ Km.Run w s ∧ RetV (.bl true) H Q
/-- the odd values -/
def odds (n : Nat) : List PyData := [.int (-1), natD n, .bool true, .bool false, .none, .str "0", .list [natD 0], .tuple [natD 0], .int (10 ^ Int.toNat 19)]
theorem odds_no {n : Nat} (h : n ≤ 16) : ∀ d ∈ odds n, houseD n d = false ∧ Sml 2 60 d := fun d hd => by
  have up : ∀ {d : PyData}, Sml 0 40 d → Sml 2 60 d := fun h => h.up (by omega) (by omega)
  have z0 : Sml 1 46 (.tuple [natD 0]) := (sml_nats (xs := [0]) (m := 1) (by simp) (by simp)).up (by omega) (by omega)
  have z1 : Sml 1 46 (.list [natD 0]) := (sml_lst (k := 0) (n := 40) (m := 1) (ds := [natD 0]) (fun d hd => by rw [List.mem_singleton] at hd; subst hd; exact sml_nat (by omega)) (by simp)).up (by omega) (by omega)
  simp only [odds, List.mem_cons, List.not_mem_nil, or_false] at hd
  rcases hd with rfl | rfl | rfl | rfl | rfl | rfl | rfl | rfl | rfl
  · exact ⟨by simp [houseD, btwD, wholeD], up ⟨by simp only [PyData.fine]; decide +kernel, by simp [PyData.depth], by simp [PyData.szD]⟩⟩
  · exact ⟨by simp [houseD, btwD, wholeD, natD]; omega, up (sml_nat (by omega))⟩
  · exact ⟨by simp [houseD, btwD, wholeD], up sml_bool⟩
  · exact ⟨by simp [houseD, btwD, wholeD], up sml_bool⟩
  · exact ⟨by simp [houseD, btwD, wholeD], up ⟨by simp [PyData.fine], by simp [PyData.depth], by simp [PyData.szD]⟩⟩
  · exact ⟨by simp [houseD, btwD, wholeD], up ⟨by simp only [PyData.fine]; decide +kernel, by simp [PyData.depth], by simp [PyData.szD]⟩⟩
  · exact ⟨by simp [houseD, btwD, wholeD], z1.up (by omega) (by omega)⟩
  · exact ⟨by simp [houseD, btwD, wholeD], z0.up (by omega) (by omega)⟩
  · refine ⟨?_, up ⟨by simp only [PyData.fine]; decide +kernel, by simp [PyData.depth], by simp [PyData.szD]⟩⟩
    have : ¬ ((10 : Int) ^ Int.toNat 19 ≤ (n : Int) - 1) := by
      have e : (10 : Int) ^ Int.toNat 19 = 10000000000000000000 := by decide +kernel
      omega
    simp [houseD, btwD, wholeD]
    omega
theorem dqAll_get {H : Hp} : ∀ {vs : List V} {ds : List PyData} {i : Nat} {v : V}, DqAll H vs ds → vs[i]? = some v → ∃ d, ds[i]? = some d ∧ Dq H v d
  | _, _, i, v, .nil, e => by cases e
  | _, _, 0, v, .cons h _, e => by cases e; exact ⟨_, rfl, h⟩
  | _, _, i + 1, v, .cons _ t, e => by
    obtain ⟨d, h1, h2⟩ := dqAll_get (i := i) t (by simpa using e)
    exact ⟨d, by simpa using h1, h2⟩
section
variable {K : PySem.W.Frag} {σ : L2.St} {H : Hp} {ta tb te : TE} {tr : TA}
theorem dqAll_len {H : Hp} : ∀ {vs : List V} {ds : List PyData}, DqAll H vs ds → vs.length = ds.length
  | _, _, .nil => rfl
  | _, _, .cons _ t => by rw [List.length_cons, List.length_cons, dqAll_len t]
theorem et_tupT {ds : List PyData} (h : EvTs tr σ H ds) (hl : ds.length ≤ 100000) : EvT2 (tTup tr) σ H (.tuple ds) := fun H1 e Q q =>
  h H1 e _ fun vs H2 e2 hd => ⟨sz_of (by rw [dqAll_len hd]; exact hl), fun p np => q _ _ (e2.trans (Ex.new np)) (.tup upd_same (DqAll.mono (Ex.new np) hd))⟩
theorem useS {tl : TE} {g : TG} {tu : TS} {D : Ends} (PP : V → Hp → Prop) (h : ∀ Q : VK, (∀ v H2, PP v H2 → Q v H2) → tl σ H Q) (k : ∀ v H2, PP v H2 → tFor (iList K (tC v)) g tu D σ H2) : tFor (iList K tl) g tu D σ H := h _ k
theorem evp_callP {sp : Sp} {PA : List V → Hp → Prop} {PP : V → Hp → Prop} (h : EvAP tr σ H PA) (hs : ∀ vs H1, Ex H H1 → PA vs H1 → ∀ Q : VK, (∀ v H2, Ex H1 H2 → PP v H2 → Q v H2) → sp (vs ++ []) H1 Q E0) : EvP (tCall sp [] E0 tr) σ H PP := fun H1 e Q q =>
  h H1 e _ fun vs H2 e2 hp => hs vs H2 (e.trans e2) hp Q fun v H3 e3 pp => q v H3 (e2.trans e3) pp
theorem eap_ev {vs : List V} (h : EvA tr σ H vs) : EvAP tr σ H fun us _ => us = vs := fun H1 e Q q => h H1 e _ fun H2 e2 => q _ H2 e2 rfl
end
section
variable {P : Program} {w : World} {K : PySem.W.Frag} {mg : Str → Option Value} {base : Heap} {C CS CR f f1 f2 f3 : Addr} {fd d1 d2 d3 : FuncData}
theorem ok_doors (F : FnP K "_law_doors" sDoors f fd) (sm : ∃ o, K.lookup sysModules = some o) (G1 : FnG P w K mg base 6 f1 d1 ["running", "value", "turn"] (spBarred K C CS CR)) (k1 : Kd K mg "_law_barred" ["running", "value", "turn"] f1 d1)
    (G2 : FnOk P w K mg base CX0 7 f2 d2 ["running", "deed"] (spAsked K C CS CR)) (k2 : Kd K mg "_law_asked" ["running", "deed"] f2 d2) (G3 : FnOk P w K mg base CX0 1 f3 d3 ["world", "house"] (spNearW K)) (k3 : Kd K mg "_law_near" ["world", "house"] f3 d3)
    (mr : mg "range" = none) (mp : mg "repr" = none) : FnG P w K mg base 8 f fd ["world", "running", "turn"] (spDoors K C CS CR) := by
  refine fnG (k := 7) (funOf F) scDoors (fun vs H Q E h => ?_) fun cdv A outer s0 H0 vs Q hr hg h => ⟨_,
    pss_cons (ps_for PassesOwn.never rfl (pi_list (pe_lst (pa_cons (pe_un un_neg pe_int) (pa_cons (pe_ix ix_list (pv 0) pe_int (fun _ _ => rfl)) (pa_cons pe_bl (pa_cons pe_bl (pa_cons pe_non (pa_cons pe_str (pa_cons (pe_lst (pa_cons pe_int pa_nil)) (pa_cons (pe_tup (pa_cons pe_int pa_nil)) (pa_cons (pe_op op_pow pe_int pe_int) pa_nil))))))))))) (pg_name (i := 3) scDoors.nd rfl (.inl rfl))
      (pss_cons (ps_if (pt_not (pt_val (pe_callG G1 (hr.mono (by decide)) hg k1.m k1.k k1.b (pa_cons (pv 1) (pa_cons (pv 3) (pa_cons (pv 2) pa_nil)))))) (pss_one (ps_ret pe_bl)) pss_nil)
      (pss_one (ps_for PassesOwn.never rfl (pi_list (pe_lst (pa_cons (pe_tup (pa_cons pe_str (pa_cons (pv 3) (pa_cons pe_int pa_nil)))) (pa_cons (pe_tup (pa_cons pe_str (pa_cons pe_int (pa_cons (pv 3) pa_nil)))) pa_nil)))) (pg_name (i := 4) scDoors.nd rfl (.inl rfl))
        (pss_one (ps_if (pt_cmpR op_ne (p_repr sm hr.units hg mp (pe_call G2 hr (by rfl) k2.m k2.k k2.b .nil pass0 (pa_cons (pv 1) (pa_cons (pv 4) pa_nil)))) (p_repr sm hr.units hg mp (pe_lst (pa_cons pe_str (pa_cons (pv 3) pa_nil)))) (nomark _)) (pss_one (ps_ret pe_bl)) pss_nil))))))
    (pss_cons (ps_for PassesOwn.never rfl (pi_range1 (by rfl) mr (pa_cons (pe_ix ix_list (pv 0) pe_int (fun _ _ => rfl)) pa_nil)) (pg_name (i := 5) scDoors.nd rfl (.inl rfl))
      (pss_one (ps_for PassesOwn.never rfl (pi_range1 (by rfl) mr (pa_cons (pe_ix ix_list (pv 0) pe_int (fun _ _ => rfl)) pa_nil)) (pg_name (i := 6) scDoors.nd rfl (.inl rfl))
        (pss_cons (ps_set (i := 7) scDoors.nd rfl (.inl rfl) (pe_call G2 hr (by rfl) k2.m k2.k k2.b .nil pass0 (pa_cons (pv 1) (pa_cons (pe_tup (pa_cons pe_str (pa_cons (pv 5) (pa_cons (pv 6) pa_nil)))) pa_nil))))
        (pss_one (ps_if (pw_or (pt_cmpR op_ne (pe_cmpR op_eq (pe_ix ix_list (pv 7) pe_int (fun _ _ => rfl)) pe_str (nomark _)) (pe_cmpR (r := rIn K false) op_in_seq (pv 6) (pe_call G3 (hr.mono (by decide)) (by rfl) k3.m k3.k k3.b .nil pass0 (pa_cons (pv 0) (pa_cons (pv 5) pa_nil))) (by rfl)) (nomark _))
            (pw_or1 (pw_and (pt_cmpR op_eq (pe_ix ix_list (pv 7) pe_int (fun _ _ => rfl)) pe_str (nomark _)) (pw_and1 (pt_cmpR (op_neD hr.units) (pe_slice sl_list (pv 7) (po_some pe_int) po_none) (pe_lst (pa_cons (pv 5) (pa_cons (pv 6) pa_nil))) (nomark _)))).pt)).pt (pss_one (ps_ret pe_bl)) pss_nil))))))
    (pss_one (ps_ret pe_bl))), ?_⟩
  · obtain ⟨F, a, x, w, ad, s, tn, rfl, _⟩ := h
    rfl
  · obtain ⟨F, a, x, w, ad, s, tn, rfl, hw, hR, W, r, hQ⟩ := h
    obtain ⟨rr, hh, cc, ts, wa, w2, w3, w4, w5⟩ := id hw
    have n16 := W.ok.most
    have n1 := W.ok.pos
    have nl : ∀ {σ' : L2.St} {H1 : Hp}, Ex H0 H1 → σ'[0]? = some (some (.ref a)) → Ev (tOp (rIxL K) (tVar 0) (tC (.int 0))) σ' H1 (.int (w.n : Int)) := fun {σ' H1} e s1 => ev_op (ev_var s1) ev_c (rv_ixL (v := natV w.n) (sq_of (e _ _ wa)) rfl)
    have hn : ∀ h : Nat, natOf (.int (h : Int)) = h := fun h => by simp [natOf]
    refine q_forQ (fun v H2 => Ex H0 H2 ∧ Dq H2 v (.list (odds w.n))) (fun Q' q' => (et_lst (ets_cons (et_v (ev_un ev_c (ru_neg (i := 1))) (.int _)) (ets_cons (et_v (nl (Ex.refl _) rfl) (.int _)) (ets_cons (et_v ev_c (.bl _)) (ets_cons (et_v ev_c (.bl _)) (ets_cons (et_v ev_c .non) (ets_cons (et_v ev_c (.str _)) (ets_cons (et_lst (ets_cons (et_v ev_c (.int _)) ets_nil) (by show 1 ≤ 100000; decide)) (ets_cons (et_tupT (ets_cons (et_v ev_c (.int _)) ets_nil) (by show 1 ≤ 100000; decide)) (ets_cons (et_v (ev_op ev_c ev_c (rv_I ⟨by decide, by decide, by decide⟩)) (.int _)) ets_nil))))))))) (by show 9 ≤ 100000; decide)) H0 (Ex.refl _) Q' fun v H2 e h => q' v H2 ⟨e, h⟩) fun v H2 hv => ?_
    obtain ⟨e2, hv⟩ := hv
    cases hv with
    | lst hl hd =>
      rename_i l us
      refine q_forLn (xs := us) ev_c (sq_of hl) (fun _ (σ' : L2.St) (H' : Hp) => (∃ y3 y4, σ' = [some (.ref a), some (.ref x), some (.int tn), y3, y4, none, none, none]) ∧ Ex H2 H') (fun H3 e3 => ⟨⟨_, _, rfl⟩, e3⟩) (fun i σ' H' _ q => sq_of (q.2 _ _ hl)) (fun i y σ' H' hy hp' => ?_) fun σ' H' hp' => ?_
      · obtain ⟨⟨y3, y4, rfl⟩, e3⟩ := hp'
        obtain ⟨d, hdi, hyd⟩ := dqAll_get hd hy
        obtain ⟨no, sd⟩ := odds_no n16 d (List.mem_of_getElem? hdi)
        have e03 := e2.trans e3
        have okE : PyData.okD (.list [.str "no house", d]) = true := (sml_lst (k := 2) (n := 60) (m := 2) (fun d' hd => by
          rcases List.mem_cons.mp hd with rfl | hd
          · exact (show Sml 0 40 (.str "no house") from ⟨by simp only [PyData.fine]; decide +kernel, by simp [PyData.depth], by simp [PyData.szD]⟩).up (by omega) (by omega)
          · rw [List.mem_singleton] at hd
            subst hd
            exact sd) (by simp)).ok (by decide) (by decide)
        refine q_when (b := false) (et_is (et_not (et_B (b := true) (ev_call' (ea_cons (ev_var rfl) (ea_cons (ev_var rfl) (ea_cons (ev_var rfl) ea_nil))) fun H4 e4 Q q => ⟨F, x, w, ad, s, y, d, tn, rfl, hR.mono (e03.trans e4), W, r, Dq.mono (e3.trans e4) hyd, no, sd, q⟩))) rfl) (fun hb => nomatch hb) fun _ H4 e4 => ?_
        have e24 := e3.trans e4
        have hyd4 : Dq H4 y d := Dq.mono e24 hyd
        have e04 := e2.trans e24
        refine useS (fun v H5 => Ex H4 H5 ∧ Dq H5 v (.list [.tuple [.str "ways", d, .int 99], .tuple [.str "ways", natD 0, d]])) (fun Q' q' => (et_lst (ets_cons (et_tupT (ets_cons (et_v ev_c (.str _)) (ets_cons (et_v (ev_var rfl) hyd4) (ets_cons (et_v ev_c (.int _)) ets_nil))) (by show 3 ≤ 100000; decide)) (ets_cons (et_tupT (ets_cons (et_v ev_c (.str _)) (ets_cons (et_v ev_c (.int _)) (ets_cons (et_v (ev_var rfl) hyd4) ets_nil))) (by show 3 ≤ 100000; decide)) ets_nil)) (by show 2 ≤ 100000; decide)) H4 (Ex.refl _) Q' fun v H5 e h => q' v H5 ⟨e, h⟩) fun v H5 hv => ?_
        obtain ⟨e5, hv⟩ := hv
        cases hv with
        | lst hl2 hd2 =>
          rename_i l2 us2
          refine s_forLn (xs := us2) ev_c (sq_of hl2) (fun _ (σ' : L2.St) (H' : Hp) => (∃ y4, σ' = [some (.ref a), some (.ref x), some (.int tn), some y, y4, none, none, none]) ∧ Ex H5 H') (fun H6 e6 => ⟨⟨_, rfl⟩, e6⟩) (fun i σ' H' _ q => sq_of (q.2 _ _ hl2)) (fun i z σ' H' hz hp' => ?_) fun σ' H' hp' => ?_
          · obtain ⟨⟨y4', rfl⟩, e6⟩ := hp'
            obtain ⟨dz, hdz, hzd⟩ := dqAll_get hd2 hz
            have e06 := (e04.trans e5).trans e6
            have e46 := e5.trans e6
            obtain ⟨t, v1, v2, dd1, dd2, rfl, ht, h1, h2, ea⟩ : ∃ t v1 v2 dd1 dd2, z = .ref t ∧ H5 t = some (.tup [.str "ways", v1, v2]) ∧ Dq H5 v1 dd1 ∧ Dq H5 v2 dd2 ∧ askedOf w s dd1 dd2 = .list [.str "no house", d] := by
              have lt : i < 2 := (List.getElem?_eq_some_iff.mp hdz).1
              have three : ∀ {H : Hp} {z : V} {dd1 dd2 : PyData}, Dq H z (.tuple [.str "ways", dd1, dd2]) → ∃ t v1 v2, z = .ref t ∧ H t = some (.tup [.str "ways", v1, v2]) ∧ Dq H v1 dd1 ∧ Dq H v2 dd2 := fun h => by
                cases h with
                | tup h1 h2 =>
                  cases h2 with
                  | cons a b =>
                    cases a
                    cases b with
                    | cons a b =>
                      cases b with
                      | cons a' b =>
                        cases b
                        exact ⟨_, _, _, rfl, h1, a, a'⟩
              match i, lt with
              | 0, _ =>
                cases hdz
                obtain ⟨t, v1, v2, e, ht, h1, h2⟩ := three hzd
                exact ⟨t, v1, v2, _, _, e, ht, h1, h2, by unfold askedOf; rw [no]; rfl⟩
              | 1, _ =>
                cases hdz
                obtain ⟨t, v1, v2, e, ht, h1, h2⟩ := three hzd
                have z0 : houseD w.n (natD 0) = true := house_in (h := 0) (by omega)
                exact ⟨t, v1, v2, _, _, e, ht, h1, h2, by unfold askedOf; rw [if_pos z0, no]; rfl⟩
            exact s_when (b := false) (et_is (et_test (ev_op (ev_reprT (d := .list [.str "no house", d]) (evp_callP (PP := fun v H2 => Dq H2 v (.list [.str "no house", d])) (eap_ev (ea_cons (ev_var rfl) (ea_cons (ev_var rfl) ea_nil))) fun vs H7 e7 hvs Q q => by
                subst hvs
                exact ⟨F, x, t, w, ad, s, v1, v2, dd1, dd2, rfl, hR.mono (e06.trans e7), W, (e6.trans e7) _ _ ht, Dq.mono (e6.trans e7) h1, Dq.mono (e6.trans e7) h2, fun r H8 e8 h8 => q _ _ e8 (by rw [← ea]; exact h8)⟩) okE)
              (ev_reprT (d := .list [.str "no house", d]) (et_lst (ets_cons (et_v ev_c (.str _)) (ets_cons (et_v (ev_var rfl) (Dq.mono e46 hyd4)) ets_nil)) (by show 2 ≤ 100000; decide)) okE) (rv_ne rfl))) (by simp)) (fun hb => nomatch hb) fun _ H7 e7 => ⟨⟨_, rfl⟩, e6.trans e7⟩
          · obtain ⟨⟨y4', rfl⟩, e6⟩ := hp'
            exact ⟨⟨_, _, rfl⟩, (e24.trans e5).trans e6⟩
      · obtain ⟨⟨y3, y4, rfl⟩, e3⟩ := hp'
        have e03 := e2.trans e3
        refine q_forR1 (n := (w.n : Int)) (ea_cons (nl e03 rfl) ea_nil) (by omega) (fun _ (σ' : L2.St) (H' : Hp) => (∃ y5 y6 y7, σ' = [some (.ref a), some (.ref x), some (.int tn), y3, y4, y5, y6, y7]) ∧ Ex H0 H') (fun H4 e4 => ⟨⟨_, _, _, rfl⟩, e03.trans e4⟩) (fun u σ' H' hu hp => ?_) fun σ' H' hp => ?_
        · obtain ⟨⟨y5, y6, y7, rfl⟩, e4⟩ := hp
          refine s_forR1 (n := (w.n : Int)) (ea_cons (nl e4 rfl) ea_nil) (by omega) (fun _ (σ' : L2.St) (H' : Hp) => (∃ y6 y7, σ' = [some (.ref a), some (.ref x), some (.int tn), y3, y4, some (.int (u : Int)), y6, y7]) ∧ Ex H0 H') (fun H5 e5 => ⟨⟨_, _, rfl⟩, e4.trans e5⟩) (fun v σ' H' hv hp => ?_) fun σ' H' hp => ?_
          · obtain ⟨⟨y6', y7', rfl⟩, e5⟩ := hp
            have hu' : u < w.n := by omega
            have hv' : v < w.n := by omega
            refine q_asgP (PP := fun y H2 => Dq H2 y (askedOf w s (natD u) (natD v))) (evp_callP (eap_cons (ev_var rfl) (eap_tup (eu_tup (ea_cons ev_c (ea_cons (ev_var rfl) (ea_cons (ev_var rfl) ea_nil))) (by show 3 ≤ 100000; decide)) eap_nil)) fun vs H6 e6 hvs Q q => ?_) fun y H6 e6 hy => ?_
            · obtain ⟨_, rfl, t, _, rfl, nt, ht, rfl⟩ := hvs
              exact ⟨F, x, t, w, ad, s, _, _, natD u, natD v, rfl, hR.mono (e5.trans e6), W, ht, .int _, .int _, fun r H7 e7 h7 => q _ _ e7 h7⟩
            · have e06 := e5.trans e6
              have near : ∀ {σ' : L2.St}, σ'[0]? = some (some (.ref a)) → σ'[5]? = some (some (.int (u : Int))) → EvL (tCall (spNearW K) [] E0 (tCons (tVar 0) (tCons (tVar 5) tNil))) σ' H6 ((Km.near w u).map natV) := fun {σ'} s0 s5 => el_call (ea_cons (ev_var s0) (ea_cons (ev_var s5) ea_nil)) fun H7 e7 Q q => ⟨a, w, u, rfl, hw.mono (e06.trans e7), W, q⟩
              have mem : (Km.near w u).contains v = decide (Km.nb w u v) := by
                rw [Bool.eq_iff_iff, List.contains_iff_mem, decide_eq_true_eq]
                unfold Km.near
                rw [List.mem_filter, List.mem_range, decide_eq_true_eq]
                exact ⟨fun z => z.2, fun z => ⟨hv', z⟩⟩
              have ask : askedOf w s (natD u) (natD v) = if Km.nb w u v then .list [.str "ways", .tuple ((s.qu u v).map natD)] else .list [.str "no road", natD u, natD v] := by
                unfold askedOf natD
                rw [if_pos (house_in hu'), if_pos (house_in hv'), hn, hn]
              rw [ask] at hy
              by_cases nb : Km.nb w u v
              · rw [if_pos nb] at hy
                cases hy with
                | lst hl7 hd7 =>
                  cases hd7 with
                  | cons h0 hr7 =>
                    cases h0
                    cases hr7 with
                    | cons h1 hr8 =>
                      cases hr8
                      refine s_when (b := false) (et_is (et_or (b := false) (et_test (ev_op (ev_op (ev_op (ev_var rfl) ev_c (rv_ixL (v := .str "ways") (sq_of hl7) rfl)) ev_c (rv_eq rfl)) (ev_opL (ev_var rfl) (near rfl rfl) fun p H7 hp e7 => rv_isL (sq_of hp) rfl flat_nats) (rv_ne rfl))) fun _ => et_is (et_and (b := false) (et_test (ev_op (ev_op (ev_var rfl) ev_c (rv_ixL (v := .str "ways") (sq_of hl7) rfl)) ev_c (rv_eq rfl))) fun z => absurd z (by decide +kernel)) (by simp)) ?_) (fun hb => nomatch hb) fun _ H7 e7 => ⟨⟨_, _, rfl⟩, e06.trans e7⟩
                      rw [inV_nats, mem, decide_eq_true nb]
                      decide +kernel
              · rw [if_neg nb] at hy
                cases hy with
                | lst hl7 hd7 =>
                  cases hd7 with
                  | cons h0 hr7 =>
                    cases h0
                    cases hr7 with
                    | cons h1 hr8 =>
                      cases hr8 with
                      | cons h2 hr9 =>
                        cases hr9
                        cases h1
                        cases h2
                        refine s_when (b := false) (et_is (et_or (et_test (ev_op (ev_op (ev_op (ev_var rfl) ev_c (rv_ixL (v := .str "no road") (sq_of hl7) rfl)) ev_c (rv_eq rfl)) (ev_opL (ev_var rfl) (near rfl rfl) fun p H7 hp e7 => rv_isL (sq_of hp) rfl flat_nats) (rv_ne rfl))) fun _ => et_and (et_test (ev_op (ev_op (ev_var rfl) ev_c (rv_ixL (v := .str "no road") (sq_of hl7) rfl)) ev_c (rv_eq rfl))) fun _ => et_test (ev_opLL (el_sl (ev_var rfl) (eo_some ev_c) eo_none (sq_of hl7)) (el_lst (ea_cons (ev_var rfl) (ea_cons (ev_var rfl) ea_nil)) (by show 2 ≤ 100000; decide)) fun p1 p2 H7 h1 h2 e7 => rv_neD (d := .list ([u, v].map natD)) (e := .list ([u, v].map natD)) (.lst (sq_of h1) (dpAll_nats [u, v])) (.lst (sq_of h2) (dpAll_nats [u, v])) (PyData.shaped_list sh_nats) (PyData.shaped_list sh_nats))) ?_) (fun hb => nomatch hb) fun _ H7 e7 => ⟨⟨_, _, rfl⟩, e06.trans e7⟩
                        rw [inV_nats, mem, decide_eq_false nb]
                        have : PyData.eqv (.list ([u, v].map natD)) (.list ([u, v].map natD)) = true := by simp [PyData.eqv, PyData.eqvAll, natD]
                        rw [this]
                        simp
                        try decide +kernel
          · obtain ⟨⟨y6', y7', rfl⟩, e5⟩ := hp
            exact ⟨⟨_, _, _, rfl⟩, e5⟩
        · obtain ⟨⟨y5, y6, y7, rfl⟩, e4⟩ := hp
          exact s_ret ev_c fun H5 e5 => hQ H5 (e4.trans e5)
end
end Tr

set_option maxHeartbeats 4000000
/-! ### runnings side by side (law k04): _law_deeds -/
namespace Km
theorem mk_le {w : W} (ok : Ok w) {s t : S} {h k : Nat} (e : step w s (.mk h) = some (t, k)) : k < w.hs.length := by
  obtain ⟨r, z, _, _⟩ := step_mk e
  have m : k ∈ left w s h := by rw [z]; exact List.mem_cons_self
  exact List.mem_range.mp (List.mem_filter.mp m).1
theorem hd_le {w : W} (ok : Ok w) {s t : S} {u v k : Nat} (I : Inv w s) (e : step w s (.hd u v) = some (t, k)) : k < w.hs.length := by
  obtain ⟨r, z, _, _⟩ := step_hd e
  exact (I.q1 u v k (by rw [z]; exact List.mem_cons_self)).1
end Km
namespace Tr
open PySem PySem.Spec PyProof.Rows L2 LK Evl
abbrev sDeeds : Stmt := top 65
abbrev nDeeds : List Str := ["box", "worlds", "runnings", "states", "many", "often", "turn", "which", "world", "state", "deed", "due", "k"]
theorem scDeeds : FnScope nDeeds ["box", "worlds", "runnings", "states", "many", "often"] (defScope sDeeds) := ⟨rfl, rfl, rfl, by decide +kernel, rfl, by decide +kernel, by decide +kernel⟩
theorem due_run {w : Km.W} {s : Km.S} {dx : Dx} (r : Km.Run w s) : Km.Run w (dueOf w s dx).1 := by
  cases dx with
  | mk d =>
    unfold dueOf
    by_cases c : houseD w.n d = true
    · simp only [if_pos c]
      cases e : Km.step w s (.mk (natOf d)) with
      | none => exact r
      | some p => exact .on r e
    · simp only [if_neg c]
      exact r
  | hd d d' =>
    unfold dueOf
    by_cases c : houseD w.n d = true
    · simp only [if_pos c]
      by_cases c2 : houseD w.n d' = true
      · simp only [if_pos c2]
        by_cases nb : Km.nb w (natOf d) (natOf d')
        · simp only [if_pos nb]
          cases e : Km.step w s (.hd (natOf d) (natOf d')) with
          | none => exact r
          | some p => exact .on r e
        · simp only [if_neg nb]
          exact r
      · simp only [if_neg c2]
        exact r
    · simp only [if_neg c]
      exact r
theorem sml_l2 {x : Str} {d : PyData} (hx : Sml 0 40 (.str x)) (hd : Sml 1 46 d) : PyData.okD (.list [.str x, d]) = true := (sml_lst (k := 1) (n := 46) (m := 2) (fun d' h => by
  rcases List.mem_cons.mp h with rfl | h
  · exact hx.up (by omega) (by omega)
  · rw [List.mem_singleton] at h
    subst h
    exact hd) (by simp)).ok (by decide) (by decide)
theorem sml_l3 {x : Str} {d e : PyData} (hx : Sml 0 40 (.str x)) (hd : Sml 1 46 d) (he : Sml 1 46 e) : PyData.okD (.list [.str x, d, e]) = true := (sml_lst (k := 1) (n := 46) (m := 3) (fun d' h => by
  rcases List.mem_cons.mp h with rfl | h
  · exact hx.up (by omega) (by omega)
  · rcases List.mem_cons.mp h with rfl | h
    · exact hd
    · rw [List.mem_singleton] at h
      subst h
      exact he) (by simp)).ok (by decide) (by decide)
theorem due_okD {w : Km.W} (W : Wd w) {s : Km.S} {dx : Dx} (r : Km.Run w s) (h : DxF dx) : PyData.okD (dueOf w s dx).2 = true := by
  have I := r.inv W.ok
  have f := W.ok.few
  have st : ∀ {x : Str}, PyData.fine (.str x) = true → Sml 0 40 (.str x) := fun z => ⟨z, by simp [PyData.depth], by simp [PyData.szD]⟩
  have wr : ∀ k, k < w.hs.length → PyData.okD (.list [.str "write", natD k]) = true := fun k hk => sml_l2 (st (by simp only [PyData.fine]; decide +kernel)) ((sml_nat (by omega)).up (by omega) (by omega))
  cases dx with
  | mk d =>
    unfold dueOf
    by_cases c : houseD w.n d = true
    · simp only [if_pos c]
      cases e : Km.step w s (.mk (natOf d)) with
      | none => exact sml_l2 (st (by simp only [PyData.fine]; decide +kernel)) h
      | some p => exact wr p.2 (Km.mk_le W.ok e)
    · simp only [if_neg c]
      exact sml_l2 (st (by simp only [PyData.fine]; decide +kernel)) h
  | hd d d' =>
    obtain ⟨h1, h2⟩ := h
    unfold dueOf
    by_cases c : houseD w.n d = true
    · simp only [if_pos c]
      by_cases c2 : houseD w.n d' = true
      · simp only [if_pos c2]
        by_cases nb : Km.nb w (natOf d) (natOf d')
        · simp only [if_pos nb]
          cases e : Km.step w s (.hd (natOf d) (natOf d')) with
          | none => exact sml_l3 (st (by simp only [PyData.fine]; decide +kernel)) h1 h2
          | some p => exact wr p.2 (Km.hd_le W.ok I e)
        · simp only [if_neg nb]
          exact sml_l3 (st (by simp only [PyData.fine]; decide +kernel)) h1 h2
      · simp only [if_neg c2]
        exact sml_l2 (st (by simp only [PyData.fine]; decide +kernel)) h2
    · simp only [if_neg c]
      exact sml_l2 (st (by simp only [PyData.fine]; decide +kernel)) h1
/-- a world with a running and a state of the law -/
structure Pl where
  w : Km.W
  a : Addr
  x : Addr
  q : Addr
  ad1 : Slot → Addr
  ad2 : Slot → Addr
def Pl.cel (P : Pl) (b : Addr) : Prop := In P.w true P.ad1 b ∨ In P.w false P.ad2 b
structure PlOk (p : Addr) (P : Pl) : Prop where
  own : ∀ b, In P.w true P.ad1 b → ¬ In P.w false P.ad2 b
  box : ∀ b, P.cel b → b ≠ p
structure PlAt (K : PySem.W.Frag) (C CS CR : Addr) (F : Addr → Prop) (H : Hp) (P : Pl) (s : Km.S) : Prop where
  hw : WorldAt (hidF F H) P.a P.w
  hr : RunAt K C CS CR F H P.x P.w P.ad1 s
  hs : StAt F H P.q P.w P.ad2 s
  W : Wd P.w
  r : Km.Run P.w s
section
variable {K : PySem.W.Frag} {C CS CR : Addr} {F : Addr → Prop} {H H' : Hp} {p : Addr} {P : Pl} {s : Km.S}
theorem RunAt.fr {x : Addr} {w : Km.W} {ad : Slot → Addr} {G : Addr → Prop} (h : RunAt K C CS CR F H x w ad s) (e : Fr G H H') (g : ∀ a, G a → F a) (n : ∀ a, In w true ad a → ¬ G a) : RunAt K C CS CR F H' x w ad s := by
  obtain ⟨ds, ⟨⟨dx, st, ul, bl, dt, kvs, h1⟩, h2, h3⟩, h4⟩ := h
  exact ⟨ds, ⟨⟨dx, st, ul, bl, dt, kvs, h1.mono (e.up g).hid⟩, h2, h3.fr e n⟩, DqAll.mono (e.up g).hid h4⟩
theorem PlAt.cF (h : PlAt K C CS CR F H P s) : ∀ b, P.cel b → F b := fun b c => by
  rcases c with c | c
  · obtain ⟨_, ⟨_, z, _⟩, _⟩ := h.hr
    exact z b c
  · obtain ⟨_, ⟨_, z, _⟩, _⟩ := h.hs
    exact z b c
theorem PlAt.fr {G : Addr → Prop} (h : PlAt K C CS CR F H P s) (e : Fr G H H') (g : ∀ a, G a → F a) (n : ∀ b, P.cel b → ¬ G b) : PlAt K C CS CR F H' P s :=
  ⟨h.hw.mono (e.up g).hid, h.hr.fr e g fun a z => n a (.inl z), h.hs.fr e g fun a z => n a (.inr z), h.W, h.r⟩
theorem PlAt.mono (h : PlAt K C CS CR F H P s) (e : Ex H H') : PlAt K C CS CR F H' P s := h.fr (G := fun _ => False) (Fr.of e) (fun _ z => z.elim) fun _ _ z => z
theorem sp_due {t : Addr} {dx : Dx} {Q : VK} {E : XK} (PA : PlAt K C CS CR F H P s) (PO : PlOk p P) (L : Live F H) (hX : DxAt (hidF F H) t dx) (k : ∀ r H2, Fr P.cel H H2 → Live F H2 → StAt F H2 P.q P.w P.ad2 (dueOf P.w s dx).1 → RunAt K C CS CR F H2 P.x P.w P.ad1 s → WorldAt (hidF F H2) P.a P.w → DxAt (hidF F H2) t dx → Dq (hidF F H2) (.ref r) (dueOf P.w s dx).2 → Q (.ref r) H2) :
    spDue K [.ref P.a, .ref P.q, .ref t] H Q E := ⟨F, P.a, P.q, t, P.w, P.ad2, s, dx, rfl, PA.hw, PA.hs, L, PA.W, PA.r, hX, fun r H2 fr L2 S2 _ hd => by
  have g : ∀ b, In P.w false P.ad2 b → F b := fun b z => PA.cF b (.inr z)
  exact k r H2 (fr.up fun _ => .inr) L2 S2 (PA.hr.fr fr g fun b z => PO.own b z) (PA.hw.mono (fr.up g).hid) (hX.mono (fr.up g).hid) hd⟩
theorem sp_did {t : Addr} {dx : Dx} {Q : VK} {E : XK} {tn : Int} (hR : RunAt K C CS CR F H P.x P.w P.ad1 s) (W : Wd P.w) (r : Km.Run P.w s) (L : Live F H) (hX : DxAt (hidF F H) t dx) (k : ∀ r H2, Fr (In P.w true P.ad1) H H2 → Live F H2 → RunAt K C CS CR F H2 P.x P.w P.ad1 (dueOf P.w s dx).1 → Dq (hidF F H2) (.ref r) (dueOf P.w s dx).2 → Q (.ref r) H2) :
    spDid K C CS CR [.ref P.x, .ref t, .int tn] H Q E := ⟨F, P.x, t, P.w, P.ad1, s, dx, tn, rfl, hR, L, W, r, hX, fun r H2 fr L2 R2 _ hd => k r H2 fr L2 R2 hd⟩
/-- runnings side by side -/
structure Apart (N : Nat) (p : Addr) (P : Nat → Pl) : Prop where
  ok : ∀ k, k < N → PlOk p (P k)
  two : ∀ j k, j < N → k < N → j ≠ k → ∀ b, (P j).cel b → ¬ (P k).cel b
/-- what they may change -/
def Mv (N : Nat) (p : Addr) (P : Nat → Pl) (b : Addr) : Prop := b = p ∨ ∃ k, k < N ∧ (P k).cel b
structure GmAt (K : PySem.W.Frag) (C CS CR : Addr) (F : Addr → Prop) (H : Hp) (N : Nat) (P : Nat → Pl) (s : Nat → Km.S) : Prop where
  l : Live F H
  at' : ∀ k, k < N → PlAt K C CS CR F H (P k) (s k)
def putS (s : Nat → Km.S) (k : Nat) (t : Km.S) (j : Nat) : Km.S := if j = k then t else s j
end
section
variable {K : PySem.W.Frag} {σ : L2.St} {H : Hp} {ta tb te tl : TE} {tr : TA} {D : Ends} {tz tu : TS}
theorem q_par2 {i j : Nat} {u v : V} {ta : TA} (h : EvA ta σ H [u, v]) (k : ∀ H1, Ex H H1 → tz D ((σ.set i (some u)).set j (some v)) H1) : tSeq (tPar i j ta) tz D σ H := h H (Ex.refl H) _ fun H1 e1 => ⟨u, v, rfl, k H1 e1⟩
theorem q_asgC {i : Nat} {sp : Sp} {dvs : List V} {E : XK} {ta : TA} {vs : List V} (h : EvA ta σ H vs) (k : ∀ H1, Ex H H1 → sp (vs ++ dvs) H1 (fun v H2 => tz D (σ.set i (some v)) H2) E) : tSeq (tAsg (tCall sp dvs E ta) (gName i)) tz D σ H := h H (Ex.refl H) _ k
/-- repr(f(..)) != repr(x), both alike -/
theorem t_neR {i : Nat} {u : V} {d : PyData} {sp : Sp} {dvs : List V} {E : XK} {ta : TA} {vs : List V} {Q' : Bool → Hp → Prop} (hi : σ[i]? = some (some u)) (ok : PyData.okD d = true) (h : EvA ta σ H vs) (k : ∀ H1, Ex H H1 → ∀ Q : VK, (∀ v H2, Dq H2 v d → Dq H2 u d → Q' false H2 → Q v H2) → sp (vs ++ dvs) H1 Q E) :
    tTest (tOp rNe (tCB rRepr (tCons (tCall sp dvs E ta) tNil)) (tCB rRepr (tCons (tVar i) tNil))) σ H Q' := h H (Ex.refl H) _ fun H1 e1 => k H1 e1 _ fun v H2 hv hu q => by
  unfold PyData.okD at ok
  simp only [Bool.and_eq_true, decide_eq_true_eq] at ok
  refine ⟨v, d, rfl, hv, ok.1, ok.2.1, sz_of ok.2.2, ⟨u, hi, u, d, rfl, hu, ok.1, ok.2.1, sz_of ok.2.2, ⟨rfl, ⟨false, ?_, q⟩⟩⟩⟩
  simp
theorem q_whenF {t : TT} (PP : Hp → Prop) (h : ∀ Q' : Bool → Hp → Prop, (∀ H1, PP H1 → Q' false H1) → t σ H Q') (k : ∀ H1, PP H1 → tz D σ H1) : tSeq (tIfS t tu tNext) tz D σ H := h _ fun H1 p => k H1 p
theorem s_whenF {t : TT} (PP : Hp → Prop) (h : ∀ Q' : Bool → Hp → Prop, (∀ H1, PP H1 → Q' false H1) → t σ H Q') (k : ∀ H1, PP H1 → D.nx σ H1) : tIfS t tu tNext D σ H := h _ fun H1 p => k H1 p
end
def spDeeds (K : PySem.W.Frag) (C CS CR : Addr) : Sp := fun vs H Q _ => ∃ (F : Addr → Prop) (p l1 l2 l3 : Addr) (N : Nat) (P : Nat → Pl) (s : Nat → Km.S) (m many : Nat) (often : Bool), vs = [.ref p, .ref l1, .ref l2, .ref l3, .int (many : Int), .bl often] ∧ Bx H p m ∧ m + 11 * many ≤ 90000 ∧ many ≤ 1000 ∧ F p ∧ 0 < N ∧ N ≤ 100 ∧ Apart N p P ∧ GmAt K C CS CR F H N P s ∧
  hidF F H l1 = some (.lst ((List.range N).map fun k => V.ref (P k).a)) ∧ hidF F H l2 = some (.lst ((List.range N).map fun k => V.ref (P k).x)) ∧ hidF F H l3 = some (.lst ((List.range N).map fun k => V.ref (P k).q)) ∧
  ∀ H2 s2, Fr (Mv N p P) H H2 → Bx H2 p (m + 11 * many) → GmAt K C CS CR F H2 N P s2 → Q (.bl true) H2
section
variable {P' : Program} {w' : World} {K : PySem.W.Frag} {mg : Str → Option Value} {base : Heap} {C CS CR f f1 f2 f3 f4 f5 : Addr} {fd d1 d2 d3 d4 d5 : FuncData}
theorem ok_deeds (F : FnP K "_law_deeds" sDeeds f fd) (sm : ∃ o, K.lookup sysModules = some o) (G1 : FnOk P' w' K mg base CX0 1 f1 d1 ["box", "many"] spTake) (k1 : Kd K mg "_law_take" ["box", "many"] f1 d1) (G2 : FnOk P' w' K mg base CX0 2 f2 d2 ["box", "world", "state"] (spDeed K)) (k2 : Kd K mg "_law_deed" ["box", "world", "state"] f2 d2)
    (G3 : FnOk P' w' K mg base CX0 3 f3 d3 ["world", "state", "deed"] (spDue K)) (k3 : Kd K mg "_law_due" ["world", "state", "deed"] f3 d3) (G4 : FnOk P' w' K mg base CX0 8 f4 d4 ["running", "deed", "turn"] (spDid K C CS CR)) (k4 : Kd K mg "_law_did" ["running", "deed", "turn"] f4 d4)
    (G5 : FnG P' w' K mg base 7 f5 d5 ["world", "running", "state", "turn"] (spIs K C CS CR)) (k5 : Kd K mg "_law_is" ["world", "running", "state", "turn"] f5 d5) (mr : mg "range" = none) (mp : mg "repr" = none) (ml : mg "len" = none) (mi : mg "int" = none) : FnG P' w' K mg base 9 f fd ["box", "worlds", "runnings", "states", "many", "often"] (spDeeds K C CS CR) := by
  refine fnG (k := 8) (funOf F) scDeeds (fun vs H Q E h => ?_) fun cdv A outer s0 H0 vs Q hr hg h => ⟨_,
    pss_cons (ps_for PassesOwn.never rfl (pi_range1 (by rfl) mr (pa_cons (pv 4) pa_nil)) (pg_name (i := 6) scDeeds.nd rfl (.inl rfl))
      (pss_cons (ps_set (i := 7) scDeeds.nd rfl (.inl rfl) (pe_call G1 (hr.mono (by decide)) (by rfl) k1.m k1.k k1.b .nil pass0 (pa_cons (pv 0) (pa_cons (pe_callB (r := rLenS K) call_len_seq (by rfl) ml PySem.boot_len (pa_cons (pv 1) pa_nil)) pa_nil))))
      (pss_cons (ps_par (i := 8) (j := 9) rfl scDeeds.nd rfl rfl (by decide) rfl rfl (pa_cons (pe_ix ix_list (pv 1) (pv 7) (fun _ _ => rfl)) (pa_cons (pe_ix ix_list (pv 3) (pv 7) (fun _ _ => rfl)) pa_nil)) rfl)
      (pss_cons (ps_set (i := 10) scDeeds.nd rfl (.inl rfl) (pe_call G2 (hr.mono (by decide)) (by rfl) k2.m k2.k k2.b .nil pass0 (pa_cons (pv 0) (pa_cons (pv 8) (pa_cons (pv 9) pa_nil)))))
      (pss_cons (ps_set (i := 11) scDeeds.nd rfl (.inl rfl) (pe_call G3 (hr.mono (by decide)) (by rfl) k3.m k3.k k3.b .nil pass0 (pa_cons (pv 8) (pa_cons (pv 9) (pa_cons (pv 10) pa_nil)))))
      (pss_cons (ps_if (pt_cmpR op_ne (p_repr sm hr.units hg mp (pe_call G4 hr (by rfl) k4.m k4.k k4.b .nil pass0 (pa_cons (pe_ix ix_list (pv 2) (pv 7) (fun _ _ => rfl)) (pa_cons (pv 10) (pa_cons (pe_op op_mod (pe_callTy call_int1 (by rfl) mi (by decide +kernel) (pa_cons (pv 6) pa_nil)) pe_int) pa_nil))))) (p_repr sm hr.units hg mp (pv 11)) (nomark _)) (pss_one (ps_ret pe_bl)) pss_nil)
      (pss_one (ps_for PassesOwn.never rfl (pi_range1 (by rfl) mr (pa_cons (pe_callB (r := rLenS K) call_len_seq (by rfl) ml PySem.boot_len (pa_cons (pv 1) pa_nil)) pa_nil)) (pg_name (i := 12) scDeeds.nd rfl (.inl rfl))
        (pss_one (ps_if (pw_or (pw_and (pt_val (pv 5)) (pw_and1 (pw_or (pt_cmpR op_eq (pv 12) (pv 7) (nomark _)) (pw_or1 (pt_cmpR op_eq (pe_op op_mod (pv 6) pe_int) pe_int (nomark _)))).pt)).pt (pw_or1 (pt_cmpR op_eq (pe_op op_mod (pv 6) pe_int) pe_int (nomark _)))).pt
          (pss_one (ps_if (pt_not (pt_val (pe_callG G5 (hr.mono (by decide)) hg k5.m k5.k k5.b (pa_cons (pe_ix ix_list (pv 1) (pv 12) (fun _ _ => rfl)) (pa_cons (pe_ix ix_list (pv 2) (pv 12) (fun _ _ => rfl)) (pa_cons (pe_ix ix_list (pv 3) (pv 12) (fun _ _ => rfl)) (pa_cons (pe_op op_mod (pe_callTy call_int1 (by rfl) mi (by decide +kernel) (pa_cons (pe_op op_add (pv 6) (pv 12)) pa_nil)) pe_int) pa_nil))))))) (pss_one (ps_ret pe_bl)) pss_nil)) pss_nil))))))))))
    (pss_one (ps_ret pe_bl)), ?_⟩
  · obtain ⟨F, p, l1, l2, l3, N, P, s, m, many, often, rfl, _⟩ := h
    rfl
  · obtain ⟨F, p, l1, l2, l3, N, P, s, m, many, often, rfl, hB, hm, hmany, hFp, N0, N1, AP, GM, hl1, hl2, hl3, hQ⟩ := h
    have mvF : ∀ b, Mv N p P b → F b := fun b z => by
      rcases z with rfl | ⟨k, hk, c⟩
      · exact hFp
      · exact (GM.at' k hk).cF b c
    have rg : ∀ {f : Nat → V} {k : Nat}, k < N → ((List.range N).map f)[k]? = some (f k) := fun {f k} hk => by
      rw [List.getElem?_map, List.getElem?_range hk]
      rfl
    have hin : ∀ (a : Int) (H : Hp), RC (fun xs H Q => (∃ i, xs = [V.int i] ∧ Q (.int i) H) ∨ ∃ k, xs = [V.bl k] ∧ Q (.int (if k then 1 else 0)) H) [.int a] H (.int a) := fun a H H1 _ Q q => .inl ⟨a, rfl, q H1 (Ex.refl H1)⟩
    refine q_forR1 (n := (many : Int)) (ea_cons (ev_var rfl) ea_nil) (by omega) (fun i (σ' : L2.St) (H' : Hp) => (∃ y6 y7 y8 y9 y10 y11 y12, σ' = [some (.ref p), some (.ref l1), some (.ref l2), some (.ref l3), some (.int (many : Int)), some (.bl often), y6, y7, y8, y9, y10, y11, y12]) ∧ Fr (Mv N p P) H0 H' ∧ Bx H' p (m + 11 * i) ∧ ∃ s, GmAt K C CS CR F H' N P s)
      (fun H1 e1 => ⟨⟨_, _, _, _, _, _, _, rfl⟩, Fr.of e1, hB.mono e1, s, ⟨GM.l.mono e1, fun k hk => (GM.at' k hk).mono e1⟩⟩) (fun i σ' H' hi hp => ?_) fun σ' H' hp => ?_
    · obtain ⟨⟨y6, y7, y8, y9, y10, y11, y12, rfl⟩, fr0, hB0, s, GM0⟩ := hp
      have lst : ∀ {H'' : Hp}, Fr (Mv N p P) H0 H'' → H'' l1 = some (.lst ((List.range N).map fun k => V.ref (P k).a)) ∧ H'' l2 = some (.lst ((List.range N).map fun k => V.ref (P k).x)) ∧ H'' l3 = some (.lst ((List.range N).map fun k => V.ref (P k).q)) := fun {H''} fr =>
        ⟨hidF_le _ _ ((fr.up mvF).hid _ _ hl1), hidF_le _ _ ((fr.up mvF).hid _ _ hl2), hidF_le _ _ ((fr.up mvF).hid _ _ hl3)⟩
      have ll : ∀ {σ' : L2.St} {H'' : Hp}, Fr (Mv N p P) H0 H'' → σ'[1]? = some (some (.ref l1)) → Ev (tCB (rLenS K) (tCons (tVar 1) tNil)) σ' H'' (.int (N : Int)) := fun {σ' H''} fr s1 => by
        have z : Ev (tCB (rLenS K) (tCons (tVar 1) tNil)) σ' H'' (.int (((List.range N).map fun k => V.ref (P k).a).length : Int)) := ev_len (ev_var s1) (sq_of (lst fr).1)
        rw [List.length_map, List.length_range] at z
        exact z
      refine q_draw (i := 0) rfl (ll fr0 rfl) hB0 (by omega) (by omega) (by omega) fun k0 H1 hk0 fr1 hB1 => ?_
      have hk : k0 < N := by omega
      have one : ∀ b, One p b → Mv N p P b := fun b z => .inl z
      have fr01 : Fr (Mv N p P) H0 H1 := fr0.trans (fr1.up one)
      have GM1 : GmAt K C CS CR F H1 N P s := ⟨fun b z => by
        by_cases c : b = p
        · rw [c]; exact hB1.some
        · obtain ⟨o, ho⟩ := GM0.l b z
          exact ⟨o, fr1 _ _ c ho⟩, fun k hk => (GM0.at' k hk).fr fr1 (fun b z => mvF b (one b z)) fun b c z => (AP.ok k hk).box b c z⟩
      refine q_par2 (ea_cons (ev_op (ev_var rfl) (ev_var rfl) (rv_ixL (v := .ref (P k0).a) (sq_of (lst fr01).1) (atI_nat (rg hk)))) (ea_cons (ev_op (ev_var rfl) (ev_var rfl) (rv_ixL (v := .ref (P k0).q) (sq_of (lst fr01).2.2) (atI_nat (rg hk)))) ea_nil)) fun H2 e2 => ?_
      have PA2 := (GM1.at' k0 hk).mono e2
      -- the deed
      refine q_asgC (vs := [.ref p, .ref (P k0).a, .ref (P k0).q]) (ea_cons (ev_var rfl) (ea_cons (ev_var rfl) (ea_cons (ev_var rfl) ea_nil))) fun H3 e3 => ?_
      have PA3 := PA2.mono e3
      have fr03 : Fr (Mv N p P) H0 H3 := fr01.trans (Fr.of (e2.trans e3))
      refine ⟨F, p, (P k0).a, (P k0).q, (P k0).w, (P k0).ad2, s k0, m + 11 * i + 1, rfl, hB1.mono (e2.trans e3), by omega, ⟨hFp, fun b z => (AP.ok k0 hk).box b (.inr z)⟩, PA3.hw, PA3.hs, GM1.l.mono (e2.trans e3), PA3.W, PA3.r, fun t dx H4 fr4 hB4 L4 nt hX hF => ?_⟩
      have fr04 : Fr (Mv N p P) H0 H4 := fr03.trans (fr4.up one)
      have at4 : ∀ k, k < N → PlAt K C CS CR F H4 (P k) (s k) := fun k hk => ((GM1.at' k hk).mono (e2.trans e3)).fr fr4 (fun b z => mvF b (one b z)) fun b c z => (AP.ok k hk).box b c z
      -- what is due
      refine q_asgC (vs := [.ref (P k0).a, .ref (P k0).q, .ref t]) (ea_cons (ev_var rfl) (ea_cons (ev_var rfl) (ea_cons (ev_var rfl) ea_nil))) fun H5 e5 => ?_
      refine sp_due ((at4 k0 hk).mono e5) (AP.ok k0 hk) (L4.mono e5) (hX.mono (Fr.of e5).hid) fun r H6 fr6 L6 S6 R6 W6 X6 hd6 => ?_
      have cm : ∀ b, (P k0).cel b → Mv N p P b := fun b z => .inr ⟨k0, hk, z⟩
      have fr06 : Fr (Mv N p P) H0 H6 := (fr04.trans (Fr.of e5)).trans (fr6.up cm)
      have okD := due_okD (at4 k0 hk).W (at4 k0 hk).r hF
      have other6 : ∀ k, k < N → k ≠ k0 → PlAt K C CS CR F H6 (P k) (s k) := fun k hk' ne => ((at4 k hk').mono e5).fr fr6 (fun b z => mvF b (cm b z)) fun b c z => AP.two k k0 hk' hk ne b c z
      have hB6 : Bx H6 p (m + 11 * i + 11) := (hB4.mono e5).fr fr6 fun z => (AP.ok k0 hk).box p z rfl
      -- the deed in the running
      refine q_whenF (fun H9 => Fr (Mv N p P) H0 H9 ∧ Bx H9 p (m + 11 * i + 11) ∧ GmAt K C CS CR F H9 N P (putS s k0 (dueOf (P k0).w (s k0) dx).1)) (fun Q' hq => t_neR (d := (dueOf (P k0).w (s k0) dx).2) rfl okD (ea_cons (ev_op (ev_var rfl) (ev_var rfl) (rv_ixL (v := .ref (P k0).x) (sq_of (lst fr06).2.1) (atI_nat (rg hk)))) (ea_cons (ev_var rfl) (ea_cons (ev_op (ev_cb (ea_cons (ev_var rfl) ea_nil) (hin _ _)) ev_c (rv_I (by decide))) ea_nil))) fun H7 e7 Q q => ?_) fun H9 h9 => ?_
      · refine sp_did (P := P k0) (s := s k0) (dx := dx) (R6.mono e7) (at4 k0 hk).W (at4 k0 hk).r (L6.mono e7) (X6.mono (Fr.of e7).hid) fun r2 H8 fr8 L8 R8 hd8 => ?_
        have c1 : ∀ b, In (P k0).w true (P k0).ad1 b → (P k0).cel b := fun b z => .inl z
        have frF : ∀ b, In (P k0).w true (P k0).ad1 b → F b := fun b z => mvF b (cm b (c1 b z))
        have e78 : Ex (hidF F H6) (hidF F H8) := (Fr.of e7).hid.trans (fr8.up frF).hid
        refine q _ H8 (Dq.mono hidF_le hd8) (Dq.mono hidF_le (Dq.mono e78 hd6)) (hq H8 ⟨(fr06.trans (Fr.of e7)).trans (fr8.up fun b z => cm b (c1 b z)), (hB6.mono e7).fr fr8 fun z => (AP.ok k0 hk).box p (c1 p z) rfl, L8, fun k hk' => ?_⟩)
        by_cases c : k = k0
        · subst c
          have e : putS s k (dueOf (P k).w (s k) dx).1 k = (dueOf (P k).w (s k) dx).1 := if_pos rfl
          rw [e]
          exact ⟨W6.mono e78, R8, (S6.mono e7).fr fr8 frF fun b z z2 => (AP.ok k hk).own b z2 z, (at4 k hk).W, due_run (at4 k hk).r⟩
        · have e : putS s k0 (dueOf (P k0).w (s k0) dx).1 k = s k := if_neg c
          rw [e]
          exact ((other6 k hk' c).mono e7).fr fr8 frF fun b z z2 => AP.two k k0 hk' hk c b z (c1 b z2)
      · obtain ⟨fr09, hB9, GM9⟩ := h9
        refine s_forR1 (n := (N : Int)) (ea_cons (ll fr09 rfl) ea_nil) (by omega) (fun _ (σ' : L2.St) (H' : Hp) => (∃ y12, σ' = [some (.ref p), some (.ref l1), some (.ref l2), some (.ref l3), some (.int (many : Int)), some (.bl often), some (.int (i : Int)), some (.int (k0 : Int)), some (.ref (P k0).a), some (.ref (P k0).q), some (.ref t), some (.ref r), y12]) ∧ Ex H9 H') (fun H10 e10 => ⟨⟨_, rfl⟩, e10⟩) (fun k σ' H' hk' hp => ?_) fun σ' H' hp => ?_
        · obtain ⟨⟨y12', rfl⟩, e10⟩ := hp
          have hkN : k < N := by omega
          refine s_when (et_or (et_and (et_B (ev_var rfl)) fun _ => et_or (et_test (ev_op (ev_var rfl) (ev_var rfl) (rv_eq rfl))) fun _ => et_test (ev_op (ev_op (ev_var rfl) ev_c (rv_I (by decide))) ev_c (rv_eq rfl))) fun _ => et_test (ev_op (ev_op (ev_var rfl) ev_c (rv_I (by decide))) ev_c (rv_eq rfl))) (fun _ H11 e11 => ?_) fun _ H11 e11 => ⟨⟨_, rfl⟩, e10.trans e11⟩
          have e911 := e10.trans e11
          obtain ⟨la, lb, lc⟩ := lst (fr09.trans (Fr.of e911))
          refine s_when (b := false) (et_is (et_not (et_B (b := true) (ev_call' (ea_cons (ev_op (ev_var rfl) (ev_var rfl) (rv_ixL (v := .ref (P k).a) (sq_of la) (atI_nat (rg hkN)))) (ea_cons (ev_op (ev_var rfl) (ev_var rfl) (rv_ixL (v := .ref (P k).x) (sq_of lb) (atI_nat (rg hkN)))) (ea_cons (ev_op (ev_var rfl) (ev_var rfl) (rv_ixL (v := .ref (P k).q) (sq_of lc) (atI_nat (rg hkN)))) (ea_cons (ev_op (ev_cb (ea_cons (ev_op (ev_var rfl) (ev_var rfl) rv_I0) ea_nil) (hin _ _)) ev_c (rv_I (by decide))) ea_nil)))) fun H12 e12 Q q => ?_))) rfl) (fun hb => nomatch hb) fun _ H12 e12 => ⟨⟨_, rfl⟩, e911.trans e12⟩
          have PK := (GM9.at' k hkN).mono (e911.trans e12)
          exact ⟨F, (P k).a, (P k).x, (P k).q, (P k).w, (P k).ad1, (P k).ad2, _, _, rfl, PK.hw.mono hidF_le, PK.hr, PK.hs, PK.W, PK.r, q⟩
        · obtain ⟨⟨y12', rfl⟩, e10⟩ := hp
          exact ⟨⟨_, _, _, _, _, _, _, rfl⟩, fr09.trans (Fr.of e10), (by have := hB9.mono e10; rwa [show m + 11 * (i + 1) = m + 11 * i + 11 by omega]), _, ⟨GM9.l.mono e10, fun k hk => (GM9.at' k hk).mono e10⟩⟩
    · obtain ⟨⟨y6, y7, y8, y9, y10, y11, y12, rfl⟩, fr0, hB0, s2, GM0⟩ := hp
      have e : Int.toNat (many : Int) = many := rfl
      rw [e] at hB0
      exact s_ret ev_c fun H1 e1 => hQ H1 s2 (fr0.trans (Fr.of e1)) (hB0.mono e1) ⟨GM0.l.mono e1, fun k hk => (GM0.at' k hk).mono e1⟩
end
end Tr

set_option maxHeartbeats 4000000
/-! ### a state done again (law k04): _law_copy -/
namespace Tr
open PySem PySem.Spec PyProof.Rows L2 LK Evl
abbrev sCopy : Stmt := top 67
abbrev nCopy : List Str := ["world", "state", "found", "deed"]
theorem scCopy : FnScope nCopy ["world", "state"] (defScope sCopy) := ⟨rfl, rfl, rfl, by decide +kernel, rfl, by decide +kernel, by decide +kernel⟩
def dxOf : Km.Dd → Dx
  | .mk h => .mk (natD h)
  | .hd u v => .hd (natD u) (natD v)
theorem natOf_nat {h : Nat} : natOf (natD h) = h := by simp [natOf, natD]
/-- a deed that can be done, as the law has it -/
theorem due_step {w : Km.W} (W : Wd w) {s t : Km.S} {d : Km.Dd} {k : Nat} (e : Km.step w s d = some (t, k)) : dueOf w s (dxOf d) = (t, .list [.str "write", natD k]) := by
  cases d with
  | mk h =>
    obtain ⟨_, _, hh, _⟩ := Km.step_mk e
    exact due_mk2 (house_in hh) (by rw [natOf_nat]; exact e)
  | hd u v =>
    obtain ⟨_, _, nb, _⟩ := Km.step_hd e
    have hv : v < w.n := Km.nb_r W.ok nb
    have hu : u < w.n := Km.nb_r W.ok (u := v) (nb.elim .inr .inl)
    exact due_hd4 (house_in hu) (house_in hv) (by rw [natOf_nat, natOf_nat]; exact nb) (by rw [natOf_nat, natOf_nat]; exact e)
theorem dx_at {G : Hp} {t : Addr} {d : Km.Dd} (h : G t = some (.tup (deedV d))) : DxAt G t (dxOf d) := by
  cases d with
  | mk x => exact ⟨_, h, .int _⟩
  | hd u v => exact ⟨_, _, h, .int _, .int _⟩
theorem ex_fr {G : Addr → Prop} {A B D : Hp} (e : Ex A B) (fr : Fr G B D) (n : ∀ a, G a → A a = none) : Ex A D := fun a o h => fr a o (fun g => by rw [n a g] at h; cases h) (e a o h)
/-- what stays, more being hidden that is new -/
theorem hid_more {F0 N : Addr → Prop} {A B : Hp} (e : Ex A B) (n : ∀ a, N a → A a = none) : Ex (hidF F0 A) (hidF (fun a => F0 a ∨ N a) B) := fun a o h => by
  have hA := hidF_le _ _ h
  have nF : ¬ F0 a := fun z => by
    unfold hidF at h
    rw [if_pos z] at h
    cases h
  have nN : ¬ N a := fun z => by
    rw [n a z] at hA
    cases hA
  rw [hidF_eq (F := fun a => F0 a ∨ N a) (fun z => z.elim nF nN)]
  exact e a o hA
def spCopy (K : PySem.W.Frag) : Sp := fun vs H Q _ => ∃ (F0 : Addr → Prop) (a q : Addr) (w : Km.W) (ad : Slot → Addr) (s : Km.S), vs = [.ref a, .ref q] ∧ WorldAt (hidF F0 H) a w ∧ StAt F0 H q w ad s ∧ Live F0 H ∧ Wd w ∧ Km.Run w s ∧
  ∀ q2 H2 ad2, Ex H H2 → H q2 = none → (∀ s : Slot, s.ok w false → H (ad2 s) = none) → Live (fun a => F0 a ∨ In w false ad2 a) H2 → StAt (fun a => F0 a ∨ In w false ad2 a) H2 q2 w ad2 s → Q (.ref q2) H2
section
variable {K : PySem.W.Frag} {σ : L2.St} {H : Hp} {te : TE}
theorem s_callC {D : Ends} {sp : Sp} {dvs : List V} {E : XK} {ta : TA} {vs : List V} (h : EvA ta σ H vs) (k : ∀ H1, Ex H H1 → sp (vs ++ dvs) H1 (fun _ H2 => D.nx σ H2) E) : tDrop (tCall sp dvs E ta) D σ H := h H (Ex.refl H) _ k
theorem el_listL {a : Addr} {xs : List V} (h : Ev te σ H (.ref a)) (hs : H a = some (.lst xs)) : EvL (tCB (fun xs H Q => ∃ p ys, xs = [.ref p] ∧ (SqL K H p ys ∨ SqT K H p ys) ∧ ∀ l, H l = none → Q (.ref l) (upd H l (.lst ys))) (tCons te tNil)) σ H xs := fun H1 e Q q =>
  h H1 e _ fun H2 e2 => ⟨a, xs, rfl, .inl (sq_of ((e.trans e2) _ _ hs)), fun l nl => q l _ (fresh_back e2 nl) (e2.trans (Ex.new nl)) upd_same⟩
end
section
variable {P : Program} {w : World} {K : PySem.W.Frag} {mg : Str → Option Value} {base : Heap} {f f1 f2 : Addr} {fd d1 d2 : FuncData}
theorem ok_copy (F : FnP K "_law_copy" sCopy f fd) (G1 : FnOk P w K mg base CX0 2 f1 d1 ["world"] (spBegun K)) (k1 : Kd K mg "_law_begun" ["world"] f1 d1) (G2 : FnOk P w K mg base CX0 3 f2 d2 ["world", "state", "deed"] (spDue K)) (k2 : Kd K mg "_law_due" ["world", "state", "deed"] f2 d2) (mli : mg "list" = none) :
    FnOk P w K mg base CX0 4 f fd ["world", "state"] (spCopy K) := by
  refine F.ok scCopy (fun vs H Q E h => ?_) fun cdv A outer s0 H0 vs Q E hr h => ⟨_, PSs.nox (
    pss_cons (ps_set (i := 2) scCopy.nd rfl (.inl rfl) (pe_call G1 (hr.mono (by decide)) (by rfl) k1.m k1.k k1.b .nil pass0 (pa_cons (pv 0) pa_nil)))
    (pss_cons (ps_for PassesOwn.never rfl (pi_list (pe_callTy call_list_of (by rfl) mli (by decide +kernel) (pa_cons (pe_ix ix_list (pv 1) pe_int (fun _ _ => rfl)) pa_nil))) (pg_name (i := 3) scCopy.nd rfl (.inl rfl))
      (pss_one (ps_expr (pe_call G2 hr (by rfl) k2.m k2.k k2.b .nil pass0 (pa_cons (pv 0) (pa_cons (pv 2) (pa_cons (pv 3) pa_nil)))))))
    (pss_one (ps_ret (pv 2))))), ?_⟩
  · obtain ⟨F0, a, q, w, ad, s, rfl, _⟩ := h
    rfl
  · obtain ⟨F0, a, q, w, ad, s, rfl, hw, hS, L, W, r, hQ⟩ := h
    refine q_asgC (vs := [.ref a]) (ea_cons (ev_var rfl) ea_nil) fun H1 e1 => ?_
    refine ⟨F0, a, w, rfl, (hw.mono hidF_le).mono e1, W, L.mono e1, fun q2 H2 ad2 e2 nq na L2' S2 => ?_⟩
    have e02 := e1.trans e2
    have n0 : ∀ b, In w false ad2 b → H0 b = none := fun b z => by
      obtain ⟨sl, ok, rfl⟩ := z
      exact fresh_back e1 (na sl ok)
    obtain ⟨ds, ⟨⟨bl, dt, kvs, hT⟩, hF, hC⟩, hD⟩ := id hS
    have q1 := hidF_le _ _ hT.hx
    have dd : H0 (ad .dd) = some (.lst ds) := hC.at' .dd trivial
    have dl := r.ddfew W.ok
    have ld : ds.length = s.dd.length := by
      have := dqAll_len hD
      rwa [List.length_map] at this
    refine q_forNLn (xs := ds) (el_listL (ev_op (ev_var rfl) ev_c (rv_ixL (v := .ref (ad .dd)) (sq_of (e02 _ _ q1)) rfl)) (e02 _ _ dd))
      (fun l i (σ' : L2.St) (H' : Hp) => (∃ y, σ' = [some (.ref a), some (.ref q), some (.ref q2), y]) ∧ Ex H0 H' ∧ H' l = some (.lst ds) ∧ (¬ In w false ad2 l) ∧ Live (fun a => F0 a ∨ In w false ad2 a) H' ∧ ∃ si, Km.Path w si (s.dd.drop i) s ∧ Km.Run w si ∧ StAt (fun a => F0 a ∨ In w false ad2 a) H' q2 w ad2 si)
      (fun l H3 nl e3 hl => ⟨⟨_, rfl⟩, e02.trans e3, hl, fun z => ?_, L2'.mono e3, Km.begun, r.path, .nil, S2.mono e3⟩) (fun l i σ' H' _ q => sq_of q.2.2.1) (fun l i y σ' H' hy hp => ?_) fun l σ' H' hp => ?_
    · obtain ⟨sl, ok, rfl⟩ := z
      obtain ⟨ds3, ⟨_, _, hC3⟩, _⟩ := S2
      have := hC3.at' sl ok
      rw [nl] at this
      cases this
    · obtain ⟨⟨y3, rfl⟩, e03, hl, nl, L3, si, ph, ri, S3⟩ := hp
      have hi : i < s.dd.length := by rw [← ld]; exact (List.getElem?_eq_some_iff.mp hy).1
      obtain ⟨d', hd', hyd⟩ := dqAll_get hD hy
      have ed : d' = deedD s.dd[i] := by
        rw [List.getElem?_map, List.getElem?_eq_getElem hi] at hd'
        exact (Option.some.inj hd').symm
      subst ed
      obtain ⟨t, rfl, ht⟩ := deed_tup hyd
      rw [List.drop_eq_getElem_cons hi] at ph
      cases ph with
      | @cons _ sn _ _ k _ e p =>
        have hm := hid_more (F0 := F0) e03 n0
        refine s_callC (vs := [.ref a, .ref q2, .ref t]) (ea_cons (ev_var rfl) (ea_cons (ev_var rfl) (ea_cons (ev_var rfl) ea_nil))) fun H4 e4 => ?_
        have h4 := (Fr.of (F := fun a => F0 a ∨ In w false ad2 a) e4).hid
        refine ⟨(fun a => F0 a ∨ In w false ad2 a), a, q2, t, w, ad2, si, dxOf s.dd[i], rfl, hw.mono (hm.trans h4), S3.mono e4, L3.mono e4, W, ri, dx_at ((hm.trans h4) _ _ ht), fun r5 H5 fr5 L5 S5 _ _ => ?_⟩
        have n4 : ∀ b, In w false ad2 b → H0 b = none := n0
        rw [due_step W e] at S5
        exact ⟨⟨_, rfl⟩, ex_fr (e03.trans e4) fr5 n4, fr5 _ _ nl (e4 _ _ hl), nl, L5, sn, p, .on ri e, S5⟩
    · obtain ⟨⟨y3, rfl⟩, e03, hl, nl, L3, si, ph, ri, S3⟩ := hp
      have e : s.dd.drop ds.length = [] := List.drop_eq_nil_of_le (by omega)
      rw [e] at ph
      cases ph
      exact s_ret (ev_var rfl) fun H4 e4 => hQ q2 H4 ad2 (e03.trans e4) (fresh_back e1 nq) (fun sl ok => n0 _ ⟨sl, ok, rfl⟩) (L3.mono e4) (S3.mono e4)
end
end Tr

set_option maxHeartbeats 4000000
/-! ### a running to its end (law k04): _law_ended -/
namespace Tr
open PySem PySem.Spec PyProof.Rows L2 LK Evl
abbrev sEnded : Stmt := top 66
abbrev nEnded : List Str := ["box", "world", "running", "state", "turn", "deeds", "deed", "due", "house", "way", "u", "v"]
theorem scEnded : FnScope nEnded ["box", "world", "running", "state"] (defScope sEnded) := ⟨rfl, rfl, rfl, by decide +kernel, rfl, by decide +kernel, by decide +kernel⟩
theorem op_isBl {X : Cx} : OpR X (compareOp .Is) (fun x y H Q => ∃ a b, x = .bl a ∧ y = .bl b ∧ Q (.bl (decide (a = b))) H) := by
  intro pins s σ H x y v u Q I rx ry h
  obtain ⟨a, b, rfl, rfl, q⟩ := h
  cases rx
  cases ry
  refine wpAny_is_plain rfl (fin_bl I q ?_)
  cases a <;> cases b <;> rfl
/-- a list of deeds -/
def Dts (A H : Hp) (ds : List Km.Dd) (us : List V) : Prop := All2 (fun d v => ∃ t, v = .ref t ∧ A t = none ∧ H t = some (.tup (deedV d))) ds us
theorem Dts.mono {A H H' : Hp} {ds : List Km.Dd} {us : List V} (e : Ex H H') (h : Dts A H ds us) : Dts A H' ds us := All2.imp h fun _ _ _ z => by
  obtain ⟨t, a, n, b⟩ := z
  exact ⟨t, a, n, e _ _ b⟩
theorem Dts.back {A B H : Hp} {ds : List Km.Dd} {us : List V} (e : Ex A B) (h : Dts B H ds us) : Dts A H ds us := All2.imp h fun _ _ _ z => by
  obtain ⟨t, a, n, b⟩ := z
  exact ⟨t, a, fresh_back e n, b⟩
theorem dp_dts {K : PySem.W.Frag} {A H : Hp} : ∀ {ds : List Km.Dd} {us : List V}, Dts A H ds us → DpAll K H us (ds.map deedD)
  | _, _, .nil => .nil
  | .mk x :: _, _, .cons ⟨t, e, _, ht⟩ r => by
    subst e
    exact .cons (.tup (st_of ht) (.cons (.str _) (.cons (.int _) .nil))) (dp_dts r)
  | .hd u v :: _, _, .cons ⟨t, e, _, ht⟩ r => by
    subst e
    exact .cons (.tup (st_of ht) (.cons (.str _) (.cons (.int _) (.cons (.int _) .nil)))) (dp_dts r)
theorem sh_deeds {ds : List Km.Dd} : ∀ d ∈ ds.map deedD, d.canLay0 = true ∧ d.depth ≤ 60 := fun d hd => by
  obtain ⟨n, _, rfl⟩ := List.mem_map.mp hd
  have h1 : PyData.strOk "make" = true := by decide +kernel
  have h2 : PyData.strOk "hand" = true := by decide +kernel
  cases n <;> simp [deedD, natD, PyData.canLay0, PyData.depth, PyData.canLayAll0, PyData.depthAll, h1, h2]
theorem dxf_ok {w : Km.W} (W : Wd w) {d : Km.Dd} (h : d.ok w) : DxF (dxOf d) := by
  have n16 := W.ok.most
  have sm : ∀ k : Nat, k < w.n → Sml 1 46 (natD k) := fun k hk => (sml_nat (x := k) (by omega)).up (by omega) (by omega)
  cases d with
  | mk x => exact sm x h
  | hd u v =>
    have nb : Km.nb w u v := h
    exact ⟨sm u (Km.nb_r W.ok (u := v) (nb.elim .inr .inl)), sm v (Km.nb_r W.ok nb)⟩
def ableD (w : Km.W) (s : Km.S) : List Km.Dd := (ableL w s).map .mk ++ (hotL w s).map fun p => .hd p.1 p.2
theorem can_step {w : Km.W} (W : Wd w) {s : Km.S} {d : Km.Dd} (h : d ∈ ableD w s) : ∃ t k, Km.step w s d = some (t, k) := by
  rcases List.mem_append.mp h with h | h
  · obtain ⟨x, hx, rfl⟩ := List.mem_map.mp h
    obtain ⟨h1, h2⟩ := List.mem_filter.mp hx
    have hl := List.mem_range.mp h1
    cases z : Km.left w s x with
    | nil => rw [z] at h2; cases h2
    | cons k r =>
      refine ⟨Km.said (Km.arrive w s k x x) (.mk x), k, ?_⟩
      show (match Km.left w s x with | [] => none | k :: _ => if x < w.n then some (Km.said (Km.arrive w s k x x) (.mk x), k) else none) = _
      rw [z]
      simp only [if_pos hl]
  · obtain ⟨p, hp, rfl⟩ := List.mem_map.mp h
    obtain ⟨nb, ne⟩ := (mem_hot W).mp hp
    cases z : s.qu p.1 p.2 with
    | nil => exact absurd z ne
    | cons k r =>
      refine ⟨Km.said (Km.arrive w (Km.popQ s p.1 p.2) k p.1 p.2) (.hd p.1 p.2), k, ?_⟩
      show (match s.qu p.1 p.2 with | [] => none | k :: _ => if Km.nb w p.1 p.2 then some (Km.said (Km.arrive w (Km.popQ s p.1 p.2) k p.1 p.2) (.hd p.1 p.2), k) else none) = _
      rw [z]
      simp only [if_pos nb]
theorem none_stuck {w : Km.W} (W : Wd w) {s : Km.S} (h : ableD w s = []) : Km.Stuck w s := by
  obtain ⟨h1, h2⟩ := List.append_eq_nil_iff.mp h
  rw [List.map_eq_nil_iff] at h1 h2
  refine ⟨fun x hx => ?_, fun u v nb => ?_⟩
  · have := List.filter_eq_nil_iff.mp h1 x (List.mem_range.mpr hx)
    simpa using this
  · refine Classical.byContradiction fun z => ?_
    have : (u, v) ∈ hotL w s := (mem_hot W).mpr ⟨nb, z⟩
    rw [h2] at this
    cases this
theorem stuck_step {w : Km.W} {s t : Km.S} {d : Km.Dd} {k : Nat} (st : Km.Stuck w s) (e : Km.step w s d = some (t, k)) : False := by
  cases d with
  | mk h =>
    obtain ⟨r, z, hh, _⟩ := Km.step_mk e
    rw [st.1 h hh] at z
    cases z
  | hd u v =>
    obtain ⟨r, z, nb, _⟩ := Km.step_hd e
    rw [st.2 u v nb] at z
    cases z
theorem due_stuck {w : Km.W} {s : Km.S} {dx : Dx} (st : Km.Stuck w s) : (dueOf w s dx).1 = s := by
  cases dx with
  | mk d =>
    unfold dueOf
    by_cases c : houseD w.n d = true
    · simp only [if_pos c]
      cases e : Km.step w s (.mk (natOf d)) with
      | none => rfl
      | some p => exact (stuck_step st (t := p.1) (k := p.2) e).elim
    · simp only [if_neg c]
  | hd d d' =>
    unfold dueOf
    by_cases c : houseD w.n d = true
    · simp only [if_pos c]
      by_cases c2 : houseD w.n d' = true
      · simp only [if_pos c2]
        by_cases nb : Km.nb w (natOf d) (natOf d')
        · simp only [if_pos nb]
          cases e : Km.step w s (.hd (natOf d) (natOf d')) with
          | none => rfl
          | some p => exact (stuck_step st (t := p.1) (k := p.2) e).elim
        · simp only [if_neg nb]
      · simp only [if_neg c2]
    · simp only [if_neg c]
section
variable {K : PySem.W.Frag} {σ : L2.St} {H : Hp} {ta tb te tl : TE} {tt : TT} {tr : TA} {D : Ends} {tz tu : TS} {g : TG}
/-- repr(f(..)) != repr(g(..)), both alike -/
theorem t_neR2 {d : PyData} {Q' : Bool → Hp → Prop} (ok : PyData.okD d = true) (k : ∀ Q1 : VK, (∀ v H2, Dq H2 v d → (∀ Q2 : VK, (∀ u H3, Dq H3 u d → Q' false H3 → Q2 u H3) → tb σ H2 Q2) → Q1 v H2) → ta σ H Q1) :
    tTest (tOp rNe (tCB rRepr (tCons ta tNil)) (tCB rRepr (tCons tb tNil))) σ H Q' := k _ fun v H2 hv hb => by
  unfold PyData.okD at ok
  simp only [Bool.and_eq_true, decide_eq_true_eq] at ok
  refine ⟨v, d, rfl, hv, ok.1, ok.2.1, sz_of ok.2.2, hb _ fun u H3 hu q => ⟨u, d, rfl, hu, ok.1, ok.2.1, sz_of ok.2.2, ⟨rfl, ⟨false, ?_, q⟩⟩⟩⟩
  simp
/-- [('make', x) for x in range(n) if t] -/
theorem lc_mk {n : Nat} {j : Nat} {vs : List Nat} {Q : VK} (f : Nat → Bool) (hn : EvA tr σ H [.int (n : Int)]) (n16 : n ≤ 16) (hw : ∀ x, wipe ((wipe σ vs).set j (some x)) vs = wipe σ vs) (sj : ∀ x, ((wipe σ vs).set j (some x))[j]? = some (some x))
    (ht : ∀ (i : Nat) H1, Ex H H1 → i < n → EvT tt ((wipe σ vs).set j (some (.int (i : Int)))) H1 (f i)) (k : ∀ l us H2, H l = none → Ex H H2 → H2 l = some (.lst us) → Dts H H2 (((List.range n).filter f).map .mk) us → Q (.ref l) H2) :
    tLc (iRng1 tr) (gName j) tt (tTup (tCons (tC (.str "make")) (tCons (tVar j) tNil))) vs σ H Q := hn H (Ex.refl H) _ fun H1 e1 => ⟨(n : Int), rfl, by omega, by omega, by
  refine lcF (n := n) (walk_R) f (fun i v H' => ∃ t, v = .ref t ∧ H t = none ∧ H' t = some (.tup (deedV (.mk i)))) (by omega) (fun i v H H' e h => ?_) (fun i v H D xs ys hD _ h => ?_) (fun _ _ => trivial) (fun i x H2 H3 hi e yy => ?_) fun D us H2 nD e2 hD ha => k D us H2 (fresh_back e1 nD) (e1.trans e2) hD (all2_mapL ha)
  · obtain ⟨t, e1, en, e2⟩ := h
    exact ⟨t, e1, en, e _ _ e2⟩
  · obtain ⟨t, e1, en, e2⟩ := h
    exact ⟨t, e1, en, by rw [upd_ne (ne_of e2 hD (fun z => nomatch z))]; exact e2⟩
  · obtain ⟨rfl, rfl⟩ := yy
    refine ⟨Ex.refl _, fun k hk => hk _ _ (Ex.refl _) (hw _) (ht i _ (e1.trans e) hi) fun _ => ?_⟩
    intro H4 e4 Q q
    exact (eu_tup (ea_cons ev_c (ea_cons (ev_var (sj _)) ea_nil)) (by show 2 ≤ 100000; decide)) H4 e4 Q fun t H5 nt e5 ht => q _ H5 e5 ⟨t, rfl, fresh_back ((e1.trans e).trans e4) nt, ht⟩⟩
/-- [('hand', ..) for .. in l if t], l a list of pairs -/
theorem lc_hd {p : Addr} {us0 : List V} {prs : List (Nat × Nat)} {vs : List Nat} {Q : VK} (f : Nat × Nat → Bool) (hp : H p = some (.lst us0)) (tp : Tps H prs us0) (hz : prs.length ≤ 1000)
    (ht : ∀ (pr : Nat × Nat) (t : Addr) H1, Ex H H1 → pr ∈ prs → H1 t = some (.tup [natV pr.1, natV pr.2]) → ∀ k : L2.St → Hp → Prop, (∀ σ2 H2, Ex H1 H2 → wipe σ2 vs = wipe σ vs → EvT tt σ2 H2 (f pr) → (f pr = true → EvU te σ2 H2 (deedV (.hd pr.1 pr.2))) → k σ2 H2) → g (.ref t) (wipe σ vs) H1 k)
    (k : ∀ l us H2, H l = none → Ex H H2 → H2 l = some (.lst us) → Dts H H2 ((prs.filter f).map fun p => .hd p.1 p.2) us → Q (.ref l) H2) :
    tLc (iList K (tC (.ref p))) g tt te vs σ H Q := ⟨p, rfl, ⟨us0, sq_of hp⟩, by
  refine lcF (walk_list (K := K) (a := p) (xs := us0)) (fun i => f (prs.getD i (0, 0))) (fun i v H' => ∃ t, v = .ref t ∧ H t = none ∧ H' t = some (.tup (deedV (.hd (prs.getD i (0, 0)).1 (prs.getD i (0, 0)).2)))) (by rw [tp.len]; omega) (fun i v H H' e h => ?_) (fun i v H D xs ys hD _ h => ?_) (fun H e => sq_of (e _ _ hp)) (fun i x H2 H3 hi e yy => ?_) fun D us H2 nD e2 hD ha => k D us H2 nD e2 hD ?_
  · obtain ⟨t, e1, en, e2⟩ := h
    exact ⟨t, e1, en, e _ _ e2⟩
  · obtain ⟨t, e1, en, e2⟩ := h
    exact ⟨t, e1, en, by rw [upd_ne (ne_of e2 hD (fun z => nomatch z))]; exact e2⟩
  · obtain ⟨rfl, hxi⟩ := yy
    obtain ⟨pr, hpr, t, rfl, htt⟩ := tp.of hxi
    have gd : prs.getD i (0, 0) = pr := by rw [List.getD_eq_getElem?_getD, hpr]; rfl
    rw [gd]
    exact ⟨Ex.refl _, fun k hk => ht pr t _ e (List.mem_of_getElem? hpr) (e _ _ htt) k fun σ2 H4 e4 hw h1 h2 => hk σ2 H4 e4 hw h1 fun hf => fun H5 e5 Q q => h2 hf H5 e5 Q fun t' H6 nt e6 ht' => q _ H6 e6 ⟨t', rfl, fresh_back ((e.trans e4).trans e5) nt, ht'⟩⟩
  · have z : (prs.filter f).map (fun p => Km.Dd.hd p.1 p.2) = ((List.range us0.length).filter fun i => f (prs.getD i (0, 0))).map fun i => Km.Dd.hd (prs.getD i (0, 0)).1 (prs.getD i (0, 0)).2 := by
      rw [tp.len]
      exact (filter_range prs (0, 0) f fun p => Km.Dd.hd p.1 p.2).symm
    rw [z]
    exact all2_mapL ha⟩
theorem ev_prop {C x dx : Addr} {fs : List (Str × V)} {sp : Sp} {v : V} (h : Ev ta σ H (.ref x)) (hx : H x = some (.ins C dx fs)) (hs : ∀ H1, Ex H H1 → ∀ Q : VK, RetV v H1 Q → sp [.ref x] H1 Q E0) : Ev (tProp C sp [] E0 ta) σ H v := fun H1 e Q q =>
  h H1 e _ fun H2 e2 => ⟨x, dx, fs, rfl, (e.trans e2) _ _ hx, hs H2 (e.trans e2) Q fun H3 e3 => q H3 (e2.trans e3)⟩
/-- _law_left(world, state, house) != [] -/
theorem et_able {F : Addr → Prop} {a q : Addr} {w : Km.W} {ad : Slot → Addr} {s : Km.S} {iw iq j h : Nat} (hw : WorldAt H a w) (W : Wd w) (hS : StAt F H q w ad s) (hh : h < w.n) (s1 : σ[iw]? = some (some (.ref a))) (s2 : σ[iq]? = some (some (.ref q))) (s3 : σ[j]? = some (some (.int (h : Int)))) :
    EvT (tTest (tOp (rNeD K) (tCall (spLeft K) [] E0 (tCons (tVar iw) (tCons (tVar iq) (tCons (tVar j) tNil)))) (tLst tNil))) σ H (!(Km.left w s h).isEmpty) := by
  refine et_is (et_test (ev_opLL (el_call (sp := spLeft K) (xs := (Km.left w s h).map natV) (ea_cons (ev_var s1) (ea_cons (ev_var s2) (ea_cons (ev_var s3) ea_nil))) fun H2 e2 Q q' => ?_) (el_lst ea_nil (Nat.zero_le _)) fun p1 p2 H5 h1 h2 e5 => rv_neD (d := .list ((Km.left w s h).map natD)) (e := .list []) (.lst (sq_of h1) (dpAll_nats _)) (.lst (sq_of h2) .nil) (PyData.shaped_list sh_nats) (PyData.shaped_list fun d hd => by cases hd))) (by rw [PyData.eqv_nil, List.isEmpty_map])
  exact ⟨F, a, q, w, ad, s, h, rfl, hw.mono e2, hS.mono e2, hh, W.ok.few, q'⟩
end
end Tr

set_option maxHeartbeats 4000000
/-! ### a running to its end (law k04): _law_ended -/
namespace Tr
open PySem PySem.Spec PyProof.Rows L2 LK Evl
def Mv1 (p : Addr) (P : Pl) (b : Addr) : Prop := b = p ∨ P.cel b
def spEnded (K : PySem.W.Frag) (C CS CR : Addr) : Sp := fun vs H Q _ => ∃ (F : Addr → Prop) (p : Addr) (P : Pl) (s : Km.S) (m : Nat), vs = [.ref p, .ref P.a, .ref P.x, .ref P.q] ∧ Bx H p m ∧ m + 200 ≤ 90000 ∧ F p ∧ PlOk p P ∧ PlAt K C CS CR F H P s ∧ Live F H ∧
  ∀ H2 s2, Fr (Mv1 p P) H H2 → Bx H2 p (m + 200) → Live F H2 → PlAt K C CS CR F H2 P s2 → Q (.bl true) H2
section
variable {P' : Program} {w' : World} {K : PySem.W.Frag} {mg : Str → Option Value} {base : Heap} {C CS CR f f1 f2 f3 f4 f5 f6 p1 fF : Addr} {fd d1 d2 d3 d4 d5 d6 dF : FuncData}
theorem ok_ended (F : FnP K "_law_ended" sEnded f fd) (sm : ∃ o, K.lookup sysModules = some o) (R : RunCls K CR) (G1 : FnOk P' w' K mg base CX0 1 f1 d1 ["box", "many"] spTake) (k1 : Kd K mg "_law_take" ["box", "many"] f1 d1) (G2 : FnOk P' w' K mg base CX0 1 f2 d2 ["world", "state", "house"] (spLeft K)) (k2 : Kd K mg "_law_left" ["world", "state", "house"] f2 d2)
    (G3 : FnOk P' w' K mg base CX0 3 f3 d3 ["world", "state", "deed"] (spDue K)) (k3 : Kd K mg "_law_due" ["world", "state", "deed"] f3 d3) (G4 : FnOk P' w' K mg base CX0 8 f4 d4 ["running", "deed", "turn"] (spDid K C CS CR)) (k4 : Kd K mg "_law_did" ["running", "deed", "turn"] f4 d4)
    (G5 : FnG P' w' K mg base 7 f5 d5 ["world", "running", "state", "turn"] (spIs K C CS CR)) (k5 : Kd K mg "_law_is" ["world", "running", "state", "turn"] f5 d5) (G6 : FnOk P' w' K mg base CX0 1 f6 d6 ["world"] (spWays K)) (k6 : Kd K mg "_law_ways" ["world"] f6 d6)
    (pF : PropOf K CR "finished" p1 fF) (GF : FnOk P' w' K mg base CX0 3 fF dF ["self"] (spFin K C CS CR)) (bF : Binds K dF ["self"] []) (mr : mg "range" = none) (mp : mg "repr" = none) (ml : mg "len" = none) (mi : mg "int" = none) : FnG P' w' K mg base 9 f fd ["box", "world", "running", "state"] (spEnded K C CS CR) := by
  refine fnG (k := 8) (funOf F) scEnded (fun vs H Q E h => ?_) fun cdv A outer s0 H0 vs Q hr hg h => ⟨_,
    pss_cons (ps_for PassesOwn.never rfl (pi_range1 (by rfl) mr (pa_cons (pe_op op_mul (pe_ix ix_list (pv 1) pe_int (fun _ _ => rfl)) (pe_callB (r := rLenS K) call_len_seq (by rfl) ml PySem.boot_len (pa_cons (pe_ix ix_list (pv 1) pe_int (fun _ _ => rfl)) pa_nil))) pa_nil)) (pg_name (i := 4) scEnded.nd rfl (.inl rfl))
      (pss_cons (ps_setLc (i := 5) (own := [("house", 8)]) (g := gName 8) rfl scEnded.nd rfl rfl (sw_true rfl rfl rfl (by decide +kernel)) (pi_range1 (by rfl) mr (pa_cons (pe_ix ix_list (pv 1) pe_int (fun _ _ => rfl)) pa_nil)) (blkOk_by (N := nEnded) (sc := defScope sEnded) (by decide +kernel)) (fun _ _ _ _ _ => pg_name (i := 8) scEnded.nd rfl (.inl rfl))
          (fun _ _ _ _ _ => pts_one (pt_cmpR (r := rNeD K) (op_neD hr.units) (pe_call G2 (hr.mono (by decide)) (by rfl) k2.m k2.k k2.b .nil pass0 (pa_cons (pv 1) (pa_cons (pv 3) (pa_cons (pv 8) pa_nil)))) (pe_lst pa_nil) (nomark _))) (fun _ _ _ _ _ => pe_tup (pa_cons pe_str (pa_cons (pv 8) pa_nil))))
      (pss_cons (ps_set (i := 5) scEnded.nd rfl (.inl rfl) (pe_op op_cat (pv 5) (pe_lc (own := [("way", 9)]) (g := gName 9) rfl scEnded.nd (pi_list (pe_call G6 (hr.mono (by decide)) (by rfl) k6.m k6.k k6.b .nil pass0 (pa_cons (pv 1) pa_nil))) (blkOk_by (N := nEnded) (sc := defScope sEnded) (by decide +kernel)) (fun _ _ _ _ _ => pg_name (i := 9) scEnded.nd rfl (.inl rfl))
          (fun _ _ _ _ _ => pts_one (pt_cmpR (r := rNeD K) (op_neD hr.units) (pe_dget (hu_of hr) (pe_ix (r := rIxL K) ix_list (pv 3) pe_int (fun _ _ => rfl)) (pv 9) (fun _ _ => rfl)) (pe_lst pa_nil) (nomark _))) (fun _ _ _ _ _ => pe_tup (pa_cons pe_str (pa_cons (pe_ix (r := rIxT K) ix_tup (pv 9) pe_int (fun _ _ => rfl)) (pa_cons (pe_ix (r := rIxT K) ix_tup (pv 9) pe_int (fun _ _ => rfl)) pa_nil)))))))
      (pss_one (ps_if (pt_cmpR (op_neD hr.units) (pv 5) (pe_lst pa_nil) (nomark _))
        (pss_cons (ps_set (i := 6) scEnded.nd rfl (.inl rfl) (pe_ix ix_list (pv 5) (pe_call G1 (hr.mono (by decide)) (by rfl) k1.m k1.k k1.b .nil pass0 (pa_cons (pv 0) (pa_cons (pe_callB (r := rLenS K) call_len_seq (by rfl) ml PySem.boot_len (pa_cons (pv 5) pa_nil)) pa_nil))) (fun _ _ => rfl)))
        (pss_cons (ps_set (i := 7) scEnded.nd rfl (.inl rfl) (pe_call G3 (hr.mono (by decide)) (by rfl) k3.m k3.k k3.b .nil pass0 (pa_cons (pv 1) (pa_cons (pv 3) (pa_cons (pv 6) pa_nil)))))
        (pss_one (ps_if (pt_cmpR op_ne (p_repr sm hr.units hg mp (pe_call G4 hr (by rfl) k4.m k4.k k4.b .nil pass0 (pa_cons (pv 2) (pa_cons (pv 6) (pa_cons (pe_op op_mod (pe_callTy call_int1 (by rfl) mi (by decide +kernel) (pa_cons (pv 4) pa_nil)) pe_int) pa_nil))))) (p_repr sm hr.units hg mp (pv 7)) (nomark _)) (pss_one (ps_ret pe_bl)) pss_nil)))) pss_nil)))))
    (pss_cons (ps_for PassesOwn.never rfl (pi_list (pe_op op_cat
        (pe_lc (own := [("house", 8)]) (g := gName 8) (tt := tYes) rfl scEnded.nd (pi_range1 (by rfl) mr (pa_cons (pe_ix ix_list (pv 1) pe_int (fun _ _ => rfl)) pa_nil)) (blkOk_by (N := nEnded) (sc := defScope sEnded) (by decide +kernel)) (fun _ _ _ _ _ => pg_name (i := 8) scEnded.nd rfl (.inl rfl)) (fun _ _ _ _ _ => pts_nil) (fun _ _ _ _ _ => pe_tup (pa_cons pe_str (pa_cons (pv 8) pa_nil))))
        (pe_lc (own := [("u", 10), ("v", 11)]) (g := gTup K 2 (gCons (gName 10) (gCons (gName 11) gNil))) (tt := tYes) rfl scEnded.nd (pi_list (pe_ix ix_list (pv 1) pe_int (fun _ _ => rfl))) (blkOk_by (N := nEnded) (sc := defScope sEnded) (by decide +kernel))
          (fun _ _ _ _ _ => by exact pg_tup rfl (pgs_cons (pg_name (i := 10) scEnded.nd rfl (.inl rfl)) (pgs_cons (pg_name (i := 11) scEnded.nd rfl (.inl rfl)) pgs_nil))) (fun _ _ _ _ _ => pts_nil) (fun _ _ _ _ _ => pe_tup (pa_cons pe_str (pa_cons (pv 10) (pa_cons (pv 11) pa_nil))))))) (pg_name (i := 6) scEnded.nd rfl (.inl rfl))
      (pss_one (ps_if (pt_cmpR op_ne (p_repr sm hr.units hg mp (pe_call G4 hr (by rfl) k4.m k4.k k4.b .nil pass0 (pa_cons (pv 2) (pa_cons (pv 6) (pa_cons pe_int pa_nil))))) (p_repr sm hr.units hg mp (pe_call G3 (hr.mono (by decide)) (by rfl) k3.m k3.k k3.b .nil pass0 (pa_cons (pv 1) (pa_cons (pv 3) (pa_cons (pv 6) pa_nil))))) (nomark _)) (pss_one (ps_ret pe_bl)) pss_nil)))
    (pss_one (ps_ret (pe_and (pe_callG G5 (hr.mono (by decide)) hg k5.m k5.k k5.b (pa_cons (pv 1) (pa_cons (pv 2) (pa_cons (pv 3) (pa_cons pe_int pa_nil))))) (pe_one (pe_cmpR op_isBl (pe_prop (pv 2) R.cl pF GF (hr.mono (by decide)) bF .nil pass0 rfl) pe_bl (nomark _))))))), ?_⟩
  · obtain ⟨F, p, P, s, m, rfl, _⟩ := h
    rfl
  · obtain ⟨F, p, P, s, m, rfl, hB, hm, hFp, PO, PA, hL, hQ⟩ := h
    have W := PA.W
    have n16 := W.ok.most
    have w12 := W.ok.few
    have mvF : ∀ b, Mv1 p P b → F b := fun b z => by
      rcases z with rfl | c
      · exact hFp
      · exact PA.cF b c
    have one : ∀ b, One p b → Mv1 p P b := fun b z => .inl z
    have cm : ∀ b, P.cel b → Mv1 p P b := fun b z => .inr z
    have hin : ∀ (a : Int) (H : Hp), RC (fun xs H Q => (∃ i, xs = [V.int i] ∧ Q (.int i) H) ∨ ∃ k, xs = [V.bl k] ∧ Q (.int (if k then 1 else 0)) H) [.int a] H (.int a) := fun a H H1 _ Q q => .inl ⟨a, rfl, q H1 (Ex.refl H1)⟩
    have nl : ∀ {σ' : L2.St} {H1 : Hp}, WorldAt H1 P.a P.w → σ'[1]? = some (some (.ref P.a)) → Ev (tOp (rIxL K) (tVar 1) (tC (.int 0))) σ' H1 (.int (P.w.n : Int)) := fun {σ' H1} hw s1 => by
      obtain ⟨rr, hh, cc, ts, wa, _⟩ := hw
      exact ev_op (ev_var s1) ev_c (rv_ixL (v := natV P.w.n) (sq_of wa) rfl)
    have world : ∀ {H1 : Hp} {s : Km.S}, PlAt K C CS CR F H1 P s → WorldAt H1 P.a P.w := fun z => z.hw.mono hidF_le
    have N192 : P.w.n * P.w.hs.length ≤ 192 := by
      have := Nat.mul_le_mul n16 w12
      omega
    have rng : Ev (tOp (rI CMul fun i j => .int (i * j)) (tOp (rIxL K) (tVar 1) (tC (.int 0))) (tCB (rLenS K) (tCons (tOp (rIxL K) (tVar 1) (tC (.int 2))) tNil))) (start nEnded [.ref p, .ref P.a, .ref P.x, .ref P.q]) H0 (.int ((P.w.n * P.w.hs.length : Nat) : Int)) := by
      obtain ⟨rr, hh, cc, ts, wa, _, _, w4, _⟩ := world PA
      refine ev_is (ev_op (nl (world PA) rfl) (ev_len (ev_op (ev_var rfl) ev_c (rv_ixL (v := .ref hh) (sq_of wa) rfl)) (sq_of w4)) (rv_I (.inl ⟨by omega, by omega⟩))) ?_
      rw [List.length_map]
      congr 1
    refine q_forR1 (n := ((P.w.n * P.w.hs.length : Nat) : Int)) (ea_cons rng ea_nil) (by omega) (fun i (σ' : L2.St) (H' : Hp) => (∃ y4 y5 y6 y7, σ' = [some (.ref p), some (.ref P.a), some (.ref P.x), some (.ref P.q), y4, y5, y6, y7, none, none, none, none]) ∧ Fr (Mv1 p P) H0 H' ∧ Bx H' p (m + i) ∧ Live F H' ∧ ∃ s, PlAt K C CS CR F H' P s ∧ (i ≤ Km.total P.w s ∨ Km.Stuck P.w s))
      (fun H1 e1 => ⟨⟨_, _, _, _, rfl⟩, Fr.of e1, hB.mono e1, hL.mono e1, s, PA.mono e1, .inl (Nat.zero_le _)⟩) (fun i σ' H' hi hp => ?_) fun σ' H' hp => ?_
    · obtain ⟨⟨y4, y5, y6, y7, rfl⟩, fr0, hB0, L0, s, PA0, tot⟩ := hp
      have I := PA0.r.inv W.ok
      refine q_asgQ (fun v H2 => ∃ l us, v = .ref l ∧ H' l = none ∧ Ex H' H2 ∧ H2 l = some (.lst us) ∧ Dts H' H2 ((ableL P.w s).map .mk) us) (fun Q' q' => lc_mk (n := P.w.n) (vs := [8]) (fun h => !(Km.left P.w s h).isEmpty) (ea_cons (nl (world PA0) rfl) ea_nil) n16 (fun _ => rfl) (fun _ => rfl) (fun h H1 e1 hh => et_able ((world PA0).mono e1) W (PA0.hs.mono e1) hh rfl rfl rfl) fun l us H2 nl e hl hd => q' _ _ ⟨l, us, rfl, nl, e, hl, hd⟩) fun v H2 hv => ?_
      obtain ⟨l, us, rfl, nl1, e2, hl, hd⟩ := hv
      have PA2 := PA0.mono e2
      refine q_asgQ (fun v H3 => ∃ l us, v = .ref l ∧ H' l = none ∧ Ex H' H3 ∧ H3 l = some (.lst us) ∧ Dts H' H3 (ableD P.w s) us) (fun Q' q' => ⟨_, rfl, ?_⟩) fun v H3 hv => ?_
      · refine lc_fromQ (fun v H4 => ∃ l2 us2, v = .ref l2 ∧ Ex H2 H4 ∧ H4 l2 = some (.lst us2) ∧ Tps H4 (waysL P.w.n P.w.ps) us2) (fun Q2 q2 => (ea_cons (ev_var rfl) ea_nil) H2 (Ex.refl _) _ fun H4 e4 => ⟨P.a, P.w, rfl, (world PA2).mono e4, W, fun l2 us2 H5 nl2 e5 hl2 tp => q2 _ _ ⟨l2, us2, rfl, e4.trans e5, hl2, tp⟩⟩) fun v H4 hv => ?_
        obtain ⟨l2, us2, rfl, e4, hl2, tp⟩ := hv
        obtain ⟨ds2, ⟨⟨bl2, dt2, kvs2, hT⟩, hF2, hC2⟩, hD2⟩ := id (PA2.hs.mono e4)
        refine lc_hd (vs := [9]) (fun pr => !(s.qu pr.1 pr.2).isEmpty) hl2 tp (by have := ways_few W; omega) (fun pr t H5 e5 hm ht k hk => hk _ _ (Ex.refl _) rfl ?_ fun _ => ?_) fun l3 us3 H5 nl3 e5 hl3 hd3 => ?_
        · have nb := (mem_waysL W).mp hm
          refine et_is (et_neNil (ds := (s.qu pr.1 pr.2).map natD) (ev_dgP (k := [Sum.inl (pr.1 : Int), Sum.inl (pr.2 : Int)]) (ev_op (ev_var rfl) ev_c (rv_ixL (v := .ref dt2) (sq_of (e5 _ _ (hidF_le _ _ hT.hx))) rfl)) (e5 _ _ (hidF_le _ _ hT.hd)) (ev_var rfl) ht (hT.hq _ _ nb)) (sq_of (e5 _ _ (hC2.at' (.qu _ _) nb))) (dpAll_nats _) sh_nats) ?_
          rw [List.isEmpty_map]
        · exact eu_tup (ea_cons ev_c (ea_cons (ev_op (ev_var rfl) ev_c (rv_ixT (v := natV pr.1) (st_of ht) rfl)) (ea_cons (ev_op (ev_var rfl) ev_c (rv_ixT (v := natV pr.2) (st_of ht) rfl)) ea_nil))) (by show 3 ≤ 100000; decide)
        · have e25 := e4.trans e5
          have la := hd.len
          have lb := hd3.len
          have l1 : (ableL P.w s).length ≤ 16 := by
            have := List.length_filter_le (fun h => !(Km.left P.w s h).isEmpty) (List.range P.w.n)
            rw [List.length_range] at this
            unfold ableL
            omega
          have l2' : (hotL P.w s).length ≤ 300 := Nat.le_trans (List.length_filter_le _ _) (ways_few W)
          rw [List.length_map] at la lb
          refine ⟨l, l3, us, us3, rfl, rfl, e25 _ _ hl, hl3, sz_of (by unfold hotL at l2'; omega), fun r nr => q' _ _ ⟨r, us ++ us3, rfl, fresh_back (e2.trans e25) nr, (e2.trans e25).trans (Ex.new nr), upd_same, ?_⟩⟩
          exact All2.app ((hd.mono e25).mono (Ex.new nr)) ((hd3.back (e2.trans e4)).mono (Ex.new nr))
      obtain ⟨l3, us3, rfl, nl3, e3, hl3, hd3⟩ := hv
      have l3n := hd3.len
      have lD : (ableD P.w s).length ≤ 316 := by
        unfold ableD
        rw [List.length_append, List.length_map, List.length_map]
        have a := List.length_filter_le (fun h => !(Km.left P.w s h).isEmpty) (List.range P.w.n)
        rw [List.length_range] at a
        have b : (hotL P.w s).length ≤ 300 := Nat.le_trans (List.length_filter_le _ _) (ways_few W)
        unfold ableL
        omega
      refine s_when (et_neNil (ds := (ableD P.w s).map deedD) (ev_var rfl) (sq_of hl3) (dp_dts hd3) sh_deeds) (fun hb H6 e6 => ?_) fun hb H6 e6 => ?_
      · have e06 := e3.trans e6
        have ne : ableD P.w s ≠ [] := fun z => by rw [z] at hb; cases hb
        have pos : 0 < us3.length := by
          rw [l3n]
          exact List.length_pos_iff.mpr ne
        obtain ⟨op, hop⟩ := hB0.some
        have lp : l3 ≠ p := (ne_of_none hop nl3).symm
        refine q_asgQ (fun v H7 => ∃ d t, v = .ref t ∧ d ∈ ableD P.w s ∧ Fr (One p) H6 H7 ∧ Bx H7 p (m + i + 1) ∧ hidF F H7 t = some (.tup (deedV d))) (fun Q' q' => ix_draw (i := 0) (us := us3) (ev_var rfl) rfl (ev_len (ev_var rfl) (sq_of (e6 _ _ hl3))) (e6 _ _ hl3) lp rfl pos (by omega) (hB0.mono e06) (by omega) fun j v H7 hj fr7 hB7 => ?_) fun v H7 hv => ?_
        · obtain ⟨d, hdj, t, rfl, nt, ht⟩ := All2.of hd3 hj
          have tp : t ≠ p := (ne_of_none hop nt).symm
          exact q' _ H7 ⟨d, t, rfl, List.mem_of_getElem? hdj, fr7, hB7, by rw [hidF_eq (L0.new nt)]; exact fr7 _ _ tp (e6 _ _ ht)⟩
        · obtain ⟨d, t, rfl, hdm, fr7, hB7, ht⟩ := hv
          obtain ⟨sn, k, stp⟩ := can_step W hdm
          have fr07 : Fr (Mv1 p P) H' H7 := (Fr.of e06).trans (fr7.up one)
          have L7 : Live F H7 := fun b z => by
            by_cases c : b = p
            · rw [c]; exact hB7.some
            · obtain ⟨o, ho⟩ := L0 b z
              exact ⟨o, fr7 _ _ c (e06 _ _ ho)⟩
          have PA7 : PlAt K C CS CR F H7 P s := (PA0.mono e06).fr fr7 (fun b z => mvF b (one b z)) fun b c z => PO.box b c z
          refine q_asgC (vs := [.ref P.a, .ref P.q, .ref t]) (ea_cons (ev_var rfl) (ea_cons (ev_var rfl) (ea_cons (ev_var rfl) ea_nil))) fun H8 e8 => ?_
          refine sp_due (PA7.mono e8) PO (L7.mono e8) ((dx_at ht).mono (Fr.of e8).hid) fun r H9 fr9 L9 S9 R9 W9 X9 hd9 => ?_
          have okD := due_okD W PA0.r (dxf_ok W (Km.step_ok stp))
          have fr79 : Fr (Mv1 p P) H7 H9 := (Fr.of e8).trans (fr9.up cm)
          have hB9 : Bx H9 p (m + (i + 1)) := ((hB7.mono e8).fr fr9 fun z => PO.box p z rfl).up (by omega)
          have tn : Km.total P.w (dueOf P.w s (dxOf d)).1 = Km.total P.w s + 1 := by rw [due_step W stp]; exact Km.step_total W.ok stp
          have tot' : i + 1 ≤ Km.total P.w (dueOf P.w s (dxOf d)).1 := by
            rcases tot with z | z
            · omega
            · exact (stuck_step z stp).elim
          refine s_whenF (fun H10 => Fr (Mv1 p P) H0 H10 ∧ Bx H10 p (m + (i + 1)) ∧ Live F H10 ∧ PlAt K C CS CR F H10 P (dueOf P.w s (dxOf d)).1) (fun Q' hq => t_neR (d := (dueOf P.w s (dxOf d)).2) rfl okD (ea_cons (ev_var rfl) (ea_cons (ev_var rfl) (ea_cons (ev_op (ev_cb (ea_cons (ev_var rfl) ea_nil) (hin _ _)) ev_c (rv_I (by decide))) ea_nil))) fun H10 e10 Q q => ?_) fun H10 h10 => ?_
          · refine sp_did (R9.mono e10) W PA0.r (L9.mono e10) (X9.mono (Fr.of e10).hid) fun r2 H11 fr11 L11 R11 hd11 => ?_
            have c1 : ∀ b, In P.w true P.ad1 b → P.cel b := fun b z => .inl z
            have frF : ∀ b, In P.w true P.ad1 b → F b := fun b z => mvF b (cm b (c1 b z))
            have e911 : Ex (hidF F H9) (hidF F H11) := (Fr.of e10).hid.trans (fr11.up frF).hid
            exact q _ H11 (Dq.mono hidF_le hd11) (Dq.mono hidF_le (Dq.mono e911 hd9)) (hq H11 ⟨(((fr0.trans fr07).trans fr79).trans (Fr.of e10)).trans (fr11.up fun b z => cm b (c1 b z)), (hB9.mono e10).fr fr11 fun z => PO.box p (c1 p z) rfl, L11, ⟨W9.mono e911, R11, (S9.mono e10).fr fr11 frF fun b z z2 => PO.own b z2 z, W, due_run PA0.r⟩⟩)
          · exact ⟨⟨_, _, _, _, rfl⟩, h10.1, h10.2.1, h10.2.2.1, _, h10.2.2.2, .inl tot'⟩
      · have e06 := e3.trans e6
        have em : ableD P.w s = [] := by
          cases z : ableD P.w s with
          | nil => rfl
          | cons _ _ => rw [z] at hb; cases hb
        exact ⟨⟨_, _, _, _, rfl⟩, fr0.trans (Fr.of e06), (hB0.mono e06).up (by omega), L0.mono e06, s, PA0.mono e06, .inr (none_stuck W em)⟩
    · obtain ⟨⟨y4, y5, y6, y7, rfl⟩, fr0, hB0, L0, s, PA0, tot⟩ := hp
      have I := PA0.r.inv W.ok
      have stk : Km.Stuck P.w s := tot.elim (fun z => Km.Inv.total_stuck W.ok I z) id
      have lps : P.w.ps.length ≤ 1000 := by have := W.right.many; omega
      obtain ⟨rr, hh, cc, ts, wa, w2, w3, w4, w5⟩ := world PA0
      refine q_forQ (fun v H2 => ∃ l us, v = .ref l ∧ H' l = none ∧ Ex H' H2 ∧ H2 l = some (.lst us) ∧ Dts H' H2 ((List.range P.w.n).map .mk ++ P.w.ps.map fun p => .hd p.1 p.2) us) (fun Q' q' => ?_) fun v H2 hv => ?_
      · refine lc_mk (n := P.w.n) (vs := [8]) (fun _ => true) (ea_cons (nl (world PA0) rfl) ea_nil) n16 (fun _ => rfl) (fun _ => rfl) (fun h H1 e1 hh H5 e5 Q q => by unfold tYes; exact q H5 (Ex.refl _)) fun l us H2 nl2 e hl hd => ?_
        refine lc_fromQ (fun v H3 => v = .ref rr ∧ Ex H2 H3) (fun Q2 q2 => (ev_op (ev_var rfl) ev_c (rv_ixL (v := .ref rr) (sq_of (e _ _ wa)) rfl)) H2 (Ex.refl _) Q2 fun H3 e3 => q2 _ _ ⟨rfl, e3⟩) fun v H3 hv => ?_
        obtain ⟨rfl, e3⟩ := hv
        have e03 := e.trans e3
        refine lc_hd (vs := [10, 11]) (fun _ => true) (e03 _ _ w2) (w3.mono e03) lps (fun pr t H4 e4 hm ht k hk => ⟨t, _, rfl, st_of ht, rfl, _, _, rfl, _, _, rfl, rfl, hk _ _ (Ex.refl _) rfl (fun H5 e5 Q q => by unfold tYes; exact q H5 (Ex.refl _)) fun _ => eu_tup (ea_cons ev_c (ea_cons (ev_var rfl) (ea_cons (ev_var rfl) ea_nil))) (by show 3 ≤ 100000; decide)⟩) fun l3 us3 H4 nl3 e4 hl3 hd3 => ?_
        have e24 := e3.trans e4
        have la := hd.len
        have lb := hd3.len
        rw [List.filter_eq_self.mpr (fun _ _ => rfl)] at la lb
        rw [List.length_map] at la lb
        rw [List.length_range] at la
        refine ⟨l, l3, us, us3, rfl, rfl, e24 _ _ hl, hl3, sz_of (by omega), fun r nr => q' _ _ ⟨r, us ++ us3, rfl, fresh_back (e.trans e24) nr, (e.trans e24).trans (Ex.new nr), upd_same, ?_⟩⟩
        have z : Dts H' (upd H4 r (.lst (us ++ us3))) _ _ := All2.app ((hd.mono e24).mono (Ex.new nr)) ((hd3.back e03).mono (Ex.new nr))
        rw [List.filter_eq_self.mpr (fun _ _ => rfl), List.filter_eq_self.mpr (fun _ _ => rfl)] at z
        exact z
      · obtain ⟨l, us, rfl, nl2, e2, hl, hd⟩ := hv
        have nlF : ¬ F l := L0.new nl2
        have nlM : ¬ Mv1 p P l := fun z => nlF (mvF l z)
        refine q_forLn (xs := us) ev_c (sq_of hl) (fun _ (σ' : L2.St) (H3 : Hp) => (∃ y6, σ' = [some (.ref p), some (.ref P.a), some (.ref P.x), some (.ref P.q), y4, y5, y6, y7, none, none, none, none]) ∧ Fr (Mv1 p P) H2 H3 ∧ Bx H3 p (m + 200) ∧ Live F H3 ∧ PlAt K C CS CR F H3 P s) (fun H3 e3 => ⟨⟨_, rfl⟩, Fr.of e3, (hB0.mono (e2.trans e3)).up (by have e : Int.toNat ((P.w.n * P.w.hs.length : Nat) : Int) = P.w.n * P.w.hs.length := rfl; omega), L0.mono (e2.trans e3), PA0.mono (e2.trans e3)⟩) (fun i σ' H3 _ q => sq_of (q.2.1 _ _ nlM hl)) (fun i y σ' H3 hy hp => ?_) fun σ' H3 hp => ?_
        · obtain ⟨⟨y6', rfl⟩, fr3, hB3, L3, PA3⟩ := hp
          obtain ⟨d, hdi, t, rfl, nt, ht⟩ := All2.of hd hy
          have ntF : ¬ F t := L0.new nt
          have ht3 : hidF F H3 t = some (.tup (deedV d)) := by
            rw [hidF_eq ntF]
            exact fr3 _ _ (fun z => ntF (mvF t z)) ht
          have dok : d.ok P.w := by
            rcases List.mem_append.mp (List.mem_of_getElem? hdi) with z | z
            · obtain ⟨x, hx, rfl⟩ := List.mem_map.mp z
              exact List.mem_range.mp hx
            · obtain ⟨pr, hpr, rfl⟩ := List.mem_map.mp z
              exact .inl hpr
          have okD := due_okD W PA0.r (dxf_ok W dok)
          have c1 : ∀ b, In P.w true P.ad1 b → P.cel b := fun b z => .inl z
          have frF : ∀ b, In P.w true P.ad1 b → F b := fun b z => mvF b (cm b (c1 b z))
          refine s_whenF (fun H10 => Fr (Mv1 p P) H2 H10 ∧ Bx H10 p (m + 200) ∧ Live F H10 ∧ PlAt K C CS CR F H10 P s) (fun Q' hq => t_neR2 (d := (dueOf P.w s (dxOf d)).2) okD fun Q1 q1 => ?_) fun H10 h10 => ⟨⟨_, rfl⟩, h10⟩
          refine (ea_cons (ev_var rfl) (ea_cons (ev_var rfl) (ea_cons ev_c ea_nil)) : EvA _ _ H3 [.ref P.x, .ref t, .int 0]) H3 (Ex.refl _) _ fun H4 e4 => ?_
          refine sp_did (PA3.hr.mono e4) W PA3.r (L3.mono e4) ((dx_at ht3).mono (Fr.of e4).hid) fun r2 H5 fr5 L5 R5 hd5 => q1 _ H5 (Dq.mono hidF_le hd5) fun Q2 q2 => ?_
          rw [due_stuck stk] at R5
          have PA5 : PlAt K C CS CR F H5 P s := ⟨PA3.hw.mono ((Fr.of e4).hid.trans (fr5.up frF).hid), R5, (PA3.hs.mono e4).fr fr5 frF fun b z z2 => PO.own b z2 z, W, PA3.r⟩
          have hB5 := (hB3.mono e4).fr fr5 fun z => PO.box p (c1 p z) rfl
          refine (ea_cons (ev_var rfl) (ea_cons (ev_var rfl) (ea_cons (ev_var rfl) ea_nil)) : EvA _ _ H5 [.ref P.a, .ref P.q, .ref t]) H5 (Ex.refl _) _ fun H6 e6 => ?_
          refine sp_due (PA5.mono e6) PO (L5.mono e6) ((dx_at ht3).mono (((Fr.of e4).hid.trans (fr5.up frF).hid).trans (Fr.of e6).hid)) fun r H7 fr7 L7 S7 R7 W7 X7 hd7 => ?_
          rw [due_stuck stk] at S7
          exact q2 _ H7 (Dq.mono hidF_le hd7) (hq H7 ⟨(((fr3.trans (Fr.of e4)).trans (fr5.up fun b z => cm b (c1 b z))).trans (Fr.of e6)).trans (fr7.up cm), (hB5.mono e6).fr fr7 fun z => PO.box p z rfl, L7, ⟨W7, R7, S7, W, PA3.r⟩⟩)
        · obtain ⟨⟨y6', rfl⟩, fr3, hB3, L3, PA3⟩ := hp
          obtain ⟨ds1, hR, hD1⟩ := id PA3.hr
          obtain ⟨⟨dx, st, ul, bl, dt, kvs, hS⟩, hF, hC⟩ := id hR
          have x1 := hidF_le _ _ hS.hx
          refine s_ret (v := .bl true) (ev_is (ev_andV (a := true) (b := true) (ev_call' (ea_cons (ev_var rfl) (ea_cons (ev_var rfl) (ea_cons (ev_var rfl) (ea_cons ev_c ea_nil)))) fun H4 e4 Q q => ⟨F, P.a, P.x, P.q, P.w, P.ad1, P.ad2, s, 0, rfl, (world PA3).mono e4, PA3.hr.mono e4, PA3.hs.mono e4, W, PA3.r, q⟩) fun _ => ev_op (ev_prop (v := .bl true) (ev_var rfl) x1 fun H4 e4 Q q => ⟨F, P.x, P.w, P.ad1, ctOf P.w s ds1, rfl, hR.mono e4, by omega, fun h hh => ?_, by omega, ?_⟩) ev_c fun H4 e4 Q q => ⟨true, true, rfl, rfl, q H4 (Ex.refl _)⟩) rfl) fun H4 e4 => hQ H4 s (((fr0.trans (Fr.of e2)).trans fr3).trans (Fr.of e4)) (hB3.mono e4) (L3.mono e4) (PA3.mono e4)
          · show ((s.bk h).map natV).length ≤ 1000
            rw [List.length_map]
            have := I.few W.ok hh
            omega
          · have e : ((List.range P.w.n).all fun h => decide ((ctOf P.w s ds1 (.bk h)).length = P.w.hs.length)) = true := by
              rw [List.all_eq_true]
              intro h hh
              refine decide_eq_true ?_
              show ((s.bk h).map natV).length = _
              rw [List.length_map]
              exact I.full W.ok stk (List.mem_range.mp hh)
            rw [e]
            exact q
end
end Tr

set_option maxHeartbeats 4000000
/-! ### trees, stores and runnings of a world (law k04), for _law_right -/
namespace Tr
open PySem PySem.Spec PyProof.Rows L2 LK Evl
section
variable {K : PySem.W.Frag} {C CS CR : Addr} {F F0 N : Addr → Prop} {H H2 : Hp} {p a x : Addr} {m n : Nat} {ps : List (Nat × Nat)} {xs : List V} {hs cs : List Nat}
theorem Bx.no_tup (h : Bx H p m) (r : Rd H p (.tup xs)) : False := by
  obtain ⟨g, mm, c, b, hp, _⟩ := h
  rcases r with r | ⟨o, r⟩
  · rw [hp] at r; cases r
  · rw [hp] at r; cases r
theorem sqT_hid (hB : Bx H p m) (h : SqT K H a xs) : SqT K (hidF (One p) H) a xs := by
  rcases h with h | h
  · refine .inl ?_
    have ne : a ≠ p := fun z => by subst z; exact hB.no_tup h
    rcases h with h | ⟨o, h⟩
    · exact .inl (by rw [hd1_ne ne]; exact h)
    · exact .inr ⟨o, by rw [hd1_ne ne]; exact h⟩
  · exact .inr h
theorem TreeAt.hid1 (hB : Bx H p m) (h : TreeAt K C H x n ps) (n1 : 1 ≤ n) : TreeAt K C (hidF (One p) H) x n ps := by
  obtain ⟨dx, rt, l, us, ts, wl, h1, h2, h3, h4, h5, ⟨h6, h7⟩, ws, y1, y2⟩ := h
  obtain ⟨g, mm, c, b, hp, _⟩ := id hB
  have nx : x ≠ p := fun z => by rw [z, hp] at h1; cases h1
  have nl : l ≠ p := fun z => by
    rw [z, hp] at h5
    have e := Option.some.inj h5
    injection e with e
    subst e
    obtain ⟨q, st, e, _⟩ := h7 0 (.int g) rfl
    cases e
  have nlst : ∀ {z : Addr} {xs : List V}, H z = some (.lst xs) → xs[0]? ≠ some (.int g) → z ≠ p := fun {z xs} h1 h2 e => by
    rw [e, hp] at h1
    have e := Option.some.inj h1
    injection e with e
    subst e
    exact h2 rfl
  have row : ∀ {q : Addr} {st : List (Option Nat)}, H q = some (.lst (st.map optV)) → q ≠ p := fun {q st} hq z => by
    rw [z, hp] at hq
    have e := Option.some.inj hq
    injection e with e
    cases st with
    | nil => cases e
    | cons a r =>
      cases r with
      | nil => simp at e
      | cons b' r =>
        simp only [List.map_cons, List.cons.injEq] at e
        have z2 := e.2.1
        cases b' <;> simp [optV] at z2
  refine ⟨dx, rt, l, us, ts, wl, by rw [hd1_ne nx]; exact h1, sqT_hid hB h2, h3, fun i t p' a b => sqT_hid hB (h4 i t p' a b), by rw [hd1_ne nl]; exact h5, ⟨h6, fun i v hv => ?_⟩, ws, ?_, y2.1, fun i v hv => ?_⟩
  · obtain ⟨q, st, e, hq, d⟩ := h7 i v hv
    exact ⟨q, st, e, by rw [hd1_ne (row hq)]; exact hq, d⟩
  · rw [hd1_ne (nlst y1 fun z => by
      obtain ⟨_, _, _, _, _, _, e, _⟩ := y2.2 0 _ z
      cases e)]
    exact y1
  · obtain ⟨q0, st, q, rs, z1, z2, z3, z4, z5, z6⟩ := y2.2 i v hv
    refine ⟨q0, st, q, rs, z1, by rw [hd1_ne (row z2)]; exact z2, z3, ?_, z5, fun h r hr => ?_⟩
    · rw [hd1_ne (nlst z4 fun z => by
        obtain ⟨_, _, e, _⟩ := z6 0 _ z
        cases e)]
      exact z4
    · obtain ⟨p', w', u1, u2, u3⟩ := z6 h r hr
      exact ⟨p', w', u1, by rw [hd1_ne (fun z => by rw [z, hp] at u2; cases u2)]; exact u2, u3⟩
theorem StoreAt.hid1 (hB : Bx H p m) (h : StoreAt K C CS H x n ps hs cs) (n1 : 1 ≤ n) : StoreAt K C CS (hidF (One p) H) x n ps hs cs := by
  obtain ⟨dx, tr, ht, ct, h1, h2, h3, h4⟩ := h
  obtain ⟨g, mm, c, b, hp, _⟩ := id hB
  have nx : x ≠ p := fun z => by rw [z, hp] at h1; cases h1
  exact ⟨dx, tr, ht, ct, by rw [hd1_ne nx]; exact h1, h2.hid1 hB n1, sqT_hid hB h3, sqT_hid hB h4⟩
theorem tps_dq : ∀ {ps : List (Nat × Nat)} {us : List V}, Tps H ps us → DqAll H us (ps.map prD)
  | _, _, .nil => .nil
  | _, _, .cons ⟨t, e, ht⟩ r => by
    subst e
    exact .cons (.tup ht (.cons (.int _) (.cons (.int _) .nil))) (tps_dq r)
theorem made_ex {A B : Hp} {x dx : Addr} {o : HO} (nx : A x = none) (nd : A dx = none) (b : But x (upd (upd A dx (.own x)) x o) B) : Ex A B := fun a u e => b a u (ne_of_none e nx) (by rw [upd_ne (ne_of_none e nx), upd_ne (ne_of_none e nd)]; exact e)
theorem made_ex0 {A : Hp} {x dx : Addr} {o : HO} (nx : A x = none) (nd : A dx = none) : Ex A (upd (upd A dx (.own x)) x o) := fun a u e => by rw [upd_ne (ne_of_none e nx), upd_ne (ne_of_none e nd)]; exact e
theorem mk_tree {σ : L2.St} {w : Km.W} {r : Addr} {ta : TA} {E : XK} (W : Wd w) (hd : Dq H (.ref r) (.list (w.ps.map prD))) (he : EvA ta σ H [.int (w.n : Int), .ref r]) : EvP (tMake C (spInit K C) [] E ta) σ H fun v H2 => ∃ x, v = .ref x ∧ H x = none ∧ TreeAt K C H2 x w.n w.ps := fun H1 e Q q =>
  he H1 e _ fun H2 e2 x dx nx nd ne => ⟨x, dx, w.n, .ref r, .list (w.ps.map prD), w.ps, rfl, upd_same, Dq.mono ((e.trans e2).trans (made_ex0 nx nd)) hd, rfl, W.right, W.ok.pos, W.ok.most, fun t h ht hh => W.joined t h ht hh, fun H3 b T => ⟨rfl, q _ H3 (e2.trans (made_ex nx nd b)) ⟨x, rfl, fresh_back (e.trans e2) nx, T⟩⟩⟩
theorem mk_store {σ : L2.St} {w : Km.W} {a : Addr} {t1 t2 t3 : TE} {ta : TA} {rr hh cc : Addr} {ts : List V} (W : Wd w) (w2 : H rr = some (.lst ts)) (w3 : Tps H w.ps ts) (w4 : H hh = some (.lst (w.hs.map natV))) (w5 : H cc = some (.lst (w.cs.map natV)))
    (he : EvA ta σ H [.int (w.n : Int), .ref rr]) (h2 : Ev t2 σ H (.ref hh)) (h3 : Ev t3 σ H (.ref cc)) : EvP (tMakeN CS 2 1 (spInitS K C CS) (fun vs zs => vs ++ zs) E0 (tCons (tMake C (spInit K C) [] E0 ta) (tCons t2 tNil)) (tCons t3 tNil)) σ H fun v H2 => ∃ x, v = .ref x ∧ H x = none ∧ StoreAt K C CS H2 x w.n w.ps w.hs w.cs := fun H1 e Q q => by
    have T := mk_tree (K := K) (C := C) (E := E0) W (.lst w2 (tps_dq w3)) he
    show tMake C (spInit K C) [] E0 ta σ H1 (fun v Ha => tCons t2 tNil σ Ha fun vs Hb => tCons t3 tNil σ Hb fun zs Hc => (v :: vs).length = 2 ∧ zs.length = 1 ∧ ∀ x dx, Hc x = none → Hc dx = none → dx ≠ x → spInitS K C CS ((V.ref x :: v :: vs) ++ zs) (upd (upd Hc dx (.own x)) x (.ins CS dx [])) (fun v H3 => v = .non ∧ Q (.ref x) H3) E0)
    refine T H1 e _ fun v H2 e2 hv => ?_
    obtain ⟨tr, rfl, ntr, hT⟩ := hv
    refine h2 H2 (e.trans e2) _ fun H3 e3 => ?_
    refine h3 H3 ((e.trans e2).trans e3) _ fun H4 e4 => ⟨rfl, rfl, fun x dx nx nd ne => ?_⟩
    have e04 := ((e.trans e2).trans e3).trans e4
    have e5 := made_ex0 (o := .ins CS dx []) nx nd
    exact ⟨x, dx, tr, w.n, w.ps, .ref hh, .ref cc, .list (w.hs.map natD), .list (w.cs.map natD), w.hs, w.cs, rfl, upd_same, hT.mono ((e3.trans e4).trans e5), .lst ((e04.trans e5) _ _ w4) (dqN _), .lst ((e04.trans e5) _ _ w5) (dqN _), rfl, rfl, W.ok.pos, W.ok.hm, W.ok.c6, W.ok.few, W.ok.cl, fun H5 b S => ⟨rfl, q _ H5 (((e2.trans e3).trans e4).trans (made_ex nx nd b)) ⟨x, rfl, fresh_back e04 nx, S⟩⟩⟩
/-- Running(store=store) -/
theorem mk_runK {σ : L2.St} {st : Addr} {w : Km.W} {ta : TA} {Q : VK} {E : XK} (hSt : StoreAt K C CS (hidF F0 H) st w.n w.ps w.hs w.cs) (hL : Live F0 H) (W : Wd w) (he : EvA ta σ H [.ref st])
    (q : ∀ x H2 ad, Ex H H2 → H x = none → (∀ s : Slot, s.ok w true → H (ad s) = none) → Live (fun a => F0 a ∨ In w true ad a) H2 → RunAt K C CS CR (fun a => F0 a ∨ In w true ad a) H2 x w ad Km.begun → Q (.ref x) H2) : tMakeK CR 0 1 (spInitR K C CS CR) (fun vs zs => vs ++ zs) E tNil ta σ H Q :=
  he H (Ex.refl H) _ fun H1 e1 => ⟨rfl, rfl, fun x dx nx nd ne => by
    have := mk_run (K := K) (C := C) (CS := CS) (CR := CR) (σ := σ) (H := H1) (F0 := F0) (st := st) (w := w) (ta := tCons (tC (.ref st)) tNil) (Q := Q) (E := E) (hSt.mono (Fr.of e1).hid) (hL.mono e1) W (ea_cons ev_c ea_nil) fun x H2 ad e2 n0 n1 l r => q x H2 ad (e1.trans e2) (fresh_back e1 n0) (fun s ok => fresh_back e1 (n1 s ok)) l r
    exact this x dx nx nd ne⟩
theorem RunAt.more {w : Km.W} {ad : Slot → Addr} {s : Km.S} (h : RunAt K C CS CR F0 H x w ad s) (e : Ex H H2) (n : ∀ a, N a → H a = none) : RunAt K C CS CR (fun a => F0 a ∨ N a) H2 x w ad s := by
  obtain ⟨ds, ⟨⟨dx, st, ul, bl, dt, kvs, h1⟩, h2, h3⟩, h4⟩ := h
  exact ⟨ds, ⟨⟨dx, st, ul, bl, dt, kvs, h1.mono (hid_more e n)⟩, fun a z => .inl (h2 a z), h3.mono e⟩, DqAll.mono (hid_more e n) h4⟩
theorem StAt.more {q : Addr} {w : Km.W} {ad : Slot → Addr} {s : Km.S} (h : StAt F0 H q w ad s) (e : Ex H H2) (n : ∀ a, N a → H a = none) : StAt (fun a => F0 a ∨ N a) H2 q w ad s := by
  obtain ⟨ds, ⟨⟨bl, dt, kvs, h1⟩, h2, h3⟩, h4⟩ := h
  exact ⟨ds, ⟨⟨bl, dt, kvs, h1.mono (hid_more e n)⟩, fun a z => .inl (h2 a z), h3.mono e⟩, DqAll.mono (hid_more e n) h4⟩
theorem PlAt.more {P : Pl} {s : Km.S} (h : PlAt K C CS CR F0 H P s) (e : Ex H H2) (n : ∀ a, N a → H a = none) : PlAt K C CS CR (fun a => F0 a ∨ N a) H2 P s := ⟨h.hw.mono (hid_more e n), h.hr.more e n, h.hs.more e n, h.W, h.r⟩
end
end Tr

set_option maxHeartbeats 4000000
/-! ### what is hidden grows (law k04), for _law_right -/
namespace Tr
open PySem PySem.Spec PyProof.Rows L2 LK Evl
/-- more is there, and more may change, all of that new -/
structure Up (F : Addr → Prop) (H : Hp) (G : Addr → Prop) (H2 : Hp) : Prop where
  ex : Ex H H2
  hid : Ex (hidF F H) (hidF G H2)
  sub : ∀ a, F a → G a
  new : ∀ a, G a → F a ∨ H a = none
section
variable {K : PySem.W.Frag} {C CS CR : Addr} {F G N : Addr → Prop} {H H2 H3 : Hp} {p a x : Addr} {σ : L2.St} {ta tb te tl : TE} {tr tA : TA} {D : Ends} {tz tu : TS}
theorem Up.of (e : Ex H H2) : Up F H F H2 := ⟨e, (Fr.of e).hid, fun _ z => z, fun _ z => .inl z⟩
theorem Up.trans {G2 : Addr → Prop} (h : Up F H G H2) (k : Up G H2 G2 H3) : Up F H G2 H3 := ⟨h.ex.trans k.ex, h.hid.trans k.hid, fun a z => k.sub a (h.sub a z), fun a z => by
  rcases k.new a z with z | z
  · exact h.new a z
  · exact .inr (fresh_back h.ex z)⟩
theorem Up.more (e : Ex H H2) (n : ∀ a, N a → H a = none) : Up F H (fun a => F a ∨ N a) H2 := ⟨e, hid_more e n, fun _ z => .inl z, fun a z => z.imp id (n a)⟩
theorem RunAt.to {w : Km.W} {ad : Slot → Addr} {s : Km.S} (h : RunAt K C CS CR F H x w ad s) (u : Up F H G H2) : RunAt K C CS CR G H2 x w ad s := by
  obtain ⟨ds, ⟨⟨dx, st, ul, bl, dt, kvs, h1⟩, h2, h3⟩, h4⟩ := h
  exact ⟨ds, ⟨⟨dx, st, ul, bl, dt, kvs, h1.mono u.hid⟩, fun a z => u.sub a (h2 a z), h3.mono u.ex⟩, DqAll.mono u.hid h4⟩
theorem StAt.to {q : Addr} {w : Km.W} {ad : Slot → Addr} {s : Km.S} (h : StAt F H q w ad s) (u : Up F H G H2) : StAt G H2 q w ad s := by
  obtain ⟨ds, ⟨⟨bl, dt, kvs, h1⟩, h2, h3⟩, h4⟩ := h
  exact ⟨ds, ⟨⟨bl, dt, kvs, h1.mono u.hid⟩, fun a z => u.sub a (h2 a z), h3.mono u.ex⟩, DqAll.mono u.hid h4⟩
theorem PlAt.to {P : Pl} {s : Km.S} (h : PlAt K C CS CR F H P s) (u : Up F H G H2) : PlAt K C CS CR G H2 P s := ⟨h.hw.mono u.hid, h.hr.to u, h.hs.to u, h.W, h.r⟩
theorem RunAt.cF {w : Km.W} {ad : Slot → Addr} {s : Km.S} (h : RunAt K C CS CR F H x w ad s) : ∀ b, In w true ad b → F b := by
  obtain ⟨_, ⟨_, z, _⟩, _⟩ := h
  exact z
theorem StAt.cF {q : Addr} {w : Km.W} {ad : Slot → Addr} {s : Km.S} (h : StAt F H q w ad s) : ∀ b, In w false ad b → F b := by
  obtain ⟨_, ⟨_, z, _⟩, _⟩ := h
  exact z
theorem in_none {w : Km.W} {r : Bool} {ad : Slot → Addr} (n : ∀ s : Slot, s.ok w r → H (ad s) = none) : ∀ b, In w r ad b → H b = none := fun b z => by
  obtain ⟨s, ok, rfl⟩ := z
  exact n s ok
theorem up_run {st : Addr} {w : Km.W} {Q : VK} {E : XK} (hSt : StoreAt K C CS (hidF F H) st w.n w.ps w.hs w.cs) (hL : Live F H) (W : Wd w) (he : EvA tA σ H [.ref st])
    (q : ∀ x H2 ad G, Up F H G H2 → Live G H2 → RunAt K C CS CR G H2 x w ad Km.begun → (∀ b, In w true ad b → ¬ F b) → Q (.ref x) H2) : tMake CR (spInitR K C CS CR) [] E tA σ H Q :=
  mk_run hSt hL W he fun x H2 ad e nx n L R => q x H2 ad _ (Up.more e (in_none n)) L R fun b z => hL.new (in_none n b z)
theorem up_runK {st : Addr} {w : Km.W} {Q : VK} {E : XK} (hSt : StoreAt K C CS (hidF F H) st w.n w.ps w.hs w.cs) (hL : Live F H) (W : Wd w) (he : EvA tA σ H [.ref st])
    (q : ∀ x H2 ad G, Up F H G H2 → Live G H2 → RunAt K C CS CR G H2 x w ad Km.begun → (∀ b, In w true ad b → ¬ F b) → Q (.ref x) H2) : tMakeK CR 0 1 (spInitR K C CS CR) (fun vs zs => vs ++ zs) E tNil tA σ H Q :=
  mk_runK hSt hL W he fun x H2 ad e nx n L R => q x H2 ad _ (Up.more e (in_none n)) L R fun b z => hL.new (in_none n b z)
theorem up_begun {w : Km.W} {Q : VK} {E : XK} (hw : WorldAt H a w) (W : Wd w) (hL : Live F H) (q : ∀ y H2 ad G, Up F H G H2 → Live G H2 → StAt G H2 y w ad Km.begun → (∀ b, In w false ad b → ¬ F b) → Q (.ref y) H2) : spBegun K [.ref a] H Q E :=
  ⟨F, a, w, rfl, hw, W, hL, fun y H2 ad e ny n L S => q y H2 ad _ (Up.more e (in_none n)) L S fun b z => hL.new (in_none n b z)⟩
theorem up_copy {y0 : Addr} {w : Km.W} {ad0 : Slot → Addr} {s : Km.S} {Q : VK} {E : XK} (hw : WorldAt (hidF F H) a w) (hS : StAt F H y0 w ad0 s) (W : Wd w) (r : Km.Run w s) (hL : Live F H) (q : ∀ y H2 ad G, Up F H G H2 → Live G H2 → StAt G H2 y w ad s → (∀ b, In w false ad b → ¬ F b) → Q (.ref y) H2) : spCopy K [.ref a, .ref y0] H Q E :=
  ⟨F, a, y0, w, ad0, s, rfl, hw, hS, hL, W, r, fun y H2 ad e ny n L S => q y H2 ad _ (Up.more e (in_none n)) L S fun b z => hL.new (in_none n b z)⟩
theorem up_runF {st l : Addr} {w : Km.W} {ts : List V} {ds : List Km.Dd} {s : Km.S} {Q : VK} {E : XK} (hSt : StoreAt K C CS (hidF F H) st w.n w.ps w.hs w.cs) (hL : Live F H) (W : Wd w) (hl : H l = some (.lst ts)) (hd : Deeds H ts ds) (lz : ds.length ≤ 400) (pa : Km.Path w Km.begun ds s)
    (q : ∀ x H2 ad G, Up F H G H2 → Live G H2 → RunAt K C CS CR G H2 x w ad s → (∀ b, In w true ad b → ¬ F b) → Q (.ref x) H2) : spRunF K C CS CR [.ref st, .ref l] H Q E :=
  ⟨F, st, l, w, ts, ds, s, rfl, hSt, W, hL, hl, hd, lz, pa, fun x H2 ad e n L R => q x H2 ad _ (Up.more e (in_none n)) L R fun b z => hL.new (in_none n b z)⟩
/-! shapes, one step at a time -/
theorem a_te {Q : List V → Hp → Prop} (h : te σ H fun v H1 => tr σ H1 fun vs H2 => Q (v :: vs) H2) : tCons te tr σ H Q := h
theorem a_nil {Q : List V → Hp → Prop} (h : Q [] H) : tNil σ H Q := h
theorem a_call {Q : List V → Hp → Prop} {sp : Sp} {dvs : List V} {E : XK} {vs : List V} (h : EvA tA σ H vs) (k : ∀ H1, Ex H H1 → sp (vs ++ dvs) H1 (fun v H2 => tr σ H2 fun us H3 => Q (v :: us) H3) E) : tCons (tCall sp dvs E tA) tr σ H Q := h H (Ex.refl H) _ k
theorem q_asgI {i : Nat} (h : te σ H fun v H1 => tz D (σ.set i (some v)) H1) : tSeq (tAsg te (gName i)) tz D σ H := h
theorem q_par2H {i j : Nat} (h : tA σ H fun vs H1 => ∃ v w, vs = [v, w] ∧ tz D ((σ.set i (some v)).set j (some w)) H1) : tSeq (tPar i j tA) tz D σ H := h
theorem e_lst {Q : VK} (h : tA σ H fun vs H1 => vs.length ≤ sizeLine ∧ ∀ p, H1 p = none → Q (.ref p) (upd H1 p (.lst vs))) : tLst tA σ H Q := h
/-- not f(..) or not g(..), both True -/
theorem t_or2 {Q' : Bool → Hp → Prop} (PA : Hp → Prop) (h1 : ∀ Q : VK, (∀ H1, PA H1 → Q (.bl true) H1) → ta σ H Q) (h2 : ∀ H1, PA H1 → ∀ Q : VK, (∀ H2, Q' false H2 → Q (.bl true) H2) → tb σ H1 Q) : tOr (tNot (tB ta)) (tNot (tB tb)) σ H Q' := h1 _ fun H1 p1 => ⟨true, rfl, h2 H1 p1 _ fun H2 q => ⟨true, rfl, q⟩⟩
theorem store_of {iw : Nat} {w : Km.W} (hw : WorldAt H a w) (W : Wd w) (s1 : σ[iw]? = some (some (.ref a))) : EvP (tMakeN CS 2 1 (spInitS K C CS) (fun vs zs => vs ++ zs) E0 (tCons (tMake C (spInit K C) [] E0 (tCons (tOp (rIxL K) (tVar iw) (tC (.int 0))) (tCons (tOp (rIxL K) (tVar iw) (tC (.int 1))) tNil))) (tCons (tOp (rIxL K) (tVar iw) (tC (.int 2))) tNil)) (tCons (tOp (rIxL K) (tVar iw) (tC (.int 3))) tNil)) σ H fun v H2 => ∃ x, v = .ref x ∧ H x = none ∧ StoreAt K C CS H2 x w.n w.ps w.hs w.cs := by
  obtain ⟨rr, hh, cc, ts, wa, w2, w3, w4, w5⟩ := hw
  exact mk_store (a := a) (t1 := tVar 0) W w2 w3 w4 w5 (ea_cons (ev_op (ev_var s1) ev_c (rv_ixL (v := natV w.n) (sq_of wa) rfl)) (ea_cons (ev_op (ev_var s1) ev_c (rv_ixL (v := .ref rr) (sq_of wa) rfl)) ea_nil)) (ev_op (ev_var s1) ev_c (rv_ixL (v := .ref hh) (sq_of wa) rfl)) (ev_op (ev_var s1) ev_c (rv_ixL (v := .ref cc) (sq_of wa) rfl))
end
end Tr

set_option maxHeartbeats 4000000
/-! ### all of it in one world and one beside (law k04): _law_right -/
namespace Tr
open PySem PySem.Spec PyProof.Rows L2 LK Evl
abbrev sRight : Stmt := top 68
abbrev nRight : List Str := ["box", "great", "turn", "world", "beside", "store", "other", "runnings", "worlds", "states", "k", "again", "state"]
theorem scRight : FnScope nRight ["box", "great"] (defScope sRight) := ⟨rfl, rfl, rfl, by decide +kernel, rfl, by decide +kernel, by decide +kernel⟩
def spRightL : Sp := fun vs H Q _ => ∃ (p : Addr) (g : Bool) (m : Nat), vs = [.ref p, .bl g] ∧ Bx H p m ∧ m ≤ 1000 ∧ ∀ H2, Fr (One p) H H2 → Q (.bl true) H2
def pl3 (A B D : Pl) : Nat → Pl
  | 0 => A
  | 1 => B
  | _ => D
theorem fr_new {A B D : Hp} {p : Addr} {G : Addr → Prop} (h : Fr (One p) A B) (k : Fr G B D) (n : ∀ z, G z → z = p ∨ A z = none) : Fr (One p) A D := fun z o np e => k z o (fun g => by
  rcases n z g with c | c
  · exact np c
  · rw [c] at e; cases e) (h z o np e)
theorem ev_opR {σ : L2.St} {H : Hp} {ta tb : TE} {r : R2} {PP : V → Hp → Prop} {x z : V} (ha : Ev ta σ H x) (h : EvP tb σ H PP) (hr : ∀ v H2, Ex H H2 → PP v H2 → RV r x v H2 z) : Ev (tOp r ta tb) σ H z := fun H1 e Q q =>
  ha H1 e _ fun H2 e2 => h H2 (e.trans e2) _ fun v H3 e3 pp => hr v H3 ((e.trans e2).trans e3) pp H3 (Ex.refl _) Q fun H4 e4 => q H4 ((e2.trans e3).trans e4)
theorem e_call {σ : L2.St} {H : Hp} {sp : Sp} {dvs : List V} {E : XK} {tA : TA} {Q : VK} (h : tA σ H fun vs H1 => sp (vs ++ dvs) H1 Q E) : tCall sp dvs E tA σ H Q := h
section
variable {P' : Program} {w' : World} {K : PySem.W.Frag} {mg : Str → Option Value} {base : Heap} {C CS CR f f1 f2 f3 f4 f5 f6 f7 f8 f9 fT fS fR fE : Addr} {fd d1 d2 d3 d4 d5 d6 d7 d8 d9 dT dS dR dE : FuncData}
theorem ok_right (F : FnP K "_law_right" sRight f fd) (R : RunCls K CR) (G1 : FnOk P' w' K mg base CX0 1 f1 d1 ["box", "many"] spTake) (k1 : Kd K mg "_law_take" ["box", "many"] f1 d1) (G2 : FnOk P' w' K mg base CX0 3 f2 d2 ["box", "great"] (spWorld K)) (k2 : Kd K mg "_law_world" ["box", "great"] f2 d2)
    (MT : Mk K C fT) (GT : FnOk P' w' K mg base CX0 6 fT dT ["self", "houses", "roads"] (spInit K C)) (bT : Binds K dT ["self", "houses", "roads"] []) (mT : mg "Tree" = some (.ref C))
    (MS : Mk K CS fS) (GS : FnOk P' w' K mg base CX0 4 fS dS ["self", "tree", "homes", "cells"] (spInitS K C CS)) (kS : KBn K dS ["self", "tree", "homes", "cells"] 3 ["cells"] (fun us ws => us ++ ws) (fun vs zs => vs ++ zs)) (mS : mg "Store" = some (.ref CS))
    (MR : Mk K CR fR) (GR : FnOk P' w' K mg base CX0 7 fR dR ["self", "store"] (spInitR K C CS CR)) (bR : Binds K dR ["self", "store"] []) (kR : KBn K dR ["self", "store"] 1 ["store"] (fun us ws => us ++ ws) (fun vs zs => vs ++ zs)) (mR : mg "Running" = some (.ref CR))
    (GE : FnOk P' w' K mg base CX0 3 fE dE ["self", "other"] (spEq (Store2 K C CS))) (bE : Binds K dE ["self", "other"] []) (hsE : PySem.W.findIn K (.ref CS) "__eq__" = some (some (.ref fE))) (hsN : PySem.W.findIn K (.ref CS) "__ne__" = some (some (.builtin "object.__ne__"))) (ob : PySem.W.subIn K (.ref CS) (.type "object") = some true) (hfE : PySem.W.isFn K (.ref fE) = true)
    (G3 : FnOk P' w' K mg base CX0 2 f3 d3 ["world"] (spBegun K)) (k3 : Kd K mg "_law_begun" ["world"] f3 d3) (G4 : FnG P' w' K mg base 9 f4 d4 ["box", "worlds", "runnings", "states", "many", "often"] (spDeeds K C CS CR)) (k4 : Kd K mg "_law_deeds" ["box", "worlds", "runnings", "states", "many", "often"] f4 d4)
    (G5 : FnG P' w' K mg base 8 f5 d5 ["world", "running", "turn"] (spDoors K C CS CR)) (k5 : Kd K mg "_law_doors" ["world", "running", "turn"] f5 d5) (G6 : FnG P' w' K mg base 7 f6 d6 ["world", "running", "state", "turn"] (spIs K C CS CR)) (k6 : Kd K mg "_law_is" ["world", "running", "state", "turn"] f6 d6)
    (G7 : FnOk P' w' K mg base CX0 9 f7 d7 ["store", "script"] (spRunF K C CS CR)) (k7 : Kd K mg "run" ["store", "script"] f7 d7) (G8 : FnOk P' w' K mg base CX0 4 f8 d8 ["world", "state"] (spCopy K)) (k8 : Kd K mg "_law_copy" ["world", "state"] f8 d8)
    (G9 : FnG P' w' K mg base 9 f9 d9 ["box", "world", "running", "state"] (spEnded K C CS CR)) (k9 : Kd K mg "_law_ended" ["box", "world", "running", "state"] f9 d9) (mr : mg "range" = none) (mli : mg "list" = none) : FnG P' w' K mg base 10 f fd ["box", "great"] spRightL := by
  refine fnG (k := 9) (funOf F) scRight (fun vs H Q E h => ?_) fun cdv A outer s0 H0 vs Q hr hg h => ⟨_,
    pss_cons (ps_set (i := 2) scRight.nd rfl (.inl rfl) (pe_call G1 (hr.mono (by decide)) (by rfl) k1.m k1.k k1.b .nil pass0 (pa_cons (pv 0) (pa_cons pe_int pa_nil))))
    (pss_cons (ps_par (i := 3) (j := 4) rfl scRight.nd rfl rfl (by decide) rfl rfl (pa_cons (pe_call G2 (hr.mono (by decide)) (by rfl) k2.m k2.k k2.b .nil pass0 (pa_cons (pv 0) (pa_cons (pv 1) pa_nil))) (pa_cons (pe_call G2 (hr.mono (by decide)) (by rfl) k2.m k2.k k2.b .nil pass0 (pa_cons (pv 0) (pa_cons pe_bl pa_nil))) pa_nil)) rfl)
    (pss_cons (ps_set (i := 5) scRight.nd rfl (.inl rfl) (pe_makeN MS GS (hr.mono (by decide)) (by rfl) mS kS pass0 (pa_cons (pe_make MT GT (hr.mono (by decide)) (by rfl) mT bT .nil pass0 (pa_cons (pe_ix ix_list (pv 3) pe_int (fun _ _ => rfl)) (pa_cons (pe_ix ix_list (pv 3) pe_int (fun _ _ => rfl)) pa_nil))) (pa_cons (pe_ix ix_list (pv 3) pe_int (fun _ _ => rfl)) pa_nil)) (pk_cons (pe_ix ix_list (pv 3) pe_int (fun _ _ => rfl)) pk_nil)))
    (pss_cons (ps_set (i := 6) scRight.nd rfl (.inl rfl) (pe_makeN MS GS (hr.mono (by decide)) (by rfl) mS kS pass0 (pa_cons (pe_make MT GT (hr.mono (by decide)) (by rfl) mT bT .nil pass0 (pa_cons (pe_ix ix_list (pv 4) pe_int (fun _ _ => rfl)) (pa_cons (pe_ix ix_list (pv 4) pe_int (fun _ _ => rfl)) pa_nil))) (pa_cons (pe_ix ix_list (pv 4) pe_int (fun _ _ => rfl)) pa_nil)) (pk_cons (pe_ix ix_list (pv 4) pe_int (fun _ _ => rfl)) pk_nil)))
    (pss_cons (ps_set (i := 7) scRight.nd rfl (.inl rfl) (pe_lst (pa_cons (pe_make MR GR (hr.mono (by decide)) (by rfl) mR bR .nil pass0 (pa_cons (pv 5) pa_nil)) (pa_cons (pe_makeK0 MR GR (hr.mono (by decide)) (by rfl) mR kR pass0 (pk_cons (pv 5) pk_nil)) (pa_cons (pe_make MR GR (hr.mono (by decide)) (by rfl) mR bR .nil pass0 (pa_cons (pv 6) pa_nil)) pa_nil)))))
    (pss_cons (ps_par (i := 8) (j := 9) rfl scRight.nd rfl rfl (by decide) rfl rfl (pa_cons (pe_lst (pa_cons (pv 3) (pa_cons (pv 3) (pa_cons (pv 4) pa_nil)))) (pa_cons (pe_lst (pa_cons (pe_call G3 (hr.mono (by decide)) (by rfl) k3.m k3.k k3.b .nil pass0 (pa_cons (pv 3) pa_nil)) (pa_cons (pe_call G3 (hr.mono (by decide)) (by rfl) k3.m k3.k k3.b .nil pass0 (pa_cons (pv 3) pa_nil)) (pa_cons (pe_call G3 (hr.mono (by decide)) (by rfl) k3.m k3.k k3.b .nil pass0 (pa_cons (pv 4) pa_nil)) pa_nil)))) pa_nil)) rfl)
    (pss_cut (ps_if (pw_or (pt_not (pt_val (pe_callG G4 hr hg k4.m k4.k k4.b (pa_cons (pv 0) (pa_cons (pv 8) (pa_cons (pv 7) (pa_cons (pv 9) (pa_cons pe_int (pa_cons (pe_not (pv 1)) pa_nil))))))))) (pw_or1 (pt_not (pt_val (pe_callG G5 (hr.mono (by decide)) hg k5.m k5.k k5.b (pa_cons (pv 3) (pa_cons (pe_ix ix_list (pv 7) (pv 2) (fun _ _ => rfl)) (pa_cons (pv 2) pa_nil)))))))).pt (pss_one (ps_ret pe_bl)) pss_nil)
    (pss_cons (ps_for PassesOwn.never rfl (pi_range1 (by rfl) mr (pa_cons pe_int pa_nil)) (pg_name (i := 10) scRight.nd rfl (.inl rfl))
      (pss_one (ps_if (pw_or (pt_cmpR (op_neG GE hsE hsN ob hfE bE (hr.mono (by decide)) pass0) (pe_fld (pe_ix ix_list (pv 7) (pv 10) (fun _ _ => rfl)) rfl) (pe_ix ix_list (pe_lst (pa_cons (pv 5) (pa_cons (pv 5) (pa_cons (pv 6) pa_nil)))) (pv 10) (fun _ _ => rfl)) (nomark _))
        (pw_or1 (pt_not (pt_val (pe_callG G6 (hr.mono (by decide)) hg k6.m k6.k k6.b (pa_cons (pe_ix ix_list (pv 8) (pv 10) (fun _ _ => rfl)) (pa_cons (pe_ix ix_list (pv 7) (pv 10) (fun _ _ => rfl)) (pa_cons (pe_ix ix_list (pv 9) (pv 10) (fun _ _ => rfl)) (pa_cons (pv 2) pa_nil))))))))).pt (pss_one (ps_ret pe_bl)) pss_nil)))
    (pss_cons (ps_par (i := 11) (j := 12) rfl scRight.nd rfl rfl (by decide) rfl rfl (pa_cons (pe_call G7 hr (by rfl) k7.m k7.k k7.b .nil pass0 (pa_cons (pv 5) (pa_cons (pe_callTy call_list_of (by rfl) mli (by decide +kernel) (pa_cons (pe_ix ix_list (pe_ix ix_list (pv 9) pe_int (fun _ _ => rfl)) pe_int (fun _ _ => rfl)) pa_nil)) pa_nil))) (pa_cons (pe_call G8 (hr.mono (by decide)) (by rfl) k8.m k8.k k8.b .nil pass0 (pa_cons (pv 3) (pa_cons (pe_ix ix_list (pv 9) pe_int (fun _ _ => rfl)) pa_nil))) pa_nil)) rfl)
    (pss_cut (ps_if (pw_or (pt_not (pt_val (pe_callG G6 (hr.mono (by decide)) hg k6.m k6.k k6.b (pa_cons (pv 3) (pa_cons (pv 11) (pa_cons (pv 12) (pa_cons (pv 2) pa_nil))))))) (pw_or1 (pt_not (pt_val (pe_callG G4 hr hg k4.m k4.k k4.b (pa_cons (pv 0) (pa_cons (pe_lst (pa_cons (pv 3) pa_nil)) (pa_cons (pe_lst (pa_cons (pv 11) pa_nil)) (pa_cons (pe_lst (pa_cons (pv 12) pa_nil)) (pa_cons pe_int (pa_cons pe_bl pa_nil))))))))))).pt (pss_one (ps_ret pe_bl)) pss_nil)
    (pss_cut (ps_if (pw_or (pt_not (pt_val (pe_callG G9 hr hg k9.m k9.k k9.b (pa_cons (pv 0) (pa_cons (pv 4) (pa_cons (pe_ix ix_list (pv 7) pe_int (fun _ _ => rfl)) (pa_cons (pe_ix ix_list (pv 9) pe_int (fun _ _ => rfl)) pa_nil))))))) (pw_or1 (pt_not (pt_val (pe_callG G6 (hr.mono (by decide)) hg k6.m k6.k k6.b (pa_cons (pv 3) (pa_cons (pe_ix ix_list (pv 7) pe_int (fun _ _ => rfl)) (pa_cons (pe_ix ix_list (pv 9) pe_int (fun _ _ => rfl)) (pa_cons (pv 2) pa_nil))))))))).pt (pss_one (ps_ret pe_bl)) pss_nil)
    (pss_cons (ps_if (pt_cmpR (op_neG GE hsE hsN ob hfE bE (hr.mono (by decide)) pass0) (pv 5) (pe_makeN MS GS (hr.mono (by decide)) (by rfl) mS kS pass0 (pa_cons (pe_make MT GT (hr.mono (by decide)) (by rfl) mT bT .nil pass0 (pa_cons (pe_ix ix_list (pv 3) pe_int (fun _ _ => rfl)) (pa_cons (pe_ix ix_list (pv 3) pe_int (fun _ _ => rfl)) pa_nil))) (pa_cons (pe_ix ix_list (pv 3) pe_int (fun _ _ => rfl)) pa_nil)) (pk_cons (pe_ix ix_list (pv 3) pe_int (fun _ _ => rfl)) pk_nil)) (nomark _)) (pss_one (ps_ret pe_bl)) pss_nil)
    (pss_one (ps_ret (pe_and (pe_callG G6 (hr.mono (by decide)) hg k6.m k6.k k6.b (pa_cons (pv 3) (pa_cons (pe_ix ix_list (pv 7) pe_int (fun _ _ => rfl)) (pa_cons (pe_ix ix_list (pv 9) pe_int (fun _ _ => rfl)) (pa_cons (pv 2) pa_nil))))) (pe_one (pe_callG G6 (hr.mono (by decide)) hg k6.m k6.k k6.b (pa_cons (pv 3) (pa_cons (pv 11) (pa_cons (pv 12) (pa_cons (pv 2) pa_nil)))))))))))))))))))), ?_⟩
  · obtain ⟨p, g, m, rfl, _⟩ := h
    rfl
  · obtain ⟨p, g, m, rfl, hB, hm, hQ⟩ := h
    refine q_draw (i := 0) rfl ev_c hB (by omega) (by decide) (by decide) fun tn H1 htn fr1 hB1 => ?_
    -- the worlds
    refine q_par2H (a_call (vs := [.ref p, .bl g]) (ea_cons (ev_var rfl) (ea_cons (ev_var rfl) ea_nil)) fun H2 e2 => ?_)
    refine ⟨p, g, m + 1, rfl, hB1.mono e2, by omega, fun a w H3 na fr3 hB3 hw W => ?_⟩
    refine a_call (vs := [.ref p, .bl false]) (ea_cons (ev_var rfl) (ea_cons ev_c ea_nil)) fun H4 e4 => ?_
    refine ⟨p, false, m + 1 + 80, rfl, hB3.mono e4, by omega, fun b v H5 nb fr5 hB5 hv Vw => a_nil ⟨_, _, rfl, ?_⟩⟩
    have hw5 : WorldAt (hidF (One p) H5) a w := hw.mono ((Fr.of e4).hid.trans fr5.hid)
    have fr05 : Fr (One p) H0 H5 := (((fr1.trans (Fr.of e2)).trans fr3).trans (Fr.of e4)).trans fr5
    clear fr1 hB1 e2 na fr3 hB3 hw e4 nb fr5
    -- the stores
    refine q_asgP (store_of (iw := 3) (hw5.mono hidF_le) W rfl) fun y H6 e6 hy => ?_
    obtain ⟨st, rfl, nst, hst⟩ := hy
    refine q_asgP (store_of (iw := 4) ((hv.mono hidF_le).mono e6) Vw rfl) fun y H7 e7 hy => ?_
    obtain ⟨ot, rfl, not', hot⟩ := hy
    have hB7 := (hB5.mono e6).mono e7
    have S7 : StoreAt K C CS (hidF (One p) H7) st w.n w.ps w.hs w.cs := (hst.mono e7).hid1 hB7 W.ok.pos
    have O7 : StoreAt K C CS (hidF (One p) H7) ot v.n v.ps v.hs v.cs := hot.hid1 hB7 Vw.ok.pos
    have L7 : Live (One p) H7 := fun b z => by rw [show b = p from z]; exact hB7.some
    have hw7 : WorldAt (hidF (One p) H7) a w := hw5.mono (Fr.of (e6.trans e7)).hid
    have hv7 : WorldAt (hidF (One p) H7) b v := hv.mono (Fr.of (e6.trans e7)).hid
    have fr07 : Fr (One p) H0 H7 := fr05.trans (Fr.of (e6.trans e7))
    clear nst hst not' hot e6 e7 hw5 hv hB5 fr05
    -- the runnings
    refine q_asgI (e_lst (a_te ?_))
    refine up_run S7 L7 W (ea_cons (ev_var rfl) ea_nil) fun x1 H8 c1 F1 u1 L8 R1 n1 => a_te ?_
    refine up_runK (S7.mono u1.hid) L8 W (ea_cons (ev_var rfl) ea_nil) fun x2 H9 c2 F2 u2 L9 R2 n2 => a_te ?_
    refine up_run (O7.mono (u1.trans u2).hid) L9 Vw (ea_cons (ev_var rfl) ea_nil) fun x3 H10 c3 F3 u3 L10 R3 n3 => a_nil ⟨Nat.le_of_ble_eq_true rfl, fun lr nlr => ?_⟩
    have u4 : Up F3 H10 F3 (upd H10 lr (.lst [.ref x1, .ref x2, .ref x3])) := Up.of (Ex.new nlr)
    have hlr : hidF F3 (upd H10 lr (.lst [.ref x1, .ref x2, .ref x3])) lr = some (.lst [.ref x1, .ref x2, .ref x3]) := by rw [hidF_eq (L10.new nlr)]; exact upd_same
    have L11 := L10.mono u4.ex
    generalize upd H10 lr (.lst [.ref x1, .ref x2, .ref x3]) = H11 at u4 hlr L11 ⊢
    -- worlds and states
    refine q_par2H (a_te ?_)
    refine (el_lst (ea_cons (ev_var rfl) (ea_cons (ev_var rfl) (ea_cons (ev_var rfl) ea_nil))) (by show 3 ≤ 100000; decide) : EvL _ _ H11 [.ref a, .ref a, .ref b]) H11 (Ex.refl _) _ fun lw H12 nlw e12 hlw' => a_te (e_lst ?_)
    have u5 : Up F3 H11 F3 H12 := Up.of e12
    have hlw : hidF F3 H12 lw = some (.lst [.ref a, .ref a, .ref b]) := by rw [hidF_eq (L11.new nlw)]; exact hlw'
    have U7 : Up (One p) H7 F3 H12 := u1.trans (u2.trans (u3.trans (u4.trans u5)))
    have L12 := L11.mono e12
    refine a_call (vs := [.ref a]) (ea_cons (ev_var rfl) ea_nil) fun H13 e13 => ?_
    refine up_begun (F := F3) (((hw7.mono U7.hid).mono hidF_le).mono e13) W (L12.mono e13) fun q1 H14 k1s F4 u6 L14 T1 n4 => ?_
    have U13 : Up F3 H12 F4 H14 := (Up.of e13).trans u6
    refine a_call (vs := [.ref a]) (ea_cons (ev_var rfl) ea_nil) fun H15 e15 => ?_
    refine up_begun (F := F4) (((hw7.mono (U7.trans U13).hid).mono hidF_le).mono e15) W (L14.mono e15) fun q2 H16 k2s F5 u7 L16 T2 n5 => ?_
    have U15 : Up F4 H14 F5 H16 := (Up.of e15).trans u7
    refine a_call (vs := [.ref b]) (ea_cons (ev_var rfl) ea_nil) fun H17 e17 => ?_
    refine up_begun (F := F5) (((hv7.mono (U7.trans (U13.trans U15)).hid).mono hidF_le).mono e17) Vw (L16.mono e17) fun q3 H18 k3s F6 u8 L18 T3 n6 => a_nil ⟨Nat.le_of_ble_eq_true rfl, fun ls nls => a_nil ⟨_, _, rfl, ?_⟩⟩
    have U17 : Up F5 H16 F6 H18 := (Up.of e17).trans u8
    have u9 : Up F6 H18 F6 (upd H18 ls (.lst [.ref q1, .ref q2, .ref q3])) := Up.of (Ex.new nls)
    have hls : hidF F6 (upd H18 ls (.lst [.ref q1, .ref q2, .ref q3])) ls = some (.lst [.ref q1, .ref q2, .ref q3]) := by rw [hidF_eq (L18.new nls)]; exact upd_same
    have L20 := L18.mono u9.ex
    generalize upd H18 ls (.lst [.ref q1, .ref q2, .ref q3]) = H20 at u9 hls L20 ⊢
    -- all that is there now
    have U18 : Up F5 H16 F6 H20 := U17.trans u9
    have U16 : Up F4 H14 F6 H20 := U15.trans U18
    have U12 : Up F3 H12 F6 H20 := U13.trans U16
    have U0 : Up (One p) H7 F6 H20 := U7.trans U12
    have U3 : Up F3 H10 F6 H20 := u4.trans (u5.trans U12)
    have U2 : Up F2 H9 F6 H20 := u3.trans U3
    have U1 : Up F1 H8 F6 H20 := u2.trans U2
    have hwE : WorldAt (hidF F6 H20) a w := hw7.mono U0.hid
    have hvE : WorldAt (hidF F6 H20) b v := hv7.mono U0.hid
    have SE := S7.mono U0.hid
    have OE := O7.mono U0.hid
    have lwE := U12.hid _ _ hlw
    have lrE := (u5.trans U12).hid _ _ hlr
    have pF : F6 p := U0.sub p rfl
    have hBE : Bx H20 p (m + 161) := (hB7.mono U0.ex).up (by omega)
    have new0 : ∀ z, F6 z → z = p ∨ H0 z = none := fun z h => (U0.new z h).imp id fun h => fr_none_p fr07 hB7 h
    let P0 : Pl := ⟨w, a, x1, q1, c1, k1s⟩
    let P1 : Pl := ⟨w, a, x2, q2, c2, k2s⟩
    let P2 : Pl := ⟨v, b, x3, q3, c3, k3s⟩
    have A0 : PlAt K C CS CR F6 H20 P0 Km.begun := ⟨hwE, R1.to U1, T1.to U16, W, .nil⟩
    have A1 : PlAt K C CS CR F6 H20 P1 Km.begun := ⟨hwE, R2.to U2, T2.to U18, W, .nil⟩
    have A2 : PlAt K C CS CR F6 H20 P2 Km.begun := ⟨hvE, R3.to U3, T3.to u9, Vw, .nil⟩
    -- the lists of each are apart
    have r1 := R1.cF
    have r2 := R2.cF
    have r3 := R3.cF
    have t1 := T1.cF
    have t2 := T2.cF
    have t3 := T3.cF
    have m23 : ∀ z, F2 z → F3 z := u3.sub
    have m12 : ∀ z, F1 z → F2 z := u2.sub
    have m34 : ∀ z, F3 z → F4 z := U13.sub
    have m45 : ∀ z, F4 z → F5 z := U15.sub
    have mp : F1 p := u1.sub p rfl
    have np : ∀ {z : Addr} {G : Addr → Prop}, ¬ G z → G p → z ≠ p := fun h k e => h (by rw [e]; exact k)
    have ok0 : PlOk p P0 := ⟨fun z h k => n4 z k (m23 z (m12 z (r1 z h))), fun z h => h.elim (fun h => np (n1 z h) rfl) fun h => np (n4 z h) (m23 p (m12 p mp))⟩
    have ok1 : PlOk p P1 := ⟨fun z h k => n5 z k (m34 z (m23 z (r2 z h))), fun z h => h.elim (fun h => np (n2 z h) mp) fun h => np (n5 z h) (m34 p (m23 p (m12 p mp)))⟩
    have ok2 : PlOk p P2 := ⟨fun z h k => n6 z k (m45 z (m34 z (r3 z h))), fun z h => h.elim (fun h => np (n3 z h) (m12 p mp)) fun h => np (n6 z h) (m45 p (m34 p (m23 p (m12 p mp))))⟩
    have d01 : ∀ z, P0.cel z → ¬ P1.cel z := fun z h k => by
      rcases h with h | h
      · rcases k with k | k
        · exact n2 z k (r1 z h)
        · exact n5 z k (m34 z (m23 z (m12 z (r1 z h))))
      · rcases k with k | k
        · exact n4 z h (m23 z (r2 z k))
        · exact n5 z k (t1 z h)
    have d02 : ∀ z, P0.cel z → ¬ P2.cel z := fun z h k => by
      rcases h with h | h
      · rcases k with k | k
        · exact n3 z k (m12 z (r1 z h))
        · exact n6 z k (m45 z (m34 z (m23 z (m12 z (r1 z h)))))
      · rcases k with k | k
        · exact n4 z h (r3 z k)
        · exact n6 z k (m45 z (t1 z h))
    have d12 : ∀ z, P1.cel z → ¬ P2.cel z := fun z h k => by
      rcases h with h | h
      · rcases k with k | k
        · exact n3 z k (r2 z h)
        · exact n6 z k (m45 z (m34 z (m23 z (r2 z h))))
      · rcases k with k | k
        · exact n5 z h (m34 z (r3 z k))
        · exact n6 z k (t2 z h)
    have AP : Apart 3 p (pl3 P0 P1 P2) := ⟨fun k hk => match k, hk with
      | 0, _ => ok0
      | 1, _ => ok1
      | 2, _ => ok2, fun j k hj hk ne => match j, k, hj, hk, ne with
      | 0, 0, _, _, h => absurd rfl h
      | 0, 1, _, _, _ => d01
      | 0, 2, _, _, _ => d02
      | 1, 0, _, _, _ => fun z h k => d01 z k h
      | 1, 1, _, _, h => absurd rfl h
      | 1, 2, _, _, _ => d12
      | 2, 0, _, _, _ => fun z h k => d02 z k h
      | 2, 1, _, _, _ => fun z h k => d12 z k h
      | 2, 2, _, _, h => absurd rfl h⟩
    have GM : GmAt K C CS CR F6 H20 3 (pl3 P0 P1 P2) fun _ => Km.begun := ⟨L20, fun k hk => match k, hk with
      | 0, _ => A0
      | 1, _ => A1
      | 2, _ => A2⟩
    have fr020 : Fr (One p) H0 H20 := fr07.trans (Fr.of U0.ex)
    clear hw7 hv7 S7 O7 L7 U7 U12 U13 U15 U16 U17 U18 U0 U1 U2 U3 u1 u2 u3 u4 u5 u6 u7 u8 u9 R1 R2 R3 T1 T2 T3 n1 n2 n3 n4 n5 n6 r1 r2 r3 t1 t2 t3 m12 m23 m34 m45 mp hlr hlw hlw' nlr nlw nls L8 L9 L10 L11 L12 L14 L16 L18 hB7 fr07 e12 e13 e15 e17 A0 A1 A2
    -- the deeds
    have mv3 : ∀ z, Mv 3 p (pl3 P0 P1 P2) z → F6 z := fun z h => by
      rcases h with rfl | ⟨k, hk, c⟩
      · exact pF
      · exact (GM.at' k hk).cF z c
    refine q_cut (M := fun (σ' : L2.St) (H' : Hp) => σ' = [some (.ref p), some (.bl g), some (.int (tn : Int)), some (.ref a), some (.ref b), some (.ref st), some (.ref ot), some (.ref lr), some (.ref lw), some (.ref ls), none, none, none] ∧ Fr (Mv 3 p (pl3 P0 P1 P2)) H20 H' ∧ Bx H' p (m + 161 + 11 * 30) ∧ ∃ s, GmAt K C CS CR F6 H' 3 (pl3 P0 P1 P2) s)
      (s_whenF (fun H' => Fr (Mv 3 p (pl3 P0 P1 P2)) H20 H' ∧ Bx H' p (m + 161 + 11 * 30) ∧ ∃ s, GmAt K C CS CR F6 H' 3 (pl3 P0 P1 P2) s) (fun Q' hq => t_or2 (fun H' => Fr (Mv 3 p (pl3 P0 P1 P2)) H20 H' ∧ Bx H' p (m + 161 + 11 * 30) ∧ ∃ s, GmAt K C CS CR F6 H' 3 (pl3 P0 P1 P2) s) (fun Q1 hq1 => ?_) fun H1 h1 Q1 hq1 => ?_) fun H1 h1 => ⟨rfl, h1⟩) fun σ' H22 hM => ?_
    · refine (ea_cons (ev_var rfl) (ea_cons (ev_var rfl) (ea_cons (ev_var rfl) (ea_cons (ev_var rfl) (ea_cons ev_c (ea_cons (ev_notV (a := g) (ev_var rfl)) ea_nil))))) : EvA _ _ H20 [.ref p, .ref lw, .ref lr, .ref ls, .int 30, .bl (!g)]) H20 (Ex.refl _) _ fun H21 e21 => ?_
      have h21 := (Fr.of (F := F6) e21).hid
      exact ⟨F6, p, lw, lr, ls, 3, pl3 P0 P1 P2, fun _ => Km.begun, m + 161, 30, !g, rfl, hBE.mono e21, by omega, by omega, pF, by omega, by omega, AP, ⟨GM.l.mono e21, fun k hk => (GM.at' k hk).mono e21⟩, h21 _ _ lwE, h21 _ _ lrE, h21 _ _ hls, fun H2 s2 fr hB2 GM2 => hq1 H2 ⟨(Fr.of e21).trans fr, hB2, s2, GM2⟩⟩
    · obtain ⟨fr, hB', s2, GM'⟩ := h1
      have lr' := hidF_le _ _ ((fr.up mv3).hid _ _ lrE)
      have A0 := GM'.at' 0 (by omega)
      have A1 := GM'.at' 1 (by omega)
      match tn, htn with
      | 0, _ =>
        refine (ea_cons (ev_var rfl) (ea_cons (ev_op (ev_var rfl) (ev_var rfl) (rv_ixL (v := .ref x1) (sq_of lr') rfl)) (ea_cons (ev_var rfl) ea_nil)) : EvA _ _ H1 [.ref a, .ref x1, .int 0]) H1 (Ex.refl _) _ fun H2 e2 => ?_
        exact ⟨F6, a, x1, w, c1, s2 0, 0, rfl, (A0.hw.mono hidF_le).mono e2, A0.hr.mono e2, W, A0.r, fun H3 e3 => hq1 H3 (hq H3 ⟨(fr.trans (Fr.of e2)).trans (Fr.of e3), (hB'.mono e2).mono e3, s2, ⟨GM'.l.mono (e2.trans e3), fun k hk => (GM'.at' k hk).mono (e2.trans e3)⟩⟩)⟩
      | 1, _ =>
        refine (ea_cons (ev_var rfl) (ea_cons (ev_op (ev_var rfl) (ev_var rfl) (rv_ixL (v := .ref x2) (sq_of lr') rfl)) (ea_cons (ev_var rfl) ea_nil)) : EvA _ _ H1 [.ref a, .ref x2, .int 1]) H1 (Ex.refl _) _ fun H2 e2 => ?_
        exact ⟨F6, a, x2, w, c2, s2 1, 1, rfl, (A1.hw.mono hidF_le).mono e2, A1.hr.mono e2, W, A1.r, fun H3 e3 => hq1 H3 (hq H3 ⟨(fr.trans (Fr.of e2)).trans (Fr.of e3), (hB'.mono e2).mono e3, s2, ⟨GM'.l.mono (e2.trans e3), fun k hk => (GM'.at' k hk).mono (e2.trans e3)⟩⟩)⟩
    obtain ⟨rfl, fr22, hB22, s2, GM2⟩ := hM
    have h22 := (fr22.up mv3).hid
    have lw2 := hidF_le _ _ (h22 _ _ lwE)
    have lr2 := hidF_le _ _ (h22 _ _ lrE)
    have ls2 := hidF_le _ _ (h22 _ _ hls)
    have SE2 := SE.mono h22
    have OE2 := OE.mono h22
    have fr022 : Fr (One p) H0 H22 := fr_new fr020 fr22 fun z h => new0 z (mv3 z h)
    -- stores and runnings are as they are
    refine q_forR1 (n := 3) (ea_cons ev_c ea_nil) (by decide) (fun _ (σ' : L2.St) (H' : Hp) => (∃ y, σ' = [some (.ref p), some (.bl g), some (.int (tn : Int)), some (.ref a), some (.ref b), some (.ref st), some (.ref ot), some (.ref lr), some (.ref lw), some (.ref ls), y, none, none]) ∧ Ex H22 H') (fun H1 e1 => ⟨⟨_, rfl⟩, e1⟩) (fun k σ' H' hk hp => ?_) fun σ' H24 hp => ?_
    · obtain ⟨⟨y, rfl⟩, e⟩ := hp
      have hk3 : k < 3 := by omega
      have PK := (GM2.at' k hk3).mono e
      obtain ⟨sto, hsto, hss⟩ : ∃ sto, ([V.ref st, .ref st, .ref ot] : List V)[k]? = some (.ref sto) ∧ StoreAt K C CS H' sto (pl3 P0 P1 P2 k).w.n (pl3 P0 P1 P2 k).w.ps (pl3 P0 P1 P2 k).w.hs (pl3 P0 P1 P2 k).w.cs := match k, hk3 with
        | 0, _ => ⟨st, rfl, (SE2.mono hidF_le).mono e⟩
        | 1, _ => ⟨st, rfl, (SE2.mono hidF_le).mono e⟩
        | 2, _ => ⟨ot, rfl, (OE2.mono hidF_le).mono e⟩
      have hxk : ([V.ref x1, .ref x2, .ref x3] : List V)[k]? = some (.ref (pl3 P0 P1 P2 k).x) ∧ ([V.ref a, .ref a, .ref b] : List V)[k]? = some (.ref (pl3 P0 P1 P2 k).a) ∧ ([V.ref q1, .ref q2, .ref q3] : List V)[k]? = some (.ref (pl3 P0 P1 P2 k).q) := match k, hk3 with
        | 0, _ => ⟨rfl, rfl, rfl⟩
        | 1, _ => ⟨rfl, rfl, rfl⟩
        | 2, _ => ⟨rfl, rfl, rfl⟩
      obtain ⟨dsk, ⟨⟨dxk, stk, ulk, blk, dtk, kvsk, hSk⟩, _, _⟩, _⟩ := id PK.hr
      have xk := hidF_le _ _ hSk.hx
      have lps : (pl3 P0 P1 P2 k).w.ps.length ≤ 100 := by have := PK.W.right.many; have := PK.W.ok.most; omega
      refine s_when (b := false) (et_is (et_or (a := false) (b := false) (et_test (ev_op (ev_fld R.cl R.nS (ev_op (ev_var rfl) (ev_var rfl) (rv_ixL (v := .ref (pl3 P0 P1 P2 k).x) (sq_of (e _ _ lr2)) (atI_nat hxk.1))) xk rfl) (ev_opL1 (el_lst (ea_cons (ev_var rfl) (ea_cons (ev_var rfl) (ea_cons (ev_var rfl) ea_nil))) (by show 3 ≤ 100000; decide)) (fun H2 e2 => ev_var rfl) fun l H2 hl e2 => rv_ixL (v := .ref sto) (sq_of hl) (atI_nat hsto)) fun H2 e2 Q q => ?_)) fun _ =>
        et_is (et_not (et_B (b := true) (ev_call' (ea_cons (ev_op (ev_var rfl) (ev_var rfl) (rv_ixL (v := .ref (pl3 P0 P1 P2 k).a) (sq_of (e _ _ lw2)) (atI_nat hxk.2.1))) (ea_cons (ev_op (ev_var rfl) (ev_var rfl) (rv_ixL (v := .ref (pl3 P0 P1 P2 k).x) (sq_of (e _ _ lr2)) (atI_nat hxk.1))) (ea_cons (ev_op (ev_var rfl) (ev_var rfl) (rv_ixL (v := .ref (pl3 P0 P1 P2 k).q) (sq_of (e _ _ ls2)) (atI_nat hxk.2.2))) (ea_cons (ev_var rfl) ea_nil)))) fun H2 e2 Q q => ⟨F6, _, _, _, _, _, _, s2 k, _, rfl, (PK.hw.mono hidF_le).mono e2, PK.hr.mono e2, PK.hs.mono e2, PK.W, PK.r, q⟩))) rfl) rfl) (fun hb => nomatch hb) fun _ H2 e2 => ⟨⟨_, rfl⟩, e.trans e2⟩
      have s1' := (hSk.hst.mono hidF_le).mono e2
      have s2' := hss.mono e2
      obtain ⟨d1, _, _, _, z1, _⟩ := id s1'
      obtain ⟨d2, _, _, _, z2, _⟩ := id s2'
      exact ⟨⟨_, _, _, _, _, _, rfl, rfl, z1, z2, ⟨_, _, _, _, s1', s2', lps⟩⟩, fun H3 e3 => q H3 e3⟩
    obtain ⟨⟨y10, rfl⟩, e24⟩ := hp
    -- the script run again
    have GM4 : GmAt K C CS CR F6 H24 3 (pl3 P0 P1 P2) s2 := ⟨GM2.l.mono e24, fun k hk => (GM2.at' k hk).mono e24⟩
    have A0 : PlAt K C CS CR F6 H24 P0 (s2 0) := GM4.at' 0 (by omega)
    obtain ⟨ds, ⟨⟨blq, dtq, kvq, hT⟩, hFq, hCq⟩, hDq⟩ := id A0.hs
    have dl := A0.r.ddfew W.ok
    have dd : H24 (k1s .dd) = some (.lst ds) := hCq.at' .dd trivial
    have q1h : H24 q1 = some (.lst [.ref blq, .ref dtq, .ref (k1s .dd)]) := hidF_le _ _ hT.hx
    have ls4 : H24 ls = some (.lst [.ref q1, .ref q2, .ref q3]) := e24 _ _ ls2
    have fr024 : Fr (One p) H0 H24 := fr022.trans (Fr.of e24)
    refine q_par2H (a_te (e_call ?_))
    refine a_te ((ev_var rfl : Ev _ _ H24 (.ref st)) H24 (Ex.refl _) _ fun H25 e25 => a_te ?_)
    refine el_listL (ev_op (ev_op (ev_var rfl) ev_c (rv_ixL (v := .ref q1) (sq_of (e25 _ _ ls4)) rfl)) ev_c (rv_ixL (v := .ref (k1s .dd)) (sq_of (e25 _ _ q1h)) rfl)) (e25 _ _ dd) H25 (Ex.refl _) _ fun l26 H26 nl26 e26 hl26 => a_nil ?_
    have e46 := e25.trans e26
    refine up_runF (F := F6) ((SE2.mono (Fr.of (e24.trans e46)).hid)) (GM4.l.mono e46) W hl26 (DqAll.mono e46 (DqAll.mono hidF_le hDq)) (by omega) A0.r.path fun ag H27 cA F7 u27 L27 R27 n7 => ?_
    have U27 : Up F6 H24 F7 H27 := (Up.of e46).trans u27
    refine a_call (vs := [.ref a, .ref q1]) (ea_cons (ev_var rfl) (ea_cons (ev_op (ev_var rfl) ev_c (rv_ixL (v := .ref q1) (sq_of (U27.ex _ _ ls4)) rfl)) ea_nil)) fun H28 e28 => ?_
    have A0' := (A0.to U27).mono e28
    refine up_copy (F := F7) A0'.hw A0'.hs W A0.r (L27.mono e28) fun sta H30 cS F8 u30 L30 T30 n8 => a_nil ⟨_, _, rfl, ?_⟩
    have U30 : Up F7 H27 F8 H30 := (Up.of e28).trans u30
    have U8 : Up F6 H24 F8 H30 := U27.trans U30
    let PA : Pl := ⟨w, a, ag, sta, cA, cS⟩
    have AA : PlAt K C CS CR F8 H30 PA (s2 0) := ⟨A0.hw.mono U8.hid, R27.to U30, T30, W, A0.r⟩
    have AP0 : PlAt K C CS CR F8 H30 P0 (s2 0) := A0.to U8
    have AP1 : PlAt K C CS CR F8 H30 P1 (s2 1) := (GM4.at' 1 (by omega)).to U8
    have AP2 : PlAt K C CS CR F8 H30 P2 (s2 2) := (GM4.at' 2 (by omega)).to U8
    have six : ∀ k, k < 3 → ∀ z, (pl3 P0 P1 P2 k).cel z → F6 z := fun k hk => (GM4.at' k hk).cF
    have dA : ∀ z, F6 z → ¬ PA.cel z := fun z h c => c.elim (fun c => n7 z c h) fun c => n8 z c (U27.sub z h)
    have okA : PlOk p PA := ⟨fun z h k => n8 z k (R27.cF z h), fun z c e => dA z (by rw [e]; exact pF) c⟩
    have pF8 : F8 p := U8.sub p pF
    have hB30 : Bx H30 p (m + 161 + 11 * 30) := (hB22.mono e24).mono U8.ex
    have fr030 : Fr (One p) H0 H30 := fr024.trans (Fr.of U8.ex)
    have new8 : ∀ z, F8 z → z = p ∨ H0 z = none := fun z h => by
      rcases U8.new z h with h | h
      · exact new0 z h
      · exact .inr (fr_none_p fr024 (hB22.mono e24) h)
    have SE8 := (SE2.mono (Fr.of e24).hid).mono U8.hid
    have lr8 := U8.ex _ _ (e24 _ _ lr2)
    have ls8 := U8.ex _ _ ls4
    have lr8h : hidF F8 H30 lr = some (.lst [.ref x1, .ref x2, .ref x3]) := U8.hid _ _ ((Fr.of e24).hid _ _ (h22 _ _ lrE))
    have ls8h : hidF F8 H30 ls = some (.lst [.ref q1, .ref q2, .ref q3]) := U8.hid _ _ ((Fr.of e24).hid _ _ (h22 _ _ hls))
    have hv8 : WorldAt (hidF F8 H30) b v := AP2.hw
    have L30 := L30
    clear U8 U27 U30 u27 u30 n7 n8 R27 T30 A0' e28 e46 e25 e26 nl26 hl26 dd q1h hT hFq hCq hDq lr2 lw2 ls2 lr8 ls8 ls4 GM2 GM A0 lwE lrE hls h22 SE2 OE2 SE OE hwE hvE hBE hB22 fr22 fr020 fr022 L27 e24
    -- again
    have mvA : ∀ z, Mv 1 p (fun _ => PA) z → F8 z := fun z h => by
      rcases h with rfl | ⟨k, hk, c⟩
      · exact pF8
      · exact AA.cF z c
    have APA : Apart 1 p fun _ => PA := ⟨fun _ _ => okA, fun j k hj hk ne => absurd (show j = k by omega) ne⟩
    have lw1 : ∀ {z : Addr}, ([V.ref z] : List V) = (List.range 1).map fun _ => V.ref z := fun {z} => rfl
    refine q_cut (M := fun (σ' : L2.St) (H' : Hp) => σ' = [some (.ref p), some (.bl g), some (.int (tn : Int)), some (.ref a), some (.ref b), some (.ref st), some (.ref ot), some (.ref lr), some (.ref lw), some (.ref ls), y10, some (.ref ag), some (.ref sta)] ∧ Fr (Mv 1 p fun _ => PA) H30 H' ∧ Bx H' p (m + 535) ∧ Live F8 H' ∧ ∃ s, PlAt K C CS CR F8 H' PA s)
      (s_whenF (fun H' => Fr (Mv 1 p fun _ => PA) H30 H' ∧ Bx H' p (m + 535) ∧ Live F8 H' ∧ ∃ s, PlAt K C CS CR F8 H' PA s) (fun Q' hq => t_or2 (fun H' => Ex H30 H') (fun Q1 hq1 => ?_) fun H1 e1 Q1 hq1 => ?_) fun H1 h1 => ⟨rfl, h1⟩) fun σ' H32 hM => ?_
    · refine e_call ?_
      refine (ea_cons (ev_var rfl) (ea_cons (ev_var rfl) (ea_cons (ev_var rfl) (ea_cons (ev_var rfl) ea_nil))) : EvA _ _ H30 [.ref a, .ref ag, .ref sta, .int (tn : Int)]) H30 (Ex.refl _) _ fun H1 e1 => ?_
      exact ⟨F8, a, ag, sta, w, cA, cS, s2 0, tn, rfl, (AA.hw.mono hidF_le).mono e1, AA.hr.mono e1, AA.hs.mono e1, W, AA.r, fun H2 e2 => hq1 H2 (e1.trans e2)⟩
    · refine e_call ?_
      refine a_te ((ev_var rfl : Ev _ _ H1 (.ref p)) H1 (Ex.refl _) _ fun H2 e2 => a_te ?_)
      refine (el_lst (ea_cons (ev_var rfl) ea_nil) (by show 1 ≤ 100000; decide) : EvL _ _ H2 [.ref a]) H2 (Ex.refl _) _ fun l1 H3 n1 e3 h1 => a_te ?_
      refine (el_lst (ea_cons (ev_var rfl) ea_nil) (by show 1 ≤ 100000; decide) : EvL _ _ H3 [.ref ag]) H3 (Ex.refl _) _ fun l2 H4 n2 e4 h2 => a_te ?_
      refine (el_lst (ea_cons (ev_var rfl) ea_nil) (by show 1 ≤ 100000; decide) : EvL _ _ H4 [.ref sta]) H4 (Ex.refl _) _ fun l3 H5 n3 e5 h3 => ?_
      refine (ea_cons ev_c (ea_cons ev_c ea_nil) : EvA _ _ H5 [.int 4, .bl true]) H5 (Ex.refl _) _ fun H6 e6 => ?_
      have L1 := L30.mono e1
      have L2' := L1.mono e2
      have L3 := L2'.mono e3
      have L4 := L3.mono e4
      have e36 := (e4.trans e5).trans e6
      have e16 := (e2.trans e3).trans e36
      have e06 := e1.trans e16
      exact ⟨F8, p, l1, l2, l3, 1, fun _ => PA, fun _ => s2 0, m + 161 + 11 * 30, 4, true, rfl, hB30.mono e06, by omega, by omega, pF8, by omega, by omega, APA, ⟨L30.mono e06, fun k hk => AA.mono e06⟩, by rw [hidF_eq (L2'.new n1)]; exact e36 _ _ h1, by rw [hidF_eq (L3.new n2)]; exact (e5.trans e6) _ _ h2, by rw [hidF_eq (L4.new n3)]; exact e6 _ _ h3, fun H7 s7 fr hB7 GM7 => hq1 H7 (hq H7 ⟨(Fr.of e06).trans fr, hB7.up (by omega), GM7.l, s7 0, GM7.at' 0 (by omega)⟩)⟩
    obtain ⟨rfl, fr32, hB32, L32, s5, AA2⟩ := hM
    have nP : ∀ k, k < 3 → ∀ z, (pl3 P0 P1 P2 k).cel z → ¬ Mv 1 p (fun _ => PA) z := fun k hk z c h => by
      rcases h with rfl | ⟨j, hj, c2⟩
      · exact (AP.ok k hk).box z c rfl
      · exact dA z (six k hk z c) c2
    have B0 : PlAt K C CS CR F8 H32 P0 (s2 0) := AP0.fr fr32 mvA (nP 0 (by omega))
    have B1 : PlAt K C CS CR F8 H32 P1 (s2 1) := AP1.fr fr32 mvA (nP 1 (by omega))
    have B2 : PlAt K C CS CR F8 H32 P2 (s2 2) := AP2.fr fr32 mvA (nP 2 (by omega))
    have h32 := (fr32.up mvA).hid
    have fr032 : Fr (One p) H0 H32 := fr_new fr030 fr32 fun z h => new8 z (mvA z h)
    have lr32 := h32 _ _ lr8h
    have ls32 := h32 _ _ ls8h
    have SE32 := SE8.mono h32
    clear AP0 AP1 AP2 AA mvA APA fr32 h32 lr8h ls8h SE8 hB30 L30 fr030 hv8
    -- to the end
    have mvE : ∀ z, Mv1 p P2 z → F8 z := fun z h => by
      rcases h with rfl | c
      · exact pF8
      · exact B2.cF z c
    refine q_cut (M := fun (σ' : L2.St) (H' : Hp) => σ' = [some (.ref p), some (.bl g), some (.int (tn : Int)), some (.ref a), some (.ref b), some (.ref st), some (.ref ot), some (.ref lr), some (.ref lw), some (.ref ls), y10, some (.ref ag), some (.ref sta)] ∧ Fr (Mv1 p P2) H32 H')
      (s_whenF (fun H' => Fr (Mv1 p P2) H32 H') (fun Q' hq => t_or2 (fun H' => Fr (Mv1 p P2) H32 H') (fun Q1 hq1 => ?_) fun H1 fr1 Q1 hq1 => ?_) fun H1 h1 => ⟨rfl, h1⟩) fun σ' H34 hM => ?_
    · refine e_call ?_
      refine (ea_cons (ev_var rfl) (ea_cons (ev_var rfl) (ea_cons (ev_op (ev_var rfl) ev_c (rv_ixL (v := .ref x3) (sq_of (hidF_le _ _ lr32)) rfl)) (ea_cons (ev_op (ev_var rfl) ev_c (rv_ixL (v := .ref q3) (sq_of (hidF_le _ _ ls32)) rfl)) ea_nil))) : EvA _ _ H32 [.ref p, .ref b, .ref x3, .ref q3]) H32 (Ex.refl _) _ fun H1 e1 => ?_
      exact ⟨F8, p, P2, s2 2, m + 535, rfl, hB32.mono e1, by omega, pF8, ok2, B2.mono e1, L32.mono e1, fun H2 s6 fr _ _ _ => hq1 H2 ((Fr.of e1).trans fr)⟩
    · refine e_call ?_
      have hl := (fr1.up mvE).hid
      refine (ea_cons (ev_var rfl) (ea_cons (ev_op (ev_var rfl) ev_c (rv_ixL (v := .ref x1) (sq_of (hidF_le _ _ (hl _ _ lr32))) rfl)) (ea_cons (ev_op (ev_var rfl) ev_c (rv_ixL (v := .ref q1) (sq_of (hidF_le _ _ (hl _ _ ls32))) rfl)) (ea_cons (ev_var rfl) ea_nil))) : EvA _ _ H1 [.ref a, .ref x1, .ref q1, .int (tn : Int)]) H1 (Ex.refl _) _ fun H2 e2 => ?_
      have D0 : PlAt K C CS CR F8 H1 P0 (s2 0) := B0.fr fr1 mvE fun z c h => by
        rcases h with rfl | c2
        · exact ok0.box z c rfl
        · exact d02 z c c2
      exact ⟨F8, a, x1, q1, w, c1, k1s, s2 0, tn, rfl, (D0.hw.mono hidF_le).mono e2, D0.hr.mono e2, D0.hs.mono e2, W, D0.r, fun H3 e3 => hq1 H3 (hq H3 (fr1.trans (Fr.of (e2.trans e3))))⟩
    obtain ⟨rfl, fr34⟩ := hM
    have D1 : PlAt K C CS CR F8 H34 P1 (s2 1) := B1.fr fr34 mvE fun z c h => by
      rcases h with rfl | c2
      · exact ok1.box z c rfl
      · exact d12 z c c2
    have DA : PlAt K C CS CR F8 H34 PA s5 := AA2.fr fr34 mvE fun z c h => by
      rcases h with rfl | c2
      · exact okA.box z c rfl
      · exact dA z (six 2 (by omega) z c2) c
    have h34 := (fr34.up mvE).hid
    have fr034 : Fr (One p) H0 H34 := fr_new fr032 fr34 fun z h => new8 z (mvE z h)
    have lr34 := hidF_le _ _ (h34 _ _ lr32)
    have ls34 := hidF_le _ _ (h34 _ _ ls32)
    have S34 := (SE32.mono h34).mono hidF_le
    have lps : w.ps.length ≤ 100 := by have := W.right.many; have := W.ok.most; omega
    refine q_when (b := false) (et_test (ev_opR (ev_var rfl) (store_of (iw := 3) (D1.hw.mono hidF_le) W rfl) fun y H2 e2 hy H3 e3 Q q => ?_)) (fun hb => nomatch hb) fun _ H35 e35 => ?_
    · obtain ⟨sn, rfl, _, hsn⟩ := hy
      have z1 := S34.mono (e2.trans e3)
      have z2 := hsn.mono e3
      obtain ⟨d1, _, _, _, y1, _⟩ := id z1
      obtain ⟨d2, _, _, _, y2, _⟩ := id z2
      exact ⟨⟨_, _, _, _, _, _, rfl, rfl, y1, y2, ⟨_, _, _, _, z1, z2, lps⟩⟩, fun H3 e3 => q H3 e3⟩
    have D1' := D1.mono e35
    have DA' := DA.mono e35
    exact s_ret (v := .bl true) (ev_is (ev_andV (a := true) (b := true) (ev_call' (ea_cons (ev_var rfl) (ea_cons (ev_op (ev_var rfl) ev_c (rv_ixL (v := .ref x2) (sq_of (e35 _ _ lr34)) rfl)) (ea_cons (ev_op (ev_var rfl) ev_c (rv_ixL (v := .ref q2) (sq_of (e35 _ _ ls34)) rfl)) (ea_cons (ev_var rfl) ea_nil)))) fun H2 e2 Q q => ⟨F8, a, x2, q2, w, c2, k2s, s2 1, tn, rfl, (D1'.hw.mono hidF_le).mono e2, D1'.hr.mono e2, D1'.hs.mono e2, W, D1'.r, q⟩) fun _ => ev_call' (ea_cons (ev_var rfl) (ea_cons (ev_var rfl) (ea_cons (ev_var rfl) (ea_cons (ev_var rfl) ea_nil)))) fun H2 e2 Q q => ⟨F8, a, ag, sta, w, cA, cS, s5, tn, rfl, (DA'.hw.mono hidF_le).mono e2, DA'.hr.mono e2, DA'.hs.mono e2, W, DA'.r, q⟩) rfl) fun H36 e36 => hQ H36 (fr034.trans (Fr.of (e35.trans e36)))
end
end Tr

set_option maxHeartbeats 4000000
/-! ### the law (k04) -/
namespace Tr
open PySem PySem.Spec PyProof.Rows L2 LK Evl
abbrev sLaw : Stmt := top 69
abbrev nLaw : List Str := ["script", "k", "box"]
theorem scLaw : FnScope nLaw ["script"] (defScope sLaw) := ⟨rfl, rfl, rfl, by decide +kernel, rfl, by decide +kernel, by decide +kernel⟩
def spLaw (K : PySem.W.Frag) : Sp := fun vs H Q _ => ∃ (p : Addr) (ns : List Int), vs = [.ref p] ∧ SqL K H p (ns.map V.int) ∧ ∀ H2, Q (.bl true) H2
section
variable {K : PySem.W.Frag} {σ : L2.St} {H : Hp} {ta tb : TE}
theorem t_notK {Q' : Bool → Hp → Prop} (h : ∀ Q : VK, (∀ H1, Q' false H1 → Q (.bl true) H1) → ta σ H Q) : tNot (tB ta) σ H Q' := h _ fun H1 q => ⟨true, rfl, q⟩
theorem sqL_fr {A B D : Hp} {p b : Addr} {xs : List V} (h : SqL K A p xs) (nb : A b = none) (e : Ex A B) (fr : Fr (One b) B D) : SqL K D p xs := by
  rcases h with (h | ⟨o, h⟩) | h
  · exact .inl (.inl (fr _ _ (ne_of_none h nb) (e _ _ h)))
  · exact .inl (.inr ⟨o, fr _ _ (ne_of_none h nb) (e _ _ h)⟩)
  · exact .inr h
/-- _law_take(box, s) == c -/
theorem eq_draw {i m : Nat} {s : Int} {c : Int} {b : Addr} {Q : VK} (hσ : σ[i]? = some (some (.ref b))) (hB : Bx H b m) (hm : m ≤ 100000) (s0 : 0 < s) (s1 : s ≤ 1000) (q : ∀ (g : Bool) H2, Fr (One b) H H2 → Bx H2 b (m + 1) → Q (.bl g) H2) : tOp rEq (tCall spTake [] E0 (tCons (tVar i) (tCons (tC (.int s)) tNil))) (tC (.int c)) σ H Q :=
  ⟨_, hσ, b, s, m, rfl, hB, hm, s0, s1, fun r H2 hr fr hB2 => ⟨rfl, q _ H2 fr hB2⟩⟩
end
section
variable {P' : Program} {w' : World} {K : PySem.W.Frag} {mg : Str → Option Value} {base : Heap} {f f1 f2 f3 f4 : Addr} {fd d1 d2 d3 d4 : FuncData}
theorem ok_lawA (F : FnP K "law" sLaw f fd) (G1 : FnOk P' w' K mg base CX0 1 f1 d1 ["great"] spBox) (k1 : Kd K mg "_law_box" ["great"] f1 d1) (G2 : FnOk P' w' K mg base CX0 1 f2 d2 ["script", "k"] (spCell K)) (k2 : Kd K mg "_law_cell" ["script", "k"] f2 d2)
    (G3 : FnG P' w' K mg base 10 f3 d3 ["box", "great"] spRightL) (k3 : Kd K mg "_law_right" ["box", "great"] f3 d3) (G4 : FnOk P' w' K mg base CX0 1 f4 d4 ["box", "many"] spTake) (k4 : Kd K mg "_law_take" ["box", "many"] f4 d4) (mr : mg "range" = none) (ml : mg "len" = none) (mmax : mg "max" = none) (mmin : mg "min" = none) : FnG P' w' K mg base 11 f fd ["script"] (spLaw K) := by
  refine fnG (k := 10) (funOf F) scLaw (fun vs H Q E h => ?_) fun cdv A outer s0 H0 vs Q hr hg h => ⟨_,
    pss_cons (ps_for PassesOwn.never rfl (pi_range1 (by rfl) mr (pa_cons (pe_callB (call_max2 rfl) (by rfl) mmax (by decide +kernel) (pa_cons pe_int (pa_cons (pe_callB (call_min2 rfl) (by rfl) mmin (by decide +kernel) (pa_cons pe_int (pa_cons (pe_callB (r := rLenS K) call_len_seq (by rfl) ml PySem.boot_len (pa_cons (pv 0) pa_nil)) pa_nil))) pa_nil))) pa_nil)) (pg_name (i := 1) scLaw.nd rfl (.inl rfl))
      (pss_cons (ps_set (i := 2) scLaw.nd rfl (.inl rfl) (pe_call G1 (hr.mono (by decide)) (by rfl) k1.m k1.k k1.b .nil pass0 (pa_cons (pe_call G2 (hr.mono (by decide)) (by rfl) k2.m k2.k k2.b .nil pass0 (pa_cons (pv 0) (pa_cons (pv 1) pa_nil))) pa_nil)))
      (pss_one (ps_if (pt_not (pt_val (pe_callG G3 hr hg k3.m k3.k k3.b (pa_cons (pv 2) (pa_cons (pe_and (pe_cmpR op_eq (pe_call G4 (hr.mono (by decide)) (by rfl) k4.m k4.k k4.b .nil pass0 (pa_cons (pv 2) (pa_cons pe_int pa_nil))) pe_int (nomark _)) (pe_one (pe_cmpR op_eq (pv 1) pe_int (nomark _)))) pa_nil))))) (pss_one (ps_ret pe_bl)) pss_nil))))
    (pss_one (ps_ret pe_bl)), ?_⟩
  · obtain ⟨p, ns, rfl, _⟩ := h
    rfl
  · obtain ⟨p, ns, rfl, hs, hQ⟩ := h
    have rg : ∃ n : Int, 0 ≤ n ∧ n ≤ 3 ∧ EvA (tCons (tCB (fun xs H Q => ∃ i j, xs = [.int i, .int j] ∧ Q (.int (if j > i then j else i)) H) (tCons (tC (.int 2)) (tCons (tCB (fun xs H Q => ∃ i j, xs = [.int i, .int j] ∧ Q (.int (if j < i then j else i)) H) (tCons (tC (.int 3)) (tCons (tCB (rLenS K) (tCons (tVar 0) tNil)) tNil))) tNil))) tNil) (start nLaw [.ref p]) H0 [.int n] := by
      refine ⟨_, ?_, ?_, ea_cons (ev_cb (ea_cons ev_c (ea_cons (ev_cb (ea_cons ev_c (ea_cons (ev_len (ev_var rfl) hs) ea_nil)) fun H1 _ Q q => ⟨_, _, rfl, q H1 (Ex.refl H1)⟩) ea_nil)) fun H1 _ Q q => ⟨_, _, rfl, q H1 (Ex.refl H1)⟩) ea_nil⟩
      · split <;> (try split) <;> omega
      · split <;> (try split) <;> omega
    obtain ⟨n, n0, n3, hr'⟩ := rg
    refine q_forR1 (n := n) hr' (by omega) (fun _ (σ' : L2.St) (H' : Hp) => (∃ y z, σ' = [some (.ref p), y, z]) ∧ SqL K H' p (ns.map V.int)) (fun H1 e1 => ⟨⟨_, _, rfl⟩, ex_l e1 hs⟩) (fun k σ' H' hk hp => ?_) fun σ' H' hp => ?_
    · obtain ⟨⟨y, z, rfl⟩, hs'⟩ := hp
      refine q_asgI (e_call (a_call (vs := [.ref p, .int (k : Int)]) (ea_cons (ev_var rfl) (ea_cons (ev_var rfl) ea_nil)) fun H1 e1 => ⟨p, ns, (k : Int), rfl, ex_l e1 hs', by omega, by omega, fun i H2 e2 => a_nil ⟨i, rfl, fun b H3 nb e3 hB => ?_⟩⟩))
      have hs2 : SqL K H2 p (ns.map V.int) := ex_l (e1.trans e2) hs'
      refine s_whenF (fun H4 => SqL K H4 p (ns.map V.int)) (fun Q' hq => t_notK fun Q q => e_call (a_te ?_)) fun H4 h4 => ⟨⟨_, _, rfl⟩, h4⟩
      refine (ev_var rfl : Ev _ _ H3 (.ref b)) H3 (Ex.refl _) _ fun H4 e4 => a_te ?_
      have fin : ∀ (σ9 : L2.St) (g : Bool) (H5 : Hp) (m : Nat), m ≤ 1000 → Fr (One b) H4 H5 → Bx H5 b m → tNil σ9 H5 (fun vs H6 => spRightL ((V.ref b :: V.bl g :: vs) ++ []) H6 Q E0) := fun σ9 g H5 m hm fr hB5 => ⟨b, g, m, rfl, hB5, hm, fun H6 fr6 => q H6 (hq H6 (sqL_fr hs2 nb (e3.trans e4) (fr.trans fr6)))⟩
      refine eq_draw (i := 2) rfl (hB.mono e4) (by omega) (by decide) (by decide) fun g H5 fr5 hB5 => ⟨g, rfl, ?_⟩
      cases g with
      | false => exact fin [] false H5 1 (by omega) fr5 hB5
      | true =>
        refine (ev_op (ev_var rfl) ev_c (rv_eq rfl) : Ev _ _ H5 _) H5 (Ex.refl _) _ fun H6 e6 => ?_
        exact fin [] _ H6 1 (by omega) (fr5.trans (Fr.of e6)) (hB5.mono e6)
    · obtain ⟨⟨y, z, rfl⟩, hs'⟩ := hp
      exact s_ret ev_c fun H1 _ => hQ H1
end
end Tr

set_option maxHeartbeats 0
/-! ### the head of law k04's row: what is looked at behind the top -/
namespace Tr
open PySem PySem.Spec PyProof.Rows L2 LK
/-- what an object leads to: a dict its values, a class its namespace, a function its code and its keyword defaults, a property its fields -/
def leads (g : Addr → Option Obj) (a : Addr) : List Addr := match g a with
  | some o => (match o.data with
    | .dict es _ => es.toList.flatMap fun e => He.refV e.val
    | .cls cd => [cd.ns]
    | .func fd => He.refV fd.code ++ He.refV fd.kwdefaults
    | .fields vs => if o.cls == .type "property" then vs.toList.flatMap He.refV else []
    | _ => [])
  | none => []
def seen (g : Addr → Option Obj) : List Addr :=
  let a1 := leads g mainGlobals
  let a2 := a1.flatMap (leads g)
  let a3 := a2.flatMap (leads g)
  let a4 := a3.flatMap (leads g)
  let a5 := a4.flatMap (leads g)
  mainGlobals :: sysModules :: (a1 ++ (a2 ++ (a3 ++ (a4 ++ a5))))
/-- a Hook of facts, of one look of our own, and of defs that stand at addresses of our own -/
def hookY (fa : List He.Fa) (fn : List He.DefD) (xs : PySem.W.Frag → Bool) (ys : PySem.W.Frag → List He.FnW) (yv : List He.FnW) : PySem.W.Hook where
  α := He.AlD × (Bool × List He.FnW)
  obs := fun s => (He.obsD fa fn (He.frG s.heap.get? (seen s.heap.get?)), (xs (He.frG s.heap.get? (seen s.heap.get?)), ys (He.frG s.heap.get? (seen s.heap.get?))))
  val := fun _ => (He.valD fn, (true, yv))
  says := fun _ h => ∃ K : PySem.W.Frag, K.In h ∧ He.SaysD fa fn K ∧ xs K = true ∧ ys K = yv
  of := fun _ _ e => ⟨_, He.frG_in, congrArg Prod.fst e, congrArg (fun z => z.2.1) e, congrArg (fun z => z.2.2) e⟩
  keeps := fun _ _ _ ⟨K, hK, c⟩ k => ⟨K, PySem.W.Frag.In.keeps hK k, c⟩
/-- the def that stands at a -/
def atW (K : PySem.W.Frag) (a : Addr) : He.FnW := match K.lookup a with
  | some ⟨_, _, .func fd, _⟩ => some (fd.name, fd.qualname, fd.params, fd.body, fd.scope, fd.globals, fd.closure, fd.builtins)
  | _ => none
def okW (K : PySem.W.Frag) (a : Addr) (q : Str) : Bool := PySem.W.keepIn K (.ref a) && (match K.lookup a with
  | some ⟨_, _, .func fd, _⟩ => PySem.W.codeIn K fd.code q && (He.dflB K fd.defaults [] && He.kwdB K fd.kwdefaults [])
  | _ => false)
theorem funW {K : PySem.W.Frag} {a : Addr} {x q : Str} {ps : Arguments} {b : List Stmt} {sc : Scope} (e : atW K a = some (x, q, ps, .stmts b, sc, mainGlobals, [], builtinsNs)) (c : okW K a q = true) : ∃ fd, FunD K x q ps b sc [] [] a fd := by
  obtain ⟨kp, c2⟩ := He.ba c
  unfold atW at e
  cases h : K.lookup a with
  | none => rw [h] at c2; cases c2
  | some o =>
    obtain ⟨oc, od, dt, osl⟩ := o
    rw [h] at c2 e
    cases dt with
    | func fd =>
      obtain ⟨m1, m2, m3, m4, m5, m6, m7, m8, m9, m10, m11, m12, m13, m14, m15⟩ := fd
      have e2 : (some (m1, m2, m3, m4, m5, m6, m7, m15) : He.FnW) = some (x, q, ps, .stmts b, sc, mainGlobals, [], builtinsNs) := e
      simp only [Option.some.injEq, Prod.mk.injEq] at e2
      obtain ⟨z1, z2, z3, z4, z5, z6, z7, z8⟩ := e2
      subst z1 z2 z3 z4 z5 z6 z7 z8
      have c3 : (PySem.W.codeIn K m13 m2 && (He.dflB K m8 [] && He.kwdB K m9 [])) = true := c2
      obtain ⟨y1, y2⟩ := He.ba c3
      obtain ⟨y3, y4⟩ := He.ba y2
      exact ⟨_, ⟨oc, od, m8, m9, m10, m11, m12, m13, m14, osl, rfl, h, y1, He.dflB_ok y3, He.kwdB_ok y4⟩, kp⟩
    | _ => cases c2
def loose0 : List PySem.Str := ["_wall", "is_whole", "is_between", "is_list", "are_between", "LeftError", "InvalidHouses", "InvalidRoads", "InvalidHouse", "InvalidHomes", "InvalidCells", "InvalidScript", "NotJoined", "NotARoad", "NothingToMake", "NothingUnderWay", "Stopped", "MOST_HOUSES", "Tree", "_are_roads"]
def loose1 : List PySem.Str := ["_is_low_high", "_all_steps", "_steps_to", "_walk", "check_house", "is_road", "check_road", "neighbours", "both_ways", "MOST_WRITES", "CELLS", "Store", "made_in", "MOST_DEEDS", "Running", "last_of_cells", "is_script", "_is_deed", "run", "_do"]
def loose2 : List PySem.Str := ["_law_cell", "_law_box", "_law_take", "_law_mixed", "_law_world", "_law_near", "_law_ways", "_law_begun", "_law_comes", "_law_left", "_law_is_house", "_law_due", "_law_did", "_law_shown", "_law_is", "_law_deed", "_law_asked", "_law_barred", "_law_doors", "_law_deeds"]
def loose3 : List PySem.Str := ["_law_ended", "_law_copy", "_law_right"]
def loose : List PySem.Str := loose0 ++ loose1 ++ loose2 ++ loose3
def dDef (i : Nat) (x : Str) : He.DefD := ⟨(x, none), x, x, defArgs (top i), defBody (top i), defScope (top i), [], []⟩
def dMet (i j : Nat) (c x q : Str) (kw : List (Str × He.Dv)) : He.DefD := ⟨(c, some x), x, q, defArgs (inClass (top i) j), defBody (inClass (top i) j), defScope (inClass (top i) j), [], kw⟩
def fn0 : List He.DefD := [dDef 2 "is_whole", dDef 3 "is_between", dDef 4 "is_list", dDef 5 "are_between", dDef 22 "_are_roads", dDef 23 "_is_low_high", dDef 24 "_all_steps", dDef 25 "_steps_to", dDef 26 "_walk", dDef 27 "check_house", dDef 28 "is_road", dDef 29 "check_road", dDef 30 "neighbours", dDef 31 "both_ways", dDef 36 "made_in", dDef 40 "last_of_cells", dDef 41 "is_script", dDef 42 "_is_deed", dDef 43 "run", dDef 44 "_do"]
def fn1 : List He.DefD := [dDef 46 "_law_cell", dDef 47 "_law_box", dDef 48 "_law_take", dDef 49 "_law_mixed", dDef 50 "_law_world", dDef 51 "_law_near", dDef 52 "_law_ways", dDef 53 "_law_begun", dDef 54 "_law_comes", dDef 55 "_law_left", dDef 56 "_law_is_house", dDef 57 "_law_due", dDef 58 "_law_did", dDef 59 "_law_shown", dDef 60 "_law_is", dDef 61 "_law_deed", dDef 62 "_law_asked", dDef 63 "_law_barred", dDef 64 "_law_doors", dDef 65 "_law_deeds"]
def fn2 : List He.DefD := [dDef 66 "_law_ended", dDef 67 "_law_copy", dDef 68 "_law_right", dDef 69 "law", dMet 21 0 "Tree" "__init__" "Tree.__init__" [], dMet 21 1 "Tree" "__len__" "Tree.__len__" [], dMet 21 2 "Tree" "__contains__" "Tree.__contains__" [], dMet 21 3 "Tree" "__eq__" "Tree.__eq__" [], dMet 21 5 "Tree" "step" "Tree.step" [], dMet 35 0 "Store" "__init__" "Store.__init__" [("cells", .non)], dMet 35 1 "Store" "__len__" "Store.__len__" [], dMet 35 2 "Store" "__eq__" "Store.__eq__" [], dMet 39 0 "Running" "__init__" "Running.__init__" [], dMet 39 1 "Running" "make" "Running.make" [], dMet 39 2 "Running" "hand" "Running.hand" [], dMet 39 3 "Running" "_arrive" "Running._arrive" [], dMet 39 4 "Running" "book" "Running.book" [], dMet 39 5 "Running" "under_way" "Running.under_way" [], dMet 39 6 "Running" "shows" "Running.shows" [], dMet 10 0 "InvalidHouse" "__init__" "InvalidHouse.__init__" []]
def fn3 : List He.DefD := [dMet 16 0 "NothingToMake" "__init__" "NothingToMake.__init__" [], dMet 15 0 "NotARoad" "__init__" "NotARoad.__init__" [], dMet 17 0 "NothingUnderWay" "__init__" "NothingUnderWay.__init__" []]
def fn : List He.DefD := fn0 ++ fn1 ++ fn2 ++ fn3
def fa0 : List He.Fa := [.free "len", .free "sum", .free "abs", .free "int", .free "bool", .free "list", .free "tuple", .free "repr", .free "isinstance", .free "range", .free "max", .free "min", .free "sorted", .free "enumerate", .free "all", .int "MOST_HOUSES" 16, .int "MOST_WRITES" 12, .int "CELLS" 6, .int "MOST_DEEDS" 400, .glo "is_whole"]
def fa1 : List He.Fa := [.glo "is_between", .glo "is_list", .glo "are_between", .glo "_are_roads", .glo "_is_low_high", .glo "_all_steps", .glo "_steps_to", .glo "_walk", .glo "check_house", .glo "is_road", .glo "check_road", .glo "neighbours", .glo "both_ways", .glo "made_in", .glo "last_of_cells", .glo "is_script", .glo "_is_deed", .glo "run", .glo "_do", .glo "_law_cell"]
def fa2 : List He.Fa := [.glo "_law_box", .glo "_law_take", .glo "_law_mixed", .glo "_law_world", .glo "_law_near", .glo "_law_ways", .glo "_law_begun", .glo "_law_comes", .glo "_law_left", .glo "_law_is_house", .glo "_law_due", .glo "_law_did", .glo "_law_shown", .glo "_law_is", .glo "_law_deed", .glo "_law_asked", .glo "_law_barred", .glo "_law_doors", .glo "_law_deeds", .glo "_law_ended"]
def fa3 : List He.Fa := [.glo "_law_copy", .glo "_law_right", .glo "law", .glo "Tree", .glo "Store", .glo "Running", .glo "InvalidHouse", .glo "NothingToMake", .glo "NotARoad", .glo "NothingUnderWay", .glo "LeftError", .cls "Tree", .mkr "Tree", .cls "Store", .mkr "Store", .cls "Running", .mkr "Running", .noat "Tree" "houses", .noat "Tree" "roads", .noat "Tree" "_toward"]
def fa4 : List He.Fa := [.noat "Tree" "_ways", .noat "Store" "tree", .noat "Store" "homes", .noat "Store" "cells", .noat "Running" "store", .noat "Running" "_unmade", .noat "Running" "_books", .noat "Running" "_handed_on", .noat "Running" "_deeds", .noat "InvalidHouse" "given", .noat "NothingToMake" "house", .noat "NotARoad" "u", .noat "NotARoad" "v", .noat "NothingUnderWay" "u", .noat "NothingUnderWay" "v", .meth "Tree" "__len__", .meth "Tree" "__contains__", .meth "Tree" "__eq__", .meth "Tree" "step", .meth "Store" "__len__"]
def fa5 : List He.Fa := [.meth "Store" "__eq__", .meth "Running" "make", .meth "Running" "hand", .meth "Running" "_arrive", .meth "Running" "book", .meth "Running" "under_way", .meth "Running" "shows", .meth "InvalidHouse" "__init__", .meth "NothingToMake" "__init__", .meth "NotARoad" "__init__", .meth "NothingUnderWay" "__init__", .exm "InvalidHouse" "InvalidHouse" true, .exm "NothingToMake" "InvalidHouse" false, .exm "NothingToMake" "NothingToMake" true, .exm "NotARoad" "InvalidHouse" false, .exm "NotARoad" "NothingToMake" false, .exm "NotARoad" "NotARoad" true, .exm "NothingUnderWay" "InvalidHouse" false, .exm "NothingUnderWay" "NothingToMake" false, .exm "NothingUnderWay" "NotARoad" false]
def fa6 : List He.Fa := [.exm "NothingUnderWay" "NothingUnderWay" true]
def fa : List He.Fa := fa0 ++ fa1 ++ fa2 ++ fa3 ++ fa4 ++ fa5 ++ fa6
/-- a property's getter -/
def pAd (K : PySem.W.Frag) (m : Str) : Addr := He.ma K (He.ga K "Running") m
def gAd (K : PySem.W.Frag) (m : Str) : Addr := match PySem.W.recIn K (pAd K m) "property" with
  | some (.ref g :: _) => g
  | _ => 0
def prop1 (K : PySem.W.Frag) (m : Str) : Bool := He.eqO (PySem.W.findIn K (.ref (He.ga K "Running")) m) (some (some (.ref (pAd K m)))) && (He.eqO (PySem.W.specialIn K (.ref (pAd K m)) "__get__") (some (some (.builtin "property.__get__"))) && (decide (PySem.W.takesIn K (.ref (pAd K m)) = some true) && (match PySem.W.recIn K (pAd K m) "property" with
  | some (.ref g :: _) => decide (g = gAd K m)
  | _ => false)))
def own1 (K : PySem.W.Frag) (x : Str) : Bool := He.eqO (PySem.W.findIn K (.ref (He.ga K x)) "__class__") (some (some (.builtin "object.__class__"))) && (He.eqO (PySem.W.specialIn K (.builtin "object.__class__") "__get__") (some (some (.builtin "getset_descriptor.__get__"))) && (decide (PySem.W.takesIn K (.builtin "object.__class__") = some true) && (decide (PySem.W.mroIn K (He.ga K x) (.type "object") = some true) && decide (PySem.W.kitOne K (.ref (He.ga K x)) (.ref (He.ga K x)) = some true))))
def err1 (K : PySem.W.Frag) (x : Str) : Bool := ekB K (He.ga K x) (He.ga K "LeftError") && decide (PySem.W.typeIn K (.ref (He.ma K (He.ga K x) "__init__")) = some (.type "function"))
def xs (K : PySem.W.Frag) : Bool := (List.lookup sysModules K).isSome && (prop1 K "finished" && (prop1 K "script" && (okW K (gAd K "finished") "Running.finished" && (okW K (gAd K "script") "Running.script" && (own1 K "Tree" && (own1 K "Store" && (err1 K "InvalidHouse" && (err1 K "NothingToMake" && (err1 K "NotARoad" && (err1 K "NothingUnderWay" && (decide (PySem.W.kitOne K (.ref (He.ga K "NothingUnderWay")) (.ref (He.ga K "LeftError")) = some true) &&
  (He.eqO (PySem.W.findIn K (.ref (He.ga K "Store")) "__ne__") (some (some (.builtin "object.__ne__"))) && decide (PySem.W.subIn K (.ref (He.ga K "Store")) (.type "object") = some true)))))))))))))
def ys (K : PySem.W.Frag) : List He.FnW := [atW K (gAd K "finished"), atW K (gAd K "script")]
def yv : List He.FnW := [some ("finished", "Running.finished", defArgs (inClass (top 39) 7), .stmts (defBody (inClass (top 39) 7)), defScope (inClass (top 39) 7), mainGlobals, [], builtinsNs), some ("script", "Running.script", defArgs (inClass (top 39) 8), .stmts (defBody (inClass (top 39) 8)), defScope (inClass (top 39) 8), mainGlobals, [], builtinsNs)]
abbrev Rw : PySem.W.OpenRow := PySem.W.OpenLaw.row PySem.Challenge.rw_looksleft_k04_runnings_deed_by_deed
abbrev hk : PySem.W.Hook := hookY fa fn xs ys yv
def frT (s : PySem.W.SharedT) : PySem.W.Frag := He.frG (HandSHeadRun.getT s) (seen (HandSHeadRun.getT s))
def ob (s : PySem.W.SharedT) : hk.α := (He.obsD fa fn (frT s), (xs (frT s), ys (frT s)))
theorem ob_eq (s : PySem.W.SharedT) : ob s = hk.obs s.abs := by
  have e : HandSHeadRun.getT s = s.abs.heap.get? := funext fun a => HandSHeadRun.getT_eq s a
  unfold ob frT
  rw [e]
  rfl
end Tr

set_option maxHeartbeats 0
/-! ### all defs of the row together (law k04) -/
namespace Tr
open PySem PySem.Spec PyProof.Rows L2 LK Evl
theorem kwB {K : PySem.W.Frag} {x qual : Str} {params : Arguments} {body : List Stmt} {scope : Scope} {f : Addr} {fd : FuncData} {binds : List (Str × Value)} {args : Args} (F : FunD K x qual params body scope [] [] f fd)
    (h : ∀ (kV doc pm : Value) (an : Option Addr) (cdv ct : Value), bindArgs (PySem.W.fnOf x qual params body scope .none kV doc pm an cdv ct) args = pure binds) (s : Shared) : BindsTo s fd args binds := by
  obtain ⟨oc, od, dV, kV, doc, pm, an, cdv, ct, osl, rfl, lk, hcd, hD, hK⟩ := F.ex
  rcases hD with ⟨_, rfl⟩ | ⟨e, _⟩
  · exact .of_eq (h kV doc pm an cdv ct)
  · exact absurd rfl e
theorem swap_upd {H : Hp} {a d : Addr} {A B C : HO} (n : d ≠ a) : upd (upd (upd H d A) a B) d C = upd (upd H d C) a B := by
  funext b
  by_cases e1 : b = a
  · rw [e1, upd_ne (Ne.symm n), upd_same, upd_same]
  · by_cases e2 : b = d
    · rw [e2, upd_same, upd_ne n, upd_same]
    · rw [upd_ne e2, upd_ne e1, upd_ne e2, upd_ne e1, upd_ne e2]

theorem valsRev : ∀ {vs : List V} {us : List Value}, Vals vs us → Vals vs.reverse us.reverse
  | _, _, .nil => .nil
  | _, _, .cons r t => by
    rw [List.reverse_cons, List.reverse_cons]
    exact (valsRev t).append (.cons r .nil)
section
variable {P : Program} {w : World} {K : PySem.W.Frag} {mg : Str → Option Value} {base : Heap} {C f : Addr} {fd : FuncData}
theorem scX10 : FnScope ["self", "given"] ["self", "given"] (defScope (inClass (top 10) 0)) := ⟨rfl, rfl, rfl, by decide +kernel, rfl, by decide +kernel, by decide +kernel⟩
theorem ok_X10 (F : FunD K "__init__" "InvalidHouse.__init__" (defArgs (inClass (top 10) 0)) (defBody (inClass (top 10) 0)) (defScope (inClass (top 10) 0)) [] [] f fd) (T : OexC K C) (n0 : PySem.W.findIn K (.ref C) "given" = some none) : FnOk P w K mg base CX0 2 f fd ["self", "given"] (spIni C ["given"]) := by
  refine F.ok scX10 (fun vs H Q E h => ?_) (fun cdv A outer s H vs Q E hr h => ⟨_, PSs.nox (pss_one (ps_ost (pv 0) (pv 1))), ?_⟩)
  · obtain ⟨a, ws, rfl, h, _⟩ := h
    simp [h]
  · obtain ⟨a, ws, rfl, h, ha, k⟩ := h
    match ws, h with
    | [v0], _ =>
      refine ⟨_, rfl, _, rfl, a, C, rfl, T, n0, .inl ⟨ha, fun dx n ne => ?_⟩⟩
      exact k dx n ne
theorem scX16 : FnScope ["self", "house"] ["self", "house"] (defScope (inClass (top 16) 0)) := ⟨rfl, rfl, rfl, by decide +kernel, rfl, by decide +kernel, by decide +kernel⟩
theorem ok_X16 (F : FunD K "__init__" "NothingToMake.__init__" (defArgs (inClass (top 16) 0)) (defBody (inClass (top 16) 0)) (defScope (inClass (top 16) 0)) [] [] f fd) (T : OexC K C) (n0 : PySem.W.findIn K (.ref C) "house" = some none) : FnOk P w K mg base CX0 2 f fd ["self", "house"] (spIni C ["house"]) := by
  refine F.ok scX16 (fun vs H Q E h => ?_) (fun cdv A outer s H vs Q E hr h => ⟨_, PSs.nox (pss_one (ps_ost (pv 0) (pv 1))), ?_⟩)
  · obtain ⟨a, ws, rfl, h, _⟩ := h
    simp [h]
  · obtain ⟨a, ws, rfl, h, ha, k⟩ := h
    match ws, h with
    | [v0], _ =>
      refine ⟨_, rfl, _, rfl, a, C, rfl, T, n0, .inl ⟨ha, fun dx n ne => ?_⟩⟩
      exact k dx n ne
theorem scX15 : FnScope ["self", "u", "v"] ["self", "u", "v"] (defScope (inClass (top 15) 0)) := ⟨rfl, rfl, rfl, by decide +kernel, rfl, by decide +kernel, by decide +kernel⟩
theorem ok_X15 (F : FunD K "__init__" "NotARoad.__init__" (defArgs (inClass (top 15) 0)) (defBody (inClass (top 15) 0)) (defScope (inClass (top 15) 0)) [] [] f fd) (T : OexC K C) (n0 : PySem.W.findIn K (.ref C) "u" = some none) (n1 : PySem.W.findIn K (.ref C) "v" = some none) : FnOk P w K mg base CX0 2 f fd ["self", "u", "v"] (spIni C ["u", "v"]) := by
  refine F.ok scX15 (fun vs H Q E h => ?_) (fun cdv A outer s H vs Q E hr h => ⟨_, PSs.nox (pss_cons (ps_ost (pv 0) (pv 1)) (pss_one (ps_ost (pv 0) (pv 2)))), ?_⟩)
  · obtain ⟨a, ws, rfl, h, _⟩ := h
    simp [h]
  · obtain ⟨a, ws, rfl, h, ha, k⟩ := h
    match ws, h with
    | [v0, v1], _ =>
      refine ⟨_, rfl, _, rfl, a, C, rfl, T, n0, .inl ⟨ha, fun dx n ne => ?_⟩⟩
      refine ⟨_, rfl, _, rfl, a, C, rfl, T, n1, .inr ⟨dx, _, upd_same, (upd_ne ne).trans upd_same, by simp, ?_⟩⟩
      rw [swap_upd ne]
      exact k dx n ne
theorem scX17 : FnScope ["self", "u", "v"] ["self", "u", "v"] (defScope (inClass (top 17) 0)) := ⟨rfl, rfl, rfl, by decide +kernel, rfl, by decide +kernel, by decide +kernel⟩
theorem ok_X17 (F : FunD K "__init__" "NothingUnderWay.__init__" (defArgs (inClass (top 17) 0)) (defBody (inClass (top 17) 0)) (defScope (inClass (top 17) 0)) [] [] f fd) (T : OexC K C) (n0 : PySem.W.findIn K (.ref C) "u" = some none) (n1 : PySem.W.findIn K (.ref C) "v" = some none) : FnOk P w K mg base CX0 2 f fd ["self", "u", "v"] (spIni C ["u", "v"]) := by
  refine F.ok scX17 (fun vs H Q E h => ?_) (fun cdv A outer s H vs Q E hr h => ⟨_, PSs.nox (pss_cons (ps_ost (pv 0) (pv 1)) (pss_one (ps_ost (pv 0) (pv 2)))), ?_⟩)
  · obtain ⟨a, ws, rfl, h, _⟩ := h
    simp [h]
  · obtain ⟨a, ws, rfl, h, ha, k⟩ := h
    match ws, h with
    | [v0, v1], _ =>
      refine ⟨_, rfl, _, rfl, a, C, rfl, T, n0, .inl ⟨ha, fun dx n ne => ?_⟩⟩
      refine ⟨_, rfl, _, rfl, a, C, rfl, T, n1, .inr ⟨dx, _, upd_same, (upd_ne ne).trans upd_same, by simp, ?_⟩⟩
      rw [swap_upd ne]
      exact k dx n ne
end
theorem all_law {P : Program} {w : World} {K : PySem.W.Frag} {h : Heap} {mg : Str → Option Value} (X : K.In h) (G : h.Ns mainGlobals mg) (c : He.SaysD fa fn K) (e : xs K = true) (y : ys K = yv) :
    ∃ fd : FuncData, mg "law" = some (.ref (He.ga K "law")) ∧ (∀ (s : Shared) (v : Value), BindsTo s fd ⟨[v], []⟩ [("script", v)]) ∧ ∀ base : Heap, FnG P w K mg base 11 (He.ga K "law") fd ["script"] (spLaw K) := by
  unfold xs at e
  simp only [Bool.and_eq_true] at e
  obtain ⟨x1, x2, x3, x4, x5, x6, x7, x8, x9, x10, x11, x12, x13, x14⟩ := e
  have sm := Option.isSome_iff_exists.mp x1
  have f_len : mg "len" = none := He.free_ok X G (x := "len") (c.fact 0)
  have f_sum : mg "sum" = none := He.free_ok X G (x := "sum") (c.fact 1)
  have f_abs : mg "abs" = none := He.free_ok X G (x := "abs") (c.fact 2)
  have f_int : mg "int" = none := He.free_ok X G (x := "int") (c.fact 3)
  have f_bool : mg "bool" = none := He.free_ok X G (x := "bool") (c.fact 4)
  have f_list : mg "list" = none := He.free_ok X G (x := "list") (c.fact 5)
  have f_tuple : mg "tuple" = none := He.free_ok X G (x := "tuple") (c.fact 6)
  have f_repr : mg "repr" = none := He.free_ok X G (x := "repr") (c.fact 7)
  have f_isinstance : mg "isinstance" = none := He.free_ok X G (x := "isinstance") (c.fact 8)
  have f_range : mg "range" = none := He.free_ok X G (x := "range") (c.fact 9)
  have f_max : mg "max" = none := He.free_ok X G (x := "max") (c.fact 10)
  have f_min : mg "min" = none := He.free_ok X G (x := "min") (c.fact 11)
  have f_sorted : mg "sorted" = none := He.free_ok X G (x := "sorted") (c.fact 12)
  have f_enumerate : mg "enumerate" = none := He.free_ok X G (x := "enumerate") (c.fact 13)
  have f_all : mg "all" = none := He.free_ok X G (x := "all") (c.fact 14)
  obtain ⟨t_MOST_HOUSES, c_MOST_HOUSES⟩ := He.int_ok X G (x := "MOST_HOUSES") (i := 16) (c.fact 15)
  obtain ⟨t_MOST_WRITES, c_MOST_WRITES⟩ := He.int_ok X G (x := "MOST_WRITES") (i := 12) (c.fact 16)
  obtain ⟨t_CELLS, c_CELLS⟩ := He.int_ok X G (x := "CELLS") (i := 6) (c.fact 17)
  obtain ⟨t_MOST_DEEDS, c_MOST_DEEDS⟩ := He.int_ok X G (x := "MOST_DEEDS") (i := 400) (c.fact 18)
  have g_Tree : mg "Tree" = some (.ref (He.ga K "Tree")) := He.glo_ok X G (x := "Tree") (c.fact 63)
  have g_Store : mg "Store" = some (.ref (He.ga K "Store")) := He.glo_ok X G (x := "Store") (c.fact 64)
  have g_Running : mg "Running" = some (.ref (He.ga K "Running")) := He.glo_ok X G (x := "Running") (c.fact 65)
  have g_InvalidHouse : mg "InvalidHouse" = some (.ref (He.ga K "InvalidHouse")) := He.glo_ok X G (x := "InvalidHouse") (c.fact 66)
  have g_NothingToMake : mg "NothingToMake" = some (.ref (He.ga K "NothingToMake")) := He.glo_ok X G (x := "NothingToMake") (c.fact 67)
  have g_NotARoad : mg "NotARoad" = some (.ref (He.ga K "NotARoad")) := He.glo_ok X G (x := "NotARoad") (c.fact 68)
  have g_NothingUnderWay : mg "NothingUnderWay" = some (.ref (He.ga K "NothingUnderWay")) := He.glo_ok X G (x := "NothingUnderWay") (c.fact 69)
  have g_LeftError : mg "LeftError" = some (.ref (He.ga K "LeftError")) := He.glo_ok X G (x := "LeftError") (c.fact 70)
  have cl_Tree : Cls K (He.ga K "Tree") := He.cls_ok (x := "Tree") (c.fact 71)
  have mk_Tree : Mk K (He.ga K "Tree") (He.ma K (He.ga K "Tree") "__init__") := He.mkr_ok (x := "Tree") (c.fact 72)
  have cl_Store : Cls K (He.ga K "Store") := He.cls_ok (x := "Store") (c.fact 73)
  have mk_Store : Mk K (He.ga K "Store") (He.ma K (He.ga K "Store") "__init__") := He.mkr_ok (x := "Store") (c.fact 74)
  have cl_Running : Cls K (He.ga K "Running") := He.cls_ok (x := "Running") (c.fact 75)
  have mk_Running : Mk K (He.ga K "Running") (He.ma K (He.ga K "Running") "__init__") := He.mkr_ok (x := "Running") (c.fact 76)
  have na_Tree_houses : NoAttr K (He.ga K "Tree") "houses" := He.noat_ok (x := "Tree") (f := "houses") (c.fact 77)
  have na_Tree_roads : NoAttr K (He.ga K "Tree") "roads" := He.noat_ok (x := "Tree") (f := "roads") (c.fact 78)
  have na_Tree__toward : NoAttr K (He.ga K "Tree") "_toward" := He.noat_ok (x := "Tree") (f := "_toward") (c.fact 79)
  have na_Tree__ways : NoAttr K (He.ga K "Tree") "_ways" := He.noat_ok (x := "Tree") (f := "_ways") (c.fact 80)
  have na_Store_tree : NoAttr K (He.ga K "Store") "tree" := He.noat_ok (x := "Store") (f := "tree") (c.fact 81)
  have na_Store_homes : NoAttr K (He.ga K "Store") "homes" := He.noat_ok (x := "Store") (f := "homes") (c.fact 82)
  have na_Store_cells : NoAttr K (He.ga K "Store") "cells" := He.noat_ok (x := "Store") (f := "cells") (c.fact 83)
  have na_Running_store : NoAttr K (He.ga K "Running") "store" := He.noat_ok (x := "Running") (f := "store") (c.fact 84)
  have na_Running__unmade : NoAttr K (He.ga K "Running") "_unmade" := He.noat_ok (x := "Running") (f := "_unmade") (c.fact 85)
  have na_Running__books : NoAttr K (He.ga K "Running") "_books" := He.noat_ok (x := "Running") (f := "_books") (c.fact 86)
  have na_Running__handed_on : NoAttr K (He.ga K "Running") "_handed_on" := He.noat_ok (x := "Running") (f := "_handed_on") (c.fact 87)
  have na_Running__deeds : NoAttr K (He.ga K "Running") "_deeds" := He.noat_ok (x := "Running") (f := "_deeds") (c.fact 88)
  have na_InvalidHouse_given : NoAttr K (He.ga K "InvalidHouse") "given" := He.noat_ok (x := "InvalidHouse") (f := "given") (c.fact 89)
  have na_NothingToMake_house : NoAttr K (He.ga K "NothingToMake") "house" := He.noat_ok (x := "NothingToMake") (f := "house") (c.fact 90)
  have na_NotARoad_u : NoAttr K (He.ga K "NotARoad") "u" := He.noat_ok (x := "NotARoad") (f := "u") (c.fact 91)
  have na_NotARoad_v : NoAttr K (He.ga K "NotARoad") "v" := He.noat_ok (x := "NotARoad") (f := "v") (c.fact 92)
  have na_NothingUnderWay_u : NoAttr K (He.ga K "NothingUnderWay") "u" := He.noat_ok (x := "NothingUnderWay") (f := "u") (c.fact 93)
  have na_NothingUnderWay_v : NoAttr K (He.ga K "NothingUnderWay") "v" := He.noat_ok (x := "NothingUnderWay") (f := "v") (c.fact 94)
  have me_Tree___len__ : Meth K (He.ga K "Tree") "__len__" (He.ma K (He.ga K "Tree") "__len__") := He.meth_ok (x := "Tree") (m := "__len__") (c.fact 95)
  have me_Tree___contains__ : Meth K (He.ga K "Tree") "__contains__" (He.ma K (He.ga K "Tree") "__contains__") := He.meth_ok (x := "Tree") (m := "__contains__") (c.fact 96)
  have me_Tree___eq__ : Meth K (He.ga K "Tree") "__eq__" (He.ma K (He.ga K "Tree") "__eq__") := He.meth_ok (x := "Tree") (m := "__eq__") (c.fact 97)
  have me_Tree_step : Meth K (He.ga K "Tree") "step" (He.ma K (He.ga K "Tree") "step") := He.meth_ok (x := "Tree") (m := "step") (c.fact 98)
  have me_Store___len__ : Meth K (He.ga K "Store") "__len__" (He.ma K (He.ga K "Store") "__len__") := He.meth_ok (x := "Store") (m := "__len__") (c.fact 99)
  have me_Store___eq__ : Meth K (He.ga K "Store") "__eq__" (He.ma K (He.ga K "Store") "__eq__") := He.meth_ok (x := "Store") (m := "__eq__") (c.fact 100)
  have me_Running_make : Meth K (He.ga K "Running") "make" (He.ma K (He.ga K "Running") "make") := He.meth_ok (x := "Running") (m := "make") (c.fact 101)
  have me_Running_hand : Meth K (He.ga K "Running") "hand" (He.ma K (He.ga K "Running") "hand") := He.meth_ok (x := "Running") (m := "hand") (c.fact 102)
  have me_Running__arrive : Meth K (He.ga K "Running") "_arrive" (He.ma K (He.ga K "Running") "_arrive") := He.meth_ok (x := "Running") (m := "_arrive") (c.fact 103)
  have me_Running_book : Meth K (He.ga K "Running") "book" (He.ma K (He.ga K "Running") "book") := He.meth_ok (x := "Running") (m := "book") (c.fact 104)
  have me_Running_under_way : Meth K (He.ga K "Running") "under_way" (He.ma K (He.ga K "Running") "under_way") := He.meth_ok (x := "Running") (m := "under_way") (c.fact 105)
  have me_Running_shows : Meth K (He.ga K "Running") "shows" (He.ma K (He.ga K "Running") "shows") := He.meth_ok (x := "Running") (m := "shows") (c.fact 106)
  have me_InvalidHouse___init__ : Meth K (He.ga K "InvalidHouse") "__init__" (He.ma K (He.ga K "InvalidHouse") "__init__") := He.meth_ok (x := "InvalidHouse") (m := "__init__") (c.fact 107)
  have me_NothingToMake___init__ : Meth K (He.ga K "NothingToMake") "__init__" (He.ma K (He.ga K "NothingToMake") "__init__") := He.meth_ok (x := "NothingToMake") (m := "__init__") (c.fact 108)
  have me_NotARoad___init__ : Meth K (He.ga K "NotARoad") "__init__" (He.ma K (He.ga K "NotARoad") "__init__") := He.meth_ok (x := "NotARoad") (m := "__init__") (c.fact 109)
  have me_NothingUnderWay___init__ : Meth K (He.ga K "NothingUnderWay") "__init__" (He.ma K (He.ga K "NothingUnderWay") "__init__") := He.meth_ok (x := "NothingUnderWay") (m := "__init__") (c.fact 110)
  have ex_II : PySem.W.exmOne K (.ref (He.ga K "InvalidHouse")) (.ref (He.ga K "InvalidHouse")) = some true := He.exm_ok (x := "InvalidHouse") (y := "InvalidHouse") (c.fact 111)
  have ex_MI : PySem.W.exmOne K (.ref (He.ga K "NothingToMake")) (.ref (He.ga K "InvalidHouse")) = some false := He.exm_ok (x := "NothingToMake") (y := "InvalidHouse") (c.fact 112)
  have ex_MM : PySem.W.exmOne K (.ref (He.ga K "NothingToMake")) (.ref (He.ga K "NothingToMake")) = some true := He.exm_ok (x := "NothingToMake") (y := "NothingToMake") (c.fact 113)
  have ex_NI : PySem.W.exmOne K (.ref (He.ga K "NotARoad")) (.ref (He.ga K "InvalidHouse")) = some false := He.exm_ok (x := "NotARoad") (y := "InvalidHouse") (c.fact 114)
  have ex_NM : PySem.W.exmOne K (.ref (He.ga K "NotARoad")) (.ref (He.ga K "NothingToMake")) = some false := He.exm_ok (x := "NotARoad") (y := "NothingToMake") (c.fact 115)
  have ex_NN : PySem.W.exmOne K (.ref (He.ga K "NotARoad")) (.ref (He.ga K "NotARoad")) = some true := He.exm_ok (x := "NotARoad") (y := "NotARoad") (c.fact 116)
  have ex_WI : PySem.W.exmOne K (.ref (He.ga K "NothingUnderWay")) (.ref (He.ga K "InvalidHouse")) = some false := He.exm_ok (x := "NothingUnderWay") (y := "InvalidHouse") (c.fact 117)
  have ex_WM : PySem.W.exmOne K (.ref (He.ga K "NothingUnderWay")) (.ref (He.ga K "NothingToMake")) = some false := He.exm_ok (x := "NothingUnderWay") (y := "NothingToMake") (c.fact 118)
  have ex_WN : PySem.W.exmOne K (.ref (He.ga K "NothingUnderWay")) (.ref (He.ga K "NotARoad")) = some false := He.exm_ok (x := "NothingUnderWay") (y := "NotARoad") (c.fact 119)
  have ex_WW : PySem.W.exmOne K (.ref (He.ga K "NothingUnderWay")) (.ref (He.ga K "NothingUnderWay")) = some true := He.exm_ok (x := "NothingUnderWay") (y := "NothingUnderWay") (c.fact 120)
  obtain ⟨d_is_whole, F_is_whole⟩ := c.def_ 0 (d := dDef 2 "is_whole") rfl
  have k_is_whole : Kd K mg "is_whole" ["value"] (He.ga K "is_whole") d_is_whole := ⟨He.glo_ok X G (x := "is_whole") (c.fact 19), F_is_whole.kp, FunD.bindsN F_is_whole fun _ _ _ _ _ _ us hl => match us, hl with | [_], _ => rfl⟩
  obtain ⟨d_is_between, F_is_between⟩ := c.def_ 1 (d := dDef 3 "is_between") rfl
  have k_is_between : Kd K mg "is_between" ["value", "low", "high"] (He.ga K "is_between") d_is_between := ⟨He.glo_ok X G (x := "is_between") (c.fact 20), F_is_between.kp, FunD.bindsN F_is_between fun _ _ _ _ _ _ us hl => match us, hl with | [_, _, _], _ => rfl⟩
  obtain ⟨d_is_list, F_is_list⟩ := c.def_ 2 (d := dDef 4 "is_list") rfl
  have k_is_list : Kd K mg "is_list" ["value"] (He.ga K "is_list") d_is_list := ⟨He.glo_ok X G (x := "is_list") (c.fact 21), F_is_list.kp, FunD.bindsN F_is_list fun _ _ _ _ _ _ us hl => match us, hl with | [_], _ => rfl⟩
  obtain ⟨d_are_between, F_are_between⟩ := c.def_ 3 (d := dDef 5 "are_between") rfl
  have k_are_between : Kd K mg "are_between" ["value", "low", "high"] (He.ga K "are_between") d_are_between := ⟨He.glo_ok X G (x := "are_between") (c.fact 22), F_are_between.kp, FunD.bindsN F_are_between fun _ _ _ _ _ _ us hl => match us, hl with | [_, _, _], _ => rfl⟩
  obtain ⟨d__are_roads, F__are_roads⟩ := c.def_ 4 (d := dDef 22 "_are_roads") rfl
  have k__are_roads : Kd K mg "_are_roads" ["houses", "value"] (He.ga K "_are_roads") d__are_roads := ⟨He.glo_ok X G (x := "_are_roads") (c.fact 23), F__are_roads.kp, FunD.bindsN F__are_roads fun _ _ _ _ _ _ us hl => match us, hl with | [_, _], _ => rfl⟩
  obtain ⟨d__is_low_high, F__is_low_high⟩ := c.def_ 5 (d := dDef 23 "_is_low_high") rfl
  have k__is_low_high : Kd K mg "_is_low_high" ["houses", "value"] (He.ga K "_is_low_high") d__is_low_high := ⟨He.glo_ok X G (x := "_is_low_high") (c.fact 24), F__is_low_high.kp, FunD.bindsN F__is_low_high fun _ _ _ _ _ _ us hl => match us, hl with | [_, _], _ => rfl⟩
  obtain ⟨d__all_steps, F__all_steps⟩ := c.def_ 6 (d := dDef 24 "_all_steps") rfl
  have k__all_steps : Kd K mg "_all_steps" ["houses", "roads"] (He.ga K "_all_steps") d__all_steps := ⟨He.glo_ok X G (x := "_all_steps") (c.fact 25), F__all_steps.kp, FunD.bindsN F__all_steps fun _ _ _ _ _ _ us hl => match us, hl with | [_, _], _ => rfl⟩
  obtain ⟨d__steps_to, F__steps_to⟩ := c.def_ 7 (d := dDef 25 "_steps_to") rfl
  have k__steps_to : Kd K mg "_steps_to" ["near", "target"] (He.ga K "_steps_to") d__steps_to := ⟨He.glo_ok X G (x := "_steps_to") (c.fact 26), F__steps_to.kp, FunD.bindsN F__steps_to fun _ _ _ _ _ _ us hl => match us, hl with | [_, _], _ => rfl⟩
  obtain ⟨d__walk, F__walk⟩ := c.def_ 8 (d := dDef 26 "_walk") rfl
  have k__walk : Kd K mg "_walk" ["steps", "house"] (He.ga K "_walk") d__walk := ⟨He.glo_ok X G (x := "_walk") (c.fact 27), F__walk.kp, FunD.bindsN F__walk fun _ _ _ _ _ _ us hl => match us, hl with | [_, _], _ => rfl⟩
  obtain ⟨d_check_house, F_check_house⟩ := c.def_ 9 (d := dDef 27 "check_house") rfl
  have k_check_house : Kd K mg "check_house" ["tree", "house"] (He.ga K "check_house") d_check_house := ⟨He.glo_ok X G (x := "check_house") (c.fact 28), F_check_house.kp, FunD.bindsN F_check_house fun _ _ _ _ _ _ us hl => match us, hl with | [_, _], _ => rfl⟩
  obtain ⟨d_is_road, F_is_road⟩ := c.def_ 10 (d := dDef 28 "is_road") rfl
  have k_is_road : Kd K mg "is_road" ["tree", "u", "v"] (He.ga K "is_road") d_is_road := ⟨He.glo_ok X G (x := "is_road") (c.fact 29), F_is_road.kp, FunD.bindsN F_is_road fun _ _ _ _ _ _ us hl => match us, hl with | [_, _, _], _ => rfl⟩
  obtain ⟨d_check_road, F_check_road⟩ := c.def_ 11 (d := dDef 29 "check_road") rfl
  have k_check_road : Kd K mg "check_road" ["tree", "u", "v"] (He.ga K "check_road") d_check_road := ⟨He.glo_ok X G (x := "check_road") (c.fact 30), F_check_road.kp, FunD.bindsN F_check_road fun _ _ _ _ _ _ us hl => match us, hl with | [_, _, _], _ => rfl⟩
  obtain ⟨d_neighbours, F_neighbours⟩ := c.def_ 12 (d := dDef 30 "neighbours") rfl
  have k_neighbours : Kd K mg "neighbours" ["tree", "house"] (He.ga K "neighbours") d_neighbours := ⟨He.glo_ok X G (x := "neighbours") (c.fact 31), F_neighbours.kp, FunD.bindsN F_neighbours fun _ _ _ _ _ _ us hl => match us, hl with | [_, _], _ => rfl⟩
  obtain ⟨d_both_ways, F_both_ways⟩ := c.def_ 13 (d := dDef 31 "both_ways") rfl
  have k_both_ways : Kd K mg "both_ways" ["tree"] (He.ga K "both_ways") d_both_ways := ⟨He.glo_ok X G (x := "both_ways") (c.fact 32), F_both_ways.kp, FunD.bindsN F_both_ways fun _ _ _ _ _ _ us hl => match us, hl with | [_], _ => rfl⟩
  obtain ⟨d_made_in, F_made_in⟩ := c.def_ 14 (d := dDef 36 "made_in") rfl
  have k_made_in : Kd K mg "made_in" ["store", "house"] (He.ga K "made_in") d_made_in := ⟨He.glo_ok X G (x := "made_in") (c.fact 33), F_made_in.kp, FunD.bindsN F_made_in fun _ _ _ _ _ _ us hl => match us, hl with | [_, _], _ => rfl⟩
  obtain ⟨d_last_of_cells, F_last_of_cells⟩ := c.def_ 15 (d := dDef 40 "last_of_cells") rfl
  have k_last_of_cells : Kd K mg "last_of_cells" ["store", "book"] (He.ga K "last_of_cells") d_last_of_cells := ⟨He.glo_ok X G (x := "last_of_cells") (c.fact 34), F_last_of_cells.kp, FunD.bindsN F_last_of_cells fun _ _ _ _ _ _ us hl => match us, hl with | [_, _], _ => rfl⟩
  obtain ⟨d_is_script, F_is_script⟩ := c.def_ 16 (d := dDef 41 "is_script") rfl
  have k_is_script : Kd K mg "is_script" ["store", "value"] (He.ga K "is_script") d_is_script := ⟨He.glo_ok X G (x := "is_script") (c.fact 35), F_is_script.kp, FunD.bindsN F_is_script fun _ _ _ _ _ _ us hl => match us, hl with | [_, _], _ => rfl⟩
  obtain ⟨d__is_deed, F__is_deed⟩ := c.def_ 17 (d := dDef 42 "_is_deed") rfl
  have k__is_deed : Kd K mg "_is_deed" ["tree", "value"] (He.ga K "_is_deed") d__is_deed := ⟨He.glo_ok X G (x := "_is_deed") (c.fact 36), F__is_deed.kp, FunD.bindsN F__is_deed fun _ _ _ _ _ _ us hl => match us, hl with | [_, _], _ => rfl⟩
  obtain ⟨d_run, F_run⟩ := c.def_ 18 (d := dDef 43 "run") rfl
  have k_run : Kd K mg "run" ["store", "script"] (He.ga K "run") d_run := ⟨He.glo_ok X G (x := "run") (c.fact 37), F_run.kp, FunD.bindsN F_run fun _ _ _ _ _ _ us hl => match us, hl with | [_, _], _ => rfl⟩
  obtain ⟨d__do, F__do⟩ := c.def_ 19 (d := dDef 44 "_do") rfl
  have k__do : Kd K mg "_do" ["running", "deed"] (He.ga K "_do") d__do := ⟨He.glo_ok X G (x := "_do") (c.fact 38), F__do.kp, FunD.bindsN F__do fun _ _ _ _ _ _ us hl => match us, hl with | [_, _], _ => rfl⟩
  obtain ⟨d__law_cell, F__law_cell⟩ := c.def_ 20 (d := dDef 46 "_law_cell") rfl
  have k__law_cell : Kd K mg "_law_cell" ["script", "k"] (He.ga K "_law_cell") d__law_cell := ⟨He.glo_ok X G (x := "_law_cell") (c.fact 39), F__law_cell.kp, FunD.bindsN F__law_cell fun _ _ _ _ _ _ us hl => match us, hl with | [_, _], _ => rfl⟩
  obtain ⟨d__law_box, F__law_box⟩ := c.def_ 21 (d := dDef 47 "_law_box") rfl
  have k__law_box : Kd K mg "_law_box" ["great"] (He.ga K "_law_box") d__law_box := ⟨He.glo_ok X G (x := "_law_box") (c.fact 40), F__law_box.kp, FunD.bindsN F__law_box fun _ _ _ _ _ _ us hl => match us, hl with | [_], _ => rfl⟩
  obtain ⟨d__law_take, F__law_take⟩ := c.def_ 22 (d := dDef 48 "_law_take") rfl
  have k__law_take : Kd K mg "_law_take" ["box", "many"] (He.ga K "_law_take") d__law_take := ⟨He.glo_ok X G (x := "_law_take") (c.fact 41), F__law_take.kp, FunD.bindsN F__law_take fun _ _ _ _ _ _ us hl => match us, hl with | [_, _], _ => rfl⟩
  obtain ⟨d__law_mixed, F__law_mixed⟩ := c.def_ 23 (d := dDef 49 "_law_mixed") rfl
  have k__law_mixed : Kd K mg "_law_mixed" ["box", "items"] (He.ga K "_law_mixed") d__law_mixed := ⟨He.glo_ok X G (x := "_law_mixed") (c.fact 42), F__law_mixed.kp, FunD.bindsN F__law_mixed fun _ _ _ _ _ _ us hl => match us, hl with | [_, _], _ => rfl⟩
  obtain ⟨d__law_world, F__law_world⟩ := c.def_ 24 (d := dDef 50 "_law_world") rfl
  have k__law_world : Kd K mg "_law_world" ["box", "great"] (He.ga K "_law_world") d__law_world := ⟨He.glo_ok X G (x := "_law_world") (c.fact 43), F__law_world.kp, FunD.bindsN F__law_world fun _ _ _ _ _ _ us hl => match us, hl with | [_, _], _ => rfl⟩
  obtain ⟨d__law_near, F__law_near⟩ := c.def_ 25 (d := dDef 51 "_law_near") rfl
  have k__law_near : Kd K mg "_law_near" ["world", "house"] (He.ga K "_law_near") d__law_near := ⟨He.glo_ok X G (x := "_law_near") (c.fact 44), F__law_near.kp, FunD.bindsN F__law_near fun _ _ _ _ _ _ us hl => match us, hl with | [_, _], _ => rfl⟩
  obtain ⟨d__law_ways, F__law_ways⟩ := c.def_ 26 (d := dDef 52 "_law_ways") rfl
  have k__law_ways : Kd K mg "_law_ways" ["world"] (He.ga K "_law_ways") d__law_ways := ⟨He.glo_ok X G (x := "_law_ways") (c.fact 45), F__law_ways.kp, FunD.bindsN F__law_ways fun _ _ _ _ _ _ us hl => match us, hl with | [_], _ => rfl⟩
  obtain ⟨d__law_begun, F__law_begun⟩ := c.def_ 27 (d := dDef 53 "_law_begun") rfl
  have k__law_begun : Kd K mg "_law_begun" ["world"] (He.ga K "_law_begun") d__law_begun := ⟨He.glo_ok X G (x := "_law_begun") (c.fact 46), F__law_begun.kp, FunD.bindsN F__law_begun fun _ _ _ _ _ _ us hl => match us, hl with | [_], _ => rfl⟩
  obtain ⟨d__law_comes, F__law_comes⟩ := c.def_ 28 (d := dDef 54 "_law_comes") rfl
  have k__law_comes : Kd K mg "_law_comes" ["world", "state", "house", "write", "source"] (He.ga K "_law_comes") d__law_comes := ⟨He.glo_ok X G (x := "_law_comes") (c.fact 47), F__law_comes.kp, FunD.bindsN F__law_comes fun _ _ _ _ _ _ us hl => match us, hl with | [_, _, _, _, _], _ => rfl⟩
  obtain ⟨d__law_left, F__law_left⟩ := c.def_ 29 (d := dDef 55 "_law_left") rfl
  have k__law_left : Kd K mg "_law_left" ["world", "state", "house"] (He.ga K "_law_left") d__law_left := ⟨He.glo_ok X G (x := "_law_left") (c.fact 48), F__law_left.kp, FunD.bindsN F__law_left fun _ _ _ _ _ _ us hl => match us, hl with | [_, _, _], _ => rfl⟩
  obtain ⟨d__law_is_house, F__law_is_house⟩ := c.def_ 30 (d := dDef 56 "_law_is_house") rfl
  have k__law_is_house : Kd K mg "_law_is_house" ["world", "value"] (He.ga K "_law_is_house") d__law_is_house := ⟨He.glo_ok X G (x := "_law_is_house") (c.fact 49), F__law_is_house.kp, FunD.bindsN F__law_is_house fun _ _ _ _ _ _ us hl => match us, hl with | [_, _], _ => rfl⟩
  obtain ⟨d__law_due, F__law_due⟩ := c.def_ 31 (d := dDef 57 "_law_due") rfl
  have k__law_due : Kd K mg "_law_due" ["world", "state", "deed"] (He.ga K "_law_due") d__law_due := ⟨He.glo_ok X G (x := "_law_due") (c.fact 50), F__law_due.kp, FunD.bindsN F__law_due fun _ _ _ _ _ _ us hl => match us, hl with | [_, _, _], _ => rfl⟩
  obtain ⟨d__law_did, F__law_did⟩ := c.def_ 32 (d := dDef 58 "_law_did") rfl
  have k__law_did : Kd K mg "_law_did" ["running", "deed", "turn"] (He.ga K "_law_did") d__law_did := ⟨He.glo_ok X G (x := "_law_did") (c.fact 51), F__law_did.kp, FunD.bindsN F__law_did fun _ _ _ _ _ _ us hl => match us, hl with | [_, _, _], _ => rfl⟩
  obtain ⟨d__law_shown, F__law_shown⟩ := c.def_ 33 (d := dDef 59 "_law_shown") rfl
  have k__law_shown : Kd K mg "_law_shown" ["world", "book", "cell"] (He.ga K "_law_shown") d__law_shown := ⟨He.glo_ok X G (x := "_law_shown") (c.fact 52), F__law_shown.kp, FunD.bindsN F__law_shown fun _ _ _ _ _ _ us hl => match us, hl with | [_, _, _], _ => rfl⟩
  obtain ⟨d__law_is, F__law_is⟩ := c.def_ 34 (d := dDef 60 "_law_is") rfl
  have k__law_is : Kd K mg "_law_is" ["world", "running", "state", "turn"] (He.ga K "_law_is") d__law_is := ⟨He.glo_ok X G (x := "_law_is") (c.fact 53), F__law_is.kp, FunD.bindsN F__law_is fun _ _ _ _ _ _ us hl => match us, hl with | [_, _, _, _], _ => rfl⟩
  obtain ⟨d__law_deed, F__law_deed⟩ := c.def_ 35 (d := dDef 61 "_law_deed") rfl
  have k__law_deed : Kd K mg "_law_deed" ["box", "world", "state"] (He.ga K "_law_deed") d__law_deed := ⟨He.glo_ok X G (x := "_law_deed") (c.fact 54), F__law_deed.kp, FunD.bindsN F__law_deed fun _ _ _ _ _ _ us hl => match us, hl with | [_, _, _], _ => rfl⟩
  obtain ⟨d__law_asked, F__law_asked⟩ := c.def_ 36 (d := dDef 62 "_law_asked") rfl
  have k__law_asked : Kd K mg "_law_asked" ["running", "deed"] (He.ga K "_law_asked") d__law_asked := ⟨He.glo_ok X G (x := "_law_asked") (c.fact 55), F__law_asked.kp, FunD.bindsN F__law_asked fun _ _ _ _ _ _ us hl => match us, hl with | [_, _], _ => rfl⟩
  obtain ⟨d__law_barred, F__law_barred⟩ := c.def_ 37 (d := dDef 63 "_law_barred") rfl
  have k__law_barred : Kd K mg "_law_barred" ["running", "value", "turn"] (He.ga K "_law_barred") d__law_barred := ⟨He.glo_ok X G (x := "_law_barred") (c.fact 56), F__law_barred.kp, FunD.bindsN F__law_barred fun _ _ _ _ _ _ us hl => match us, hl with | [_, _, _], _ => rfl⟩
  obtain ⟨d__law_doors, F__law_doors⟩ := c.def_ 38 (d := dDef 64 "_law_doors") rfl
  have k__law_doors : Kd K mg "_law_doors" ["world", "running", "turn"] (He.ga K "_law_doors") d__law_doors := ⟨He.glo_ok X G (x := "_law_doors") (c.fact 57), F__law_doors.kp, FunD.bindsN F__law_doors fun _ _ _ _ _ _ us hl => match us, hl with | [_, _, _], _ => rfl⟩
  obtain ⟨d__law_deeds, F__law_deeds⟩ := c.def_ 39 (d := dDef 65 "_law_deeds") rfl
  have k__law_deeds : Kd K mg "_law_deeds" ["box", "worlds", "runnings", "states", "many", "often"] (He.ga K "_law_deeds") d__law_deeds := ⟨He.glo_ok X G (x := "_law_deeds") (c.fact 58), F__law_deeds.kp, FunD.bindsN F__law_deeds fun _ _ _ _ _ _ us hl => match us, hl with | [_, _, _, _, _, _], _ => rfl⟩
  obtain ⟨d__law_ended, F__law_ended⟩ := c.def_ 40 (d := dDef 66 "_law_ended") rfl
  have k__law_ended : Kd K mg "_law_ended" ["box", "world", "running", "state"] (He.ga K "_law_ended") d__law_ended := ⟨He.glo_ok X G (x := "_law_ended") (c.fact 59), F__law_ended.kp, FunD.bindsN F__law_ended fun _ _ _ _ _ _ us hl => match us, hl with | [_, _, _, _], _ => rfl⟩
  obtain ⟨d__law_copy, F__law_copy⟩ := c.def_ 41 (d := dDef 67 "_law_copy") rfl
  have k__law_copy : Kd K mg "_law_copy" ["world", "state"] (He.ga K "_law_copy") d__law_copy := ⟨He.glo_ok X G (x := "_law_copy") (c.fact 60), F__law_copy.kp, FunD.bindsN F__law_copy fun _ _ _ _ _ _ us hl => match us, hl with | [_, _], _ => rfl⟩
  obtain ⟨d__law_right, F__law_right⟩ := c.def_ 42 (d := dDef 68 "_law_right") rfl
  have k__law_right : Kd K mg "_law_right" ["box", "great"] (He.ga K "_law_right") d__law_right := ⟨He.glo_ok X G (x := "_law_right") (c.fact 61), F__law_right.kp, FunD.bindsN F__law_right fun _ _ _ _ _ _ us hl => match us, hl with | [_, _], _ => rfl⟩
  obtain ⟨d_law, F_law⟩ := c.def_ 43 (d := dDef 69 "law") rfl
  have k_law : Kd K mg "law" ["script"] (He.ga K "law") d_law := ⟨He.glo_ok X G (x := "law") (c.fact 62), F_law.kp, FunD.bindsN F_law fun _ _ _ _ _ _ us hl => match us, hl with | [_], _ => rfl⟩
  obtain ⟨d_Tree___init__, F_Tree___init__⟩ := c.def_ 44 (d := dMet 21 0 "Tree" "__init__" "Tree.__init__" []) rfl
  have b_Tree___init__ : Binds K d_Tree___init__ ["self", "houses", "roads"] [] := FunD.bindsN F_Tree___init__ fun _ _ _ _ _ _ us hl => match us, hl with | [_, _, _], _ => rfl
  obtain ⟨d_Tree___len__, F_Tree___len__⟩ := c.def_ 45 (d := dMet 21 1 "Tree" "__len__" "Tree.__len__" []) rfl
  have b_Tree___len__ : Binds K d_Tree___len__ ["self"] [] := FunD.bindsN F_Tree___len__ fun _ _ _ _ _ _ us hl => match us, hl with | [_], _ => rfl
  obtain ⟨d_Tree___contains__, F_Tree___contains__⟩ := c.def_ 46 (d := dMet 21 2 "Tree" "__contains__" "Tree.__contains__" []) rfl
  have b_Tree___contains__ : Binds K d_Tree___contains__ ["self", "value"] [] := FunD.bindsN F_Tree___contains__ fun _ _ _ _ _ _ us hl => match us, hl with | [_, _], _ => rfl
  obtain ⟨d_Tree___eq__, F_Tree___eq__⟩ := c.def_ 47 (d := dMet 21 3 "Tree" "__eq__" "Tree.__eq__" []) rfl
  have b_Tree___eq__ : Binds K d_Tree___eq__ ["self", "other"] [] := FunD.bindsN F_Tree___eq__ fun _ _ _ _ _ _ us hl => match us, hl with | [_, _], _ => rfl
  obtain ⟨d_Tree_step, F_Tree_step⟩ := c.def_ 48 (d := dMet 21 5 "Tree" "step" "Tree.step" []) rfl
  have b_Tree_step : Binds K d_Tree_step ["self", "house", "target"] [] := FunD.bindsN F_Tree_step fun _ _ _ _ _ _ us hl => match us, hl with | [_, _, _], _ => rfl
  obtain ⟨d_Store___init__, F_Store___init__⟩ := c.def_ 49 (d := dMet 35 0 "Store" "__init__" "Store.__init__" [("cells", .non)]) rfl
  obtain ⟨d_Store___len__, F_Store___len__⟩ := c.def_ 50 (d := dMet 35 1 "Store" "__len__" "Store.__len__" []) rfl
  have b_Store___len__ : Binds K d_Store___len__ ["self"] [] := FunD.bindsN F_Store___len__ fun _ _ _ _ _ _ us hl => match us, hl with | [_], _ => rfl
  obtain ⟨d_Store___eq__, F_Store___eq__⟩ := c.def_ 51 (d := dMet 35 2 "Store" "__eq__" "Store.__eq__" []) rfl
  have b_Store___eq__ : Binds K d_Store___eq__ ["self", "other"] [] := FunD.bindsN F_Store___eq__ fun _ _ _ _ _ _ us hl => match us, hl with | [_, _], _ => rfl
  obtain ⟨d_Running___init__, F_Running___init__⟩ := c.def_ 52 (d := dMet 39 0 "Running" "__init__" "Running.__init__" []) rfl
  have b_Running___init__ : Binds K d_Running___init__ ["self", "store"] [] := FunD.bindsN F_Running___init__ fun _ _ _ _ _ _ us hl => match us, hl with | [_, _], _ => rfl
  obtain ⟨d_Running_make, F_Running_make⟩ := c.def_ 53 (d := dMet 39 1 "Running" "make" "Running.make" []) rfl
  have b_Running_make : Binds K d_Running_make ["self", "house"] [] := FunD.bindsN F_Running_make fun _ _ _ _ _ _ us hl => match us, hl with | [_, _], _ => rfl
  obtain ⟨d_Running_hand, F_Running_hand⟩ := c.def_ 54 (d := dMet 39 2 "Running" "hand" "Running.hand" []) rfl
  have b_Running_hand : Binds K d_Running_hand ["self", "u", "v"] [] := FunD.bindsN F_Running_hand fun _ _ _ _ _ _ us hl => match us, hl with | [_, _, _], _ => rfl
  obtain ⟨d_Running__arrive, F_Running__arrive⟩ := c.def_ 55 (d := dMet 39 3 "Running" "_arrive" "Running._arrive" []) rfl
  have b_Running__arrive : Binds K d_Running__arrive ["self", "write", "origin", "house"] [] := FunD.bindsN F_Running__arrive fun _ _ _ _ _ _ us hl => match us, hl with | [_, _, _, _], _ => rfl
  obtain ⟨d_Running_book, F_Running_book⟩ := c.def_ 56 (d := dMet 39 4 "Running" "book" "Running.book" []) rfl
  have b_Running_book : Binds K d_Running_book ["self", "house"] [] := FunD.bindsN F_Running_book fun _ _ _ _ _ _ us hl => match us, hl with | [_, _], _ => rfl
  obtain ⟨d_Running_under_way, F_Running_under_way⟩ := c.def_ 57 (d := dMet 39 5 "Running" "under_way" "Running.under_way" []) rfl
  have b_Running_under_way : Binds K d_Running_under_way ["self", "u", "v"] [] := FunD.bindsN F_Running_under_way fun _ _ _ _ _ _ us hl => match us, hl with | [_, _, _], _ => rfl
  obtain ⟨d_Running_shows, F_Running_shows⟩ := c.def_ 58 (d := dMet 39 6 "Running" "shows" "Running.shows" []) rfl
  have b_Running_shows : Binds K d_Running_shows ["self", "house"] [] := FunD.bindsN F_Running_shows fun _ _ _ _ _ _ us hl => match us, hl with | [_, _], _ => rfl
  obtain ⟨d_InvalidHouse___init__, F_InvalidHouse___init__⟩ := c.def_ 59 (d := dMet 10 0 "InvalidHouse" "__init__" "InvalidHouse.__init__" []) rfl
  have b_InvalidHouse___init__ : Binds K d_InvalidHouse___init__ ["self", "given"] [] := FunD.bindsN F_InvalidHouse___init__ fun _ _ _ _ _ _ us hl => match us, hl with | [_, _], _ => rfl
  obtain ⟨d_NothingToMake___init__, F_NothingToMake___init__⟩ := c.def_ 60 (d := dMet 16 0 "NothingToMake" "__init__" "NothingToMake.__init__" []) rfl
  have b_NothingToMake___init__ : Binds K d_NothingToMake___init__ ["self", "house"] [] := FunD.bindsN F_NothingToMake___init__ fun _ _ _ _ _ _ us hl => match us, hl with | [_, _], _ => rfl
  obtain ⟨d_NotARoad___init__, F_NotARoad___init__⟩ := c.def_ 61 (d := dMet 15 0 "NotARoad" "__init__" "NotARoad.__init__" []) rfl
  have b_NotARoad___init__ : Binds K d_NotARoad___init__ ["self", "u", "v"] [] := FunD.bindsN F_NotARoad___init__ fun _ _ _ _ _ _ us hl => match us, hl with | [_, _, _], _ => rfl
  obtain ⟨d_NothingUnderWay___init__, F_NothingUnderWay___init__⟩ := c.def_ 62 (d := dMet 17 0 "NothingUnderWay" "__init__" "NothingUnderWay.__init__" []) rfl
  have b_NothingUnderWay___init__ : Binds K d_NothingUnderWay___init__ ["self", "u", "v"] [] := FunD.bindsN F_NothingUnderWay___init__ fun _ _ _ _ _ _ us hl => match us, hl with | [_, _, _], _ => rfl
  have kb_Running_make : KBn K d_Running_make ["self", "house"] 1 ["house"] (fun us ws => us ++ ws) (fun vs zs => vs ++ zs) := ⟨fun s us ws _ l1 l2 => match us, ws, l1, l2 with | [_], [_], _, _ => kwB F_Running_make (fun _ _ _ _ _ _ => rfl) s, fun r z => r.append z⟩
  have kb_Running_book : KBn K d_Running_book ["self", "house"] 1 ["house"] (fun us ws => us ++ ws) (fun vs zs => vs ++ zs) := ⟨fun s us ws _ l1 l2 => match us, ws, l1, l2 with | [_], [_], _, _ => kwB F_Running_book (fun _ _ _ _ _ _ => rfl) s, fun r z => r.append z⟩
  have kb_Running_shows : KBn K d_Running_shows ["self", "house"] 1 ["house"] (fun us ws => us ++ ws) (fun vs zs => vs ++ zs) := ⟨fun s us ws _ l1 l2 => match us, ws, l1, l2 with | [_], [_], _, _ => kwB F_Running_shows (fun _ _ _ _ _ _ => rfl) s, fun r z => r.append z⟩
  have kb_Running___init__ : KBn K d_Running___init__ ["self", "store"] 1 ["store"] (fun us ws => us ++ ws) (fun vs zs => vs ++ zs) := ⟨fun s us ws _ l1 l2 => match us, ws, l1, l2 with | [_], [_], _, _ => kwB F_Running___init__ (fun _ _ _ _ _ _ => rfl) s, fun r z => r.append z⟩
  have kb_Running_hand : KBn K d_Running_hand ["self", "u", "v"] 1 ["v", "u"] (fun us ws => us ++ ws.reverse) (fun vs zs => vs ++ zs.reverse) := ⟨fun s us ws _ l1 l2 => match us, ws, l1, l2 with | [_], [_, _], _, _ => kwB F_Running_hand (fun _ _ _ _ _ _ => rfl) s, fun r z => r.append (valsRev z)⟩
  have kb_Running_under_way : KBn K d_Running_under_way ["self", "u", "v"] 1 ["v", "u"] (fun us ws => us ++ ws.reverse) (fun vs zs => vs ++ zs.reverse) := ⟨fun s us ws _ l1 l2 => match us, ws, l1, l2 with | [_], [_, _], _, _ => kwB F_Running_under_way (fun _ _ _ _ _ _ => rfl) s, fun r z => r.append (valsRev z)⟩
  obtain ⟨mvS, kb_Store⟩ := FunD.kbinds0 (ps := ["self", "tree", "homes", "cells"]) F_Store___init__ 3 ["cells"] [] (fun us _ ws => us ++ ws) (by show [(("cells" : Str), V.non)] ≠ []; exact List.cons_ne_nil _ _) (fun _ h => by cases h) (fun r _ z => r.append z) fun D doc pm an cdv ct us mv ws l1 l2 l3 => match us, ws, l1, l3 with | [_, _, _], [_], _, _ => rfl
  have R : RunCls K (He.ga K "Running") := ⟨cl_Running, na_Running_store, na_Running__unmade, na_Running__books, na_Running__handed_on, na_Running__deeds⟩
  have own : ∀ {x : Str}, Cls K (He.ga K x) → own1 K x = true → OwnCls K (He.ga K x) := fun {x} cl h => by
    unfold own1 at h
    simp only [Bool.and_eq_true] at h
    exact ⟨cl, He.eqO_ok h.1, He.eqO_ok h.2.1, of_decide_eq_true h.2.2.1, of_decide_eq_true h.2.2.2.1, of_decide_eq_true h.2.2.2.2⟩
  have oT : OwnCls K (He.ga K "Tree") := own cl_Tree x6
  have oS : OwnCls K (He.ga K "Store") := own cl_Store x7
  have prop : ∀ {m : Str}, prop1 K m = true → PropOf K (He.ga K "Running") m (pAd K m) (gAd K m) := fun {m} h => by
    unfold prop1 at h
    simp only [Bool.and_eq_true] at h
    refine ⟨He.eqO_ok h.1, He.eqO_ok h.2.1, of_decide_eq_true h.2.2.1, ?_⟩
    have z := h.2.2.2
    split at z
    · rename_i g r hr
      have := of_decide_eq_true z
      subst this
      exact ⟨r, hr⟩
    · cases z
  have pF := prop x2
  have pC := prop x3
  have yf : atW K (gAd K "finished") = (some (("finished" : Str), ("Running.finished" : Str), defArgs (inClass (top 39) 7), FuncBody.stmts (defBody (inClass (top 39) 7)), defScope (inClass (top 39) 7), mainGlobals, [], builtinsNs) : He.FnW) := congrArg (fun l => l.getD 0 none) y
  have yc : atW K (gAd K "script") = (some (("script" : Str), ("Running.script" : Str), defArgs (inClass (top 39) 8), FuncBody.stmts (defBody (inClass (top 39) 8)), defScope (inClass (top 39) 8), mainGlobals, [], builtinsNs) : He.FnW) := congrArg (fun l => l.getD 1 none) y
  obtain ⟨d_fin, F_fin⟩ := funW yf x4
  obtain ⟨d_scr, F_scr⟩ := funW yc x5
  have b_fin : Binds K d_fin ["self"] [] := FunD.bindsN F_fin fun _ _ _ _ _ _ us hl => match us, hl with | [_], _ => rfl
  have b_scr : Binds K d_scr ["self"] [] := FunD.bindsN F_scr fun _ _ _ _ _ _ us hl => match us, hl with | [_], _ => rfl
  have err : ∀ {x : Str}, err1 K x = true → EK K (He.ga K x) (He.ga K "LeftError") ∧ PySem.W.typeIn K (.ref (He.ma K (He.ga K x) "__init__")) = some (.type "function") := fun {x} h => by
    unfold err1 at h
    simp only [Bool.and_eq_true] at h
    exact ⟨ekB_ok h.1, of_decide_eq_true h.2⟩
  obtain ⟨eI, yI⟩ := err x8
  obtain ⟨eM, yM⟩ := err x9
  obtain ⟨eN, yN⟩ := err x10
  obtain ⟨eW, yW⟩ := err x11
  have erI : ∀ base, Er1 P w K mg base "InvalidHouse" "given" (He.ga K "InvalidHouse") := fun base => ⟨g_InvalidHouse, ⟨_, eI⟩, _, d_InvalidHouse___init__, ⟨me_InvalidHouse___init__.at_, yI, ok_X10 F_InvalidHouse___init__ eI.oex na_InvalidHouse_given⟩, b_InvalidHouse___init__⟩
  have erM : ∀ base, Er1 P w K mg base "NothingToMake" "house" (He.ga K "NothingToMake") := fun base => ⟨g_NothingToMake, ⟨_, eM⟩, _, d_NothingToMake___init__, ⟨me_NothingToMake___init__.at_, yM, ok_X16 F_NothingToMake___init__ eM.oex na_NothingToMake_house⟩, b_NothingToMake___init__⟩
  have erN : ∀ base, Er2 P w K mg base "NotARoad" "u" "v" (He.ga K "NotARoad") := fun base => ⟨g_NotARoad, ⟨_, eN⟩, _, d_NotARoad___init__, ⟨me_NotARoad___init__.at_, yN, ok_X15 F_NotARoad___init__ eN.oex na_NotARoad_u na_NotARoad_v⟩, b_NotARoad___init__⟩
  have erW : ∀ base, Er2 P w K mg base "NothingUnderWay" "u" "v" (He.ga K "NothingUnderWay") := fun base => ⟨g_NothingUnderWay, ⟨_, eW⟩, _, d_NothingUnderWay___init__, ⟨me_NothingUnderWay___init__.at_, yW, ok_X17 F_NothingUnderWay___init__ eW.oex na_NothingUnderWay_u na_NothingUnderWay_v⟩, b_NothingUnderWay___init__⟩
  have X4 : Ex4 K mg (He.ga K "InvalidHouse") (He.ga K "NothingToMake") (He.ga K "NotARoad") (He.ga K "NothingUnderWay") (He.ga K "LeftError") :=
    ⟨g_InvalidHouse, g_NothingToMake, g_NotARoad, g_NothingUnderWay, g_LeftError, eI.xf, eM.xf, eN.xf, eW.xf, na_InvalidHouse_given, na_NothingToMake_house, na_NotARoad_u, na_NotARoad_v, na_NothingUnderWay_u, na_NothingUnderWay_v, ex_II, ex_MI, ex_MM, ex_NI, ex_NM, ex_NN, ex_WI, ex_WM, ex_WN, ex_WW, of_decide_eq_true x12, eW.isc⟩
  have hsN := He.eqO_ok x13
  have obS := of_decide_eq_true x14
  have bl := FunD.bindsA (ps := ["script"]) F_law fun _ _ _ _ _ _ us hl => match us, hl with | [_], _ => rfl
  refine ⟨d_law, k_law.m, fun s v => bl s [v] rfl, fun base => ?_⟩
  have a1 := ok_whole (P := P) (w := w) (base := base) F_is_whole f_isinstance f_int f_bool
  have a2 := ok_btw F_is_between a1 k_is_whole
  have a3 := ok_isL (P := P) (w := w) (base := base) F_is_list f_isinstance f_list f_tuple
  have a4 := ok_are F_are_between a3 k_is_list a2 k_is_between f_all
  have a5 := ok_steps (P := P) (w := w) (base := base) F__steps_to f_len
  have a6 := ok_all F__all_steps a5 k__steps_to f_range
  have a7 := ok_low F__is_low_high a4 k_are_between f_isinstance f_tuple f_len
  have a8 := ok_roads F__are_roads a3 k_is_list a7 k__is_low_high f_len f_all f_range
  have aW := ok_walk (P := P) (w := w) (base := base) F__walk f_tuple
  have tI := ok_init F_Tree___init__ cl_Tree na_Tree_houses na_Tree_roads na_Tree__toward na_Tree__ways a2 k_is_between a8 k__are_roads a6 k__all_steps aW k__walk f_range f_tuple c_MOST_HOUSES
  have tS := ok_step (P := P) (w := w) (mg := mg) (base := base) F_Tree_step cl_Tree na_Tree__toward
  have tH := ok_has F_Tree___contains__ cl_Tree na_Tree_houses a2 k_is_between
  have a9 := ok_isRoad F_is_road cl_Tree me_Tree_step tS b_Tree_step
  have b1 := ok_check F_check_house tH b_Tree___contains__ me_Tree___contains__.at_ me_Tree___contains__.fn
  have b2 := ok_near F_neighbours cl_Tree na_Tree_houses b1 k_check_house a9 k_is_road f_range
  have b3 := ok_checkX F_check_house tH b_Tree___contains__ me_Tree___contains__.at_ me_Tree___contains__.fn (erI base)
  have b4 := ok_chkR F_check_road b3 k_check_house a9 k_is_road (erN base)
  have sI := ok_initS F_Store___init__ cl_Tree na_Tree_houses cl_Store na_Store_tree na_Store_homes na_Store_cells a4 k_are_between f_len f_tuple c_MOST_WRITES c_CELLS
  have b5 := ok_both F_both_ways cl_Tree na_Tree_houses b2 k_neighbours f_range
  have b6 := ok_made F_made_in cl_Store na_Store_tree na_Store_homes b1 k_check_house f_enumerate
  have sL := ok_lenS (P := P) (w := w) (base := base) (C := He.ga K "Tree") F_Store___len__ cl_Store na_Store_homes f_len
  have tE := ok_eqT (P := P) (w := w) (base := base) F_Tree___eq__ oT na_Tree_houses na_Tree_roads f_isinstance g_Tree
  have sE := ok_eqS F_Store___eq__ oS na_Store_tree na_Store_homes na_Store_cells f_isinstance g_Store tE b_Tree___eq__ me_Tree___eq__.at_ me_Tree___eq__.fn
  have r1 := ok_arr F_Running__arrive cl_Store na_Store_tree R b2 k_neighbours
  have r2 := ok_book F_Running_book cl_Store na_Store_tree R b3 k_check_house f_tuple
  have r3 := ok_under F_Running_under_way cl_Store na_Store_tree R b4 k_check_road f_tuple
  have l0 := ok_last (P := P) (w := w) (base := base) (C := He.ga K "Tree") F_last_of_cells cl_Store na_Store_cells f_tuple c_CELLS
  have r4 := ok_shows F_Running_shows cl_Store na_Store_tree R b3 k_check_house l0 k_last_of_cells
  have r5 := ok_fin F_fin R sL b_Store___len__ me_Store___len__.at_ me_Store___len__.fn f_all f_len
  have r6 := ok_scr (P := P) (w := w) (base := base) (C := He.ga K "Tree") (CS := He.ga K "Store") F_scr R f_tuple
  have r7 := ok_make F_Running_make cl_Store na_Store_tree R b3 k_check_house me_Running__arrive r1 b_Running__arrive (erM base)
  have r8 := ok_hand F_Running_hand cl_Store na_Store_tree R b4 k_check_road me_Running__arrive r1 b_Running__arrive (erW base)
  have rI := ok_initR F_Running___init__ cl_Tree na_Tree_houses cl_Store na_Store_tree R b6 k_made_in b5 k_both_ways f_range
  have c1 := ok_do F__do R me_Running_make r7 b_Running_make me_Running_hand r8 b_Running_hand
  have c2 := ok_isDeed F__is_deed tH b_Tree___contains__ me_Tree___contains__.at_ me_Tree___contains__.fn a9 k_is_road f_isinstance f_tuple f_len
  have c3 := ok_isScr F_is_script cl_Store na_Store_tree a3 k_is_list c2 k__is_deed f_all f_len c_MOST_DEEDS
  have c4 := ok_runF F_run c3 k_is_script mk_Running rI b_Running___init__ g_Running c1 k__do f_enumerate
  have l1 := ok_cell (P := P) (w := w) (base := base) F__law_cell f_len f_sum
  have l2 := ok_box (P := P) (w := w) (base := base) F__law_box f_abs f_int
  have l3 := ok_take (P := P) (w := w) (base := base) F__law_take f_int
  have l4 := ok_mixed F__law_mixed l3 k__law_take f_len f_list
  have l5 := ok_world F__law_world l3 k__law_take l4 k__law_mixed f_range f_list f_sorted f_tuple
  have l6 := ok_nearW (P := P) (w := w) (base := base) F__law_near f_sorted
  have l7 := ok_ways (P := P) (w := w) (base := base) F__law_ways f_sorted
  have l8 := ok_isHouse (P := P) (w := w) (base := base) F__law_is_house f_isinstance f_int f_bool
  have l9 := ok_left (P := P) (w := w) (base := base) F__law_left f_range f_len
  have l10 := ok_comes F__law_comes l6 k__law_near
  have l11 := ok_begun F__law_begun l7 k__law_ways f_range
  have l12 := ok_due F__law_due l8 k__law_is_house l9 k__law_left l10 k__law_comes l6 k__law_near
  have l13 := ok_did F__law_did R me_Running_make r7 b_Running_make kb_Running_make me_Running_hand r8 b_Running_hand kb_Running_hand X4 f_isinstance
  have l14 := ok_shown (P := P) (w := w) (mg := mg) (base := base) F__law_shown
  have l15 := ok_is F__law_is sm R l14 k__law_shown l7 k__law_ways me_Running_book r2 b_Running_book kb_Running_book me_Running_shows r4 b_Running_shows kb_Running_shows me_Running_under_way r3 b_Running_under_way kb_Running_under_way pF r5 b_fin pC r6 b_scr f_range f_tuple f_repr f_len
  have l16 := ok_deed F__law_deed l3 k__law_take l7 k__law_ways l9 k__law_left f_range f_len f_int
  have l17 := ok_asked F__law_asked R me_Running_under_way r3 b_Running_under_way X4
  have l18 := ok_barred F__law_barred sm R X4 me_Running_book r2 b_Running_book kb_Running_book me_Running_shows r4 b_Running_shows f_repr
  have l19 := ok_doors F__law_doors sm l18 k__law_barred l17 k__law_asked l6 k__law_near f_range f_repr
  have l20 := ok_deeds F__law_deeds sm l3 k__law_take l16 k__law_deed l12 k__law_due l13 k__law_did l15 k__law_is f_range f_repr f_len f_int
  have l21 := ok_copy F__law_copy l11 k__law_begun l12 k__law_due f_list
  have l22 := ok_ended F__law_ended sm R l3 k__law_take l9 k__law_left l12 k__law_due l13 k__law_did l15 k__law_is l7 k__law_ways pF r5 b_fin f_range f_repr f_len f_int
  have l23 := ok_right F__law_right R l3 k__law_take l5 k__law_world mk_Tree tI b_Tree___init__ g_Tree mk_Store sI kb_Store g_Store mk_Running rI b_Running___init__ kb_Running___init__ g_Running sE b_Store___eq__ me_Store___eq__.at_ hsN obS me_Store___eq__.fn l11 k__law_begun l20 k__law_deeds l19 k__law_doors l15 k__law_is c4 k_run l21 k__law_copy l22 k__law_ended f_range f_list
  exact ok_lawA F_law l2 k__law_box l1 k__law_cell l23 k__law_right l3 k__law_take f_range f_len f_max f_min
end Tr

set_option maxHeartbeats 0
namespace Tr
open PySem PySem.Spec PyProof.Rows L2 L2H LK Evl
/-! ### the end: from the state behind the top -/
/-- where nothing but the object at a may be tracked -/
theorem env_start {P : Program} {w : World} {K : PySem.W.Frag} {mg mb : Str → Option Value} {s : Shared} {H : Hp} {a : Addr} {o : Obj} {its : Array Value} {n : Nat}
    (kin : K.In s.heap) (gl : s.heap.Ns mainGlobals mg) (bn : s.heap.Ns builtinsNs mb) (bv : ∀ x : Str, x ≠ "__name__" → mb x = bootBuiltins x) (lim : s.heap.NoLimit) (gn : s.gens = #[])
    (at_ : s.heap.get? a = some o) (od : o.data = .seq its n) (ok : HOk P w H s.heap) (sole : ∀ b, H b ≠ none → b = a) (off : H a ≠ none → K.lookup a = none) :
    Env0 P w K mg (hidT s.heap H) callerA [] s H ∧ K.In (hidT s.heap H) := by
  have none_of : ∀ {b : Addr} {m : Str → Option Value}, s.heap.Ns b m → H b = none := by
    rintro b m ⟨o', es, ep, e, dd, _⟩
    refine Classical.byContradiction fun nb => ?_
    rw [sole b nb, at_] at e
    rw [← Option.some.inj e, od] at dd
    cases dd
  have ns : ∀ {b : Addr} {m : Str → Option Value}, s.heap.Ns b m → (hidT s.heap H).Ns b m := fun {b m} h => by
    have nb := none_of h
    obtain ⟨o', es, ep, e, dd, r⟩ := h
    exact ⟨o', es, ep, hidT_get e nb, dd, r⟩
  have kin2 : K.In (hidT s.heap H) := fun b o' e => by
    refine hidT_get (kin b o' e) (Classical.byContradiction fun nb => ?_)
    have z := sole b nb
    rw [z] at nb e
    rw [off nb] at e
    cases e
  obtain ⟨ml, l1, l2⟩ := lim
  exact ⟨⟨rfl, ⟨kin2, ns gl, ⟨mb, ns bn, bv⟩, ml, ns l1, l2⟩, fun _ _ => of_hidT, Nat.le_of_eq (hidT_size _ _), True.intro, fun b hb => absurd hb List.not_mem_nil, ok, .of_eq gn⟩, kin2⟩
/-- the law's call, for a def that wants no text of a container under way -/
theorem law_end {P : Program} {w : World} {K : PySem.W.Frag} {mg mb : Str → Option Value} {k : Nat} {fa a : Addr} {fd : FuncData} {x : Str} {sp : Sp} {s : Shared} {vs : List Value} {ns : List Int} (kin : K.In s.heap) (gl : s.heap.Ns mainGlobals mg) (bn : s.heap.Ns builtinsNs mb)
    (bv : ∀ x : Str, x ≠ "__name__" → mb x = bootBuiltins x) (lim : s.heap.NoLimit) (gn : s.gens = #[]) (at_ : s.heap.get? a = some { cls := .type "list", data := .seq vs.toArray }) (is : IntsAre vs ns) (sz : ns.length ≤ sizeLine) (hr : Room k callerA)
    (F : ∀ base : Heap, FnG P w K mg base k fa fd [x] sp) (bd : ∀ (s : Shared) (u : Value), BindsTo s fd ⟨[u], []⟩ [(x, u)]) (hsp : ∀ H : Hp, SqL K H a (ns.map V.int) → sp [.ref a] H (fun v _ => v = .bl true) E0) :
    codeAny (model P w) callerA (.call (.ref fa) ⟨[.ref a], []⟩) (fun r s' => r = .ok (.ret (.bool true)) ∧ OldK s.heap s'.heap ∧ s'.os = s.os ∧ AllBare s'.gens) s := by
  have rv : Vals (ns.map V.int) vs := vals_ints is
  have go : ∀ H : Hp, (∀ b, H b = none ∨ ∃ o u, H b = some (.frz o u)) → SqL K H a (ns.map V.int) → HOk P w H s.heap → (∀ b, H b ≠ none → b = a) → (H a ≠ none → K.lookup a = none) → codeAny (model P w) callerA (.call (.ref fa) ⟨[.ref a], []⟩)
      (fun r s' => r = .ok (.ret (.bool true)) ∧ OldK s.heap s'.heap ∧ s'.os = s.os ∧ AllBare s'.gens) s := fun H onlyF sq ok sole off => by
    obtain ⟨e0, _⟩ := env_start kin gl bn bv lim gn at_ rfl ok sole off
    refine codeAny_mono ((F _).run callerA [] s H [.ref a] [.ref a] _ hr rfl e0 (bd s (.ref a)) (.cons rfl .nil) (hsp H sq)) ?_
    intro r s' h
    match r, h with
    | .ok (.ret u), h =>
      obtain ⟨v, H', os, bare, un, ok', r', q⟩ := h
      have q2 : v = .bl true := q
      rw [q2] at r'
      have r2 : u = .bool true := r'
      refine ⟨by rw [r2], OldK.of_keep fun b o e => ?_, os, bare⟩
      rcases onlyF b with z | ⟨ob, u', z⟩
      · exact un.keep b o e z List.not_mem_nil List.not_mem_nil
      · have e1 := (ok b _ z).1
        have e2 := (ok' b _ (un.frzs b ob _ z)).1
        rw [e] at e1
        rw [Option.some.inj e1]
        exact e2
    | .ok .next, h => exact False.elim h
    | .ok .brk, h => exact False.elim h
    | .ok .cont, h => exact False.elim h
    | .error _, h => exact False.elim h
  by_cases hk : K.lookup a = none
  · let H : Hp := fun b => if b = a then some (.frz { cls := .type "list", data := .seq vs.toArray } (.lst (ns.map V.int))) else none
    have here : H a = some (.frz { cls := .type "list", data := .seq vs.toArray } (.lst (ns.map V.int))) := if_pos rfl
    have else_ : ∀ b, b ≠ a → H b = none := fun b n => if_neg n
    refine go H (fun b => ?_) (.inl (.inr ⟨_, here⟩)) (fun b u z => ?_) (fun b z => Classical.byContradiction fun n => z (else_ b n)) fun _ => hk
    · by_cases n : b = a
      · rw [n]
        exact .inr ⟨_, _, here⟩
      · exact .inl (else_ b n)
    · by_cases n : b = a
      · subst n
        rw [here] at z
        cases z
        exact ⟨at_, by rw [List.length_map]; exact sz, vs, _, rv, at_⟩
      · rw [else_ b n] at z
        cases z
  · obtain ⟨o, ho⟩ := Option.ne_none_iff_exists'.mp hk
    have e := kin a o ho
    rw [at_] at e
    have e2 := Option.some.inj e
    subst e2
    exact go (fun _ => none) (fun _ => .inl rfl) (.inr ⟨_, _, _, ho, rfl, rfl, rfl, by rw [List.size_toArray, is.length]; exact sz, by simpa using rv⟩) (fun b u z => by cases (show (none : Option HO) = some u from z)) (fun b z => absurd rfl z) fun z => absurd rfl z
end Tr

set_option maxHeartbeats 0
namespace Tr
open PySem PySem.Spec PyProof.Rows L2 LK
open PySem.W HandSHeadRun in
/-- the state behind the top -/
noncomputable abbrev top0 (w : World) (os : OsState) := endF (stepQ (denQ tabQ) Rw.prog w) 20000 Rw.prog w os
theorem joined {α β γ : Type} {o : Option α} {f : α → β} {g : α → γ} {b : β} {c : γ} (h : o.map f = some b) (k : o.map g = some c) : o.map (fun s => (f s, g s)) = some (b, c) := by
  cases o with
  | none => cases h
  | some a =>
    have e1 : f a = b := Option.some.inj h
    have e2 : g a = c := Option.some.inj k
    show some (f a, g a) = some (b, c)
    rw [e1, e2]
open PySem.W HandSHeadRun in
theorem part1 (w : World) (os : OsState) : (top0 w os).map (fun s => looksF Rw.prog (boot_heap w.params) s.abs) = some true := by kernel_rfl
open PySem.W HandSHeadRun in
theorem part2 (w : World) (os : OsState) : (top0 w os).map (fun s => seenQ (PySem.W.view Rw.prog [69]) loose (importedModules Rw.prog.main.body) (fun s => xlAt (PySem.W.view Rw.prog [69]) [] s && recOk Rw.toRowW.records s) s.abs) = some (openGood (PySem.W.view Rw.prog [69]) loose) := by kernel_rfl
open PySem.W HandSHeadRun in
theorem part3 (w : World) (os : OsState) : (top0 w os).map (fun s => (He.obsD fa fn (frT s)).1) = some true := by kernel_rfl
open PySem.W HandSHeadRun in
theorem part4 (w : World) (os : OsState) : (top0 w os).map (fun s => (He.obsD fa fn (frT s)).2) = some (fn.map He.DefD.val) := by kernel_rfl
open PySem.W HandSHeadRun in
theorem part5 (w : World) (os : OsState) : (top0 w os).map (fun s => xs (frT s)) = some true := by kernel_rfl
open PySem.W HandSHeadRun in
theorem part6 (w : World) (os : OsState) : (top0 w os).map (fun s => ys (frT s)) = some yv := by kernel_rfl
theorem run (w : World) : HandSHeadRun.RunEq Rw (PySem.W.view Rw.prog [69]) hk ob 20000 loose w := fun os =>
  joined (part1 w os) (joined (part2 w os) (joined (joined (part3 w os) (part4 w os)) (joined (part5 w os) (part6 w os))))
end Tr

set_option maxHeartbeats 0
open PySem PySem.W PySem.Calls PyProof.Rows
theorem PySem.Challenge.cw_looksleft_k04_runnings_deed_by_deed_holds : PySem.Challenge.rw_looksleft_k04_runnings_deed_by_deed.Holds := by
  w_on; o_law
  refine HandSHeadRun.head_any (r := Tr.Rw) (q := view Tr.Rw.prog [69]) (H := Tr.hk) (ob := Tr.ob) (M := 20000) (loose := Tr.loose) (d := HandSHeadRun.topDef Tr.Rw.prog 69) (kwd := []) Tr.ob_eq
    (by kernel_rfl) (fun s => by kernel_rfl) Tr.run (by kernel_rfl) (by kernel_rfl) (by kernel_rfl) (by rfl) (by first | assumption | decide +kernel) (by decide +kernel) ⟨rfl, rfl, rfl, rfl, rfl, by decide +kernel⟩ ?hw ?hc
  case hw => w_witness2
  case hc =>
    refine Att.attach_call (l := PySem.Challenge.rw_looksleft_k04_runnings_deed_by_deed) (n := 63) rfl (by kernel_rfl) fun w s₀ s₁ mg mb fa o pm cd doc a vs ns G Y ho hd hcd hmg hobj hints hlen hg => ?_
    obtain ⟨K, KX, c, e, y⟩ := Y
    obtain ⟨fd, m, bd, F⟩ := Tr.all_law (P := (PySem.Challenge.rw_looksleft_k04_runnings_deed_by_deed).prog) (w := w) KX G.T.g c e y
    have hmg2 : mg ("law" : PySem.Str) = some (.ref fa) := by
      have q : (HandSHeadRun.topDef Tr.Rw.prog 69).name = ("law" : PySem.Str) := by kernel_rfl
      rw [← q]
      exact hmg
    rw [m] at hmg2
    cases hmg2
    exact Tr.law_end KX G.T.g G.T.b G.T.builtins G.T.nolimit hg hobj hints (Nat.le_trans hlen (by decide)) ⟨rfl, by decide, by decide⟩ F bd fun H hS => ⟨a, ns, rfl, hS, fun _ => rfl⟩
