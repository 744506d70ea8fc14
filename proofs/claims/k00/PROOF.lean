import PyProof.Rows.All
import Wide.All
import OpenK.AllK
import Wide.FinOn
import HandS.Base
import HandS.Call
import HandS.List
import HandS.Exc
import HandS.ExcOwn
import HandS.ExcInit
import HandS.ExcIs
import HandS.ExcValue
import HandS.IsInst
import HandS.Defaults
import HandS.MakeKw
import HandS.Words
import HandS.WordsExc
import HandS.Flow
import KE.KExcIs
import HandS.Small
import HandS.ForMost
import HandS.DictComp
import HandS.Conv
import HandS.Wide
import HandS.Codes
import HandS.ForExc
import HandS.RaiseMore
import HandS.Ends
import KE.OsRunLaw
import PySem.Challenge.RW_growwebs_k00_errors_made_by_hand
set_option Elab.async false
set_option linter.all false
set_option maxRecDepth 100000
set_option maxHeartbeats 4000000
namespace EV
open PySem PySem.Spec PyProof.Rows L2
/-- at a: an exception of the class C, held as a value; its own dict at d, or none -/
def exv (a C : Addr) (d : Option Addr) : HO :=
  .ext fun h => ∃ (oe : Obj) (vs : Array Value), h.get? a = some oe ∧ oe.cls = .ref C ∧ oe.dict = d ∧ oe.data = .fields vs
theorem exv_ok {P : Program} {w : World} {H : Hp} {h : Heap} {a C : Addr} {d : Option Addr} {oe : Obj} {vs : Array Value}
    (e : h.get? a = some oe) (c : oe.cls = .ref C) (k : oe.dict = d) (q : oe.data = .fields vs) : ObjOk P w H h a (exv a C d) :=
  ⟨⟨oe, vs, e, c, k, q⟩, ⟨oe, e⟩, fun _ _ ⟨o, v, r1, r2⟩ f => ⟨o, v, f o r1, r2⟩⟩
section
variable {X : Cx} {e : Expr} {es : List Expr} {te : TE} {f : Str} {pos : Pos}
/-- a made exception, kept -/
theorem pe_val {t : L2.St → Hp → XK → Prop} (he : PMk X e t) :
    PE X e (fun σ H Q => t σ H fun cls d H1 => ∃ C, cls = .ref C ∧ ∀ a, H1 a = none → Q (.ref a) (upd H1 a (exv a C d))) := by
  refine ⟨fun pins s σ H Q I h => ?_⟩
  refine thn (he pins s σ H _ I h) fun u s1 hu => ?_
  obtain ⟨a, oe, vs, sI, H1, cls, d, rfl, J, k, hp, ha, hz, hd, h1, hn, os, ag, hr, C, rfl, q⟩ := hu
  have new := exv_ok (P := X.prog) (w := X.w) (H := upd H1 a (exv a C d)) ha hz.1 hz.2 hd
  exact ⟨.ref a, upd H1 a (exv a C d), J.call' (ch := []) os (Un.laidN k hp hn) (J.hok.laidN k hn new) ag (fun b z => absurd z (by simp)), rfl, q a hn⟩
/-- what the class says of reading its instances -/
structure RdC (K : PySem.W.Frag) (C : Addr) : Prop where
  ga : PySem.W.findIn K (.ref C) "__getattribute__" = some (some (.builtin "BaseException.__getattribute__"))
  gg : PySem.W.findIn K (.ref C) "__getattr__" = some none
  exC : PySem.W.subIn K (.ref C) (.type "BaseException") = some true
  hdC : PySem.W.hasDictIn K C = true
/-- x.f of such an exception -/
theorem pe_attr (he : PE X e te) (hb : attributeBase e f X.env (eval e X.env) = eval e X.env := by rfl) :
    PE X (.Attribute e f pos) (fun σ H Q => te σ H fun x H1 => ∃ (a C d : Addr) (fs : List (Str × V)) (v : V), x = .ref a ∧ RdC X.K C ∧ PySem.W.findIn X.K (.ref C) f = some none ∧
      H1 a = some (exv a C (some d)) ∧ H1 d = some (.xd fs) ∧ fs.lookup f = some v ∧ Q v H1) := by
  refine ⟨fun pins s σ H Q I h => ?_⟩
  refine attr_of hb (thn (he.run pins s σ H _ I h) fun u s1 hu => ?_)
  obtain ⟨x, H1, I1, rx, a, C, d, fs, v, rfl, T, hno, ea, ed, hl, q⟩ := hu
  obtain rfl : u = Value.ref a := rx
  obtain ⟨⟨oe, vs, ho, hc, hdi, hda⟩, _, _⟩ : ObjOk X.prog X.w H1 s1.heap a (exv a C (some d)) := I1.hok a _ ea
  obtain ⟨mA, hns, hr⟩ : ObjOk X.prog X.w H1 s1.heap d (.xd fs) := I1.hok d _ ed
  obtain ⟨od, hod, hlk⟩ := lookIn_ns hns
  obtain ⟨w, hw, rw'⟩ := RelO.some_of (v := v) (o := mA f) (by rw [← hl]; exact hr f)
  have J : PySem.W.InstAt s1.heap a oe C (some od) := ⟨ho, hc, by unfold PySem.W.notCls; rw [hda] <;> rfl, by rw [hdi]; exact hod⟩
  exact HandSPX.exc_get I1.kIn J T.ga T.gg T.exC (PySem.W.findObj_own T.hdC hno rfl (by rw [hlk, hw])) (handed_of rw') ⟨v, H1, I1.tok _, rw', q⟩
end
end EV
namespace EvK
open PySem PySem.HandSPX PySem.Calls PyProof.Rows Builtin Builtin.ObjectAttr
section
variable {M : Model} {prog : Program} {w : World} {A : Around} {E : Value → Shared → Prop} {R : Result → Shared → Prop}
variable {h : Heap} {g : Array GenState} {d : Drawn} {t : Nat} {os : OsState}
variable {nm q : Str} {C N : Addr} {bs bm bmB : List Value} {hdct : Bool} {sn : List Str} {sub : List Value} {ab : Bool}
variable {col : Option Bool} {dd : Option Addr} {k0 k1 k2 k3 k5 : Option Value} {B newId initId : String}
/-- the check of __new__, keywords and all -/
theorem check_newK (F : ExcBaseFacts B newId initId bmB) (hT : ∀ Y : String, bm.contains (.type Y) = bmB.contains (.type Y))
    {us : List Value} {kw : List (Str × Value)} {Q : Unit → Shared → Prop}
    (hC : h.get? C = some (excClassObj nm q C N bs bm hdct sn sub ab col dd k0 k1 k2 k3 k5 newId))
    (hq : Q () ⟨h, g, d, t, os⟩) : wpAny M A (checkBuiltinCall newId ⟨.ref C :: us, kw⟩) Q E ⟨h, g, d, t, os⟩ := by
  have c1 : (Value.ref C :: bm).contains (.type B) = true := by rw [List.contains_cons, hT, F.hasB, Bool.or_true]
  have c2 := F.noStar
  simp only [checkBuiltinCall, F.newKind, F.newSplit, F.newRow]
  repeat (first
    | refine wpAny_loadPart_at hC ?_
    | (refine wpAny_isSubtype_exc hC ?_; rw [c1])
    | refine wpAny_staticBase_exc hC ?_
    | refine wpAny_madeBy_exc hC ?_
    | simp only [bne_self_eq_false, Bool.false_eq_true, if_false]
    | wp_step)
  exact hq
/-- __new__ itself -/
theorem newK (F : ExcBaseFacts B newId initId bmB) (hT : ∀ Y : String, bm.contains (.type Y) = bmB.contains (.type Y))
    {us : List Value} {kw : List (Str × Value)}
    (hC : h.get? C = some (excClassObj nm q C N bs bm hdct sn sub ab col dd k0 k1 k2 k3 k5 newId))
    (hz : us.length ≤ sizeLine)
    (hq : R (.ok (.ret (.ref (h.objs.size + 1))))
      ⟨(h.push (W.kdv_tup us)).push (excO C h.objs.size), g, d, t, os⟩) :
    codeAny (model prog w) A (.builtin newId ⟨.ref C :: us, kw⟩) R ⟨h, g, d, t, os⟩ := by
  have e0 := F.ends
  have cB : (Value.ref C :: bm).contains (.type B) = true := by rw [List.contains_cons, hT, F.hasB, Bool.or_true]
  have cA : (Value.ref C :: bm).contains (.type "AttributeError") = false := by rw [List.contains_cons, hT, F.noAttr]; rfl
  have cN : (Value.ref C :: bm).contains (.type "NameError") = false := by rw [List.contains_cons, hT, F.noName]; rfl
  refine codeAny_builtinAt F.entry ?_
  unfold Builtin.«BaseException.__new__»
  refine PySem.wpAt_bind ?_
  show PySem.wpAt _ _ _ (stack >>= _) _ _ _
  refine PySem.wpAt_bind (PySem.wpAt_stack fun p0 bl => PySem.wpAt_of_wpAny ?_)
  wp_walk
  refine PySem.wpAt_of_wpAny ?_
  rw [F.owner]
  repeat (first
    | with_reducible refine wpAny_madeHere_exc F.canon hC ?_
    | with_reducible refine wpAny_loadPart_at hC ?_
    | (with_reducible refine wpAny_isSubtype_exc hC ?_; first | rw [cB] | rw [cA] | rw [cN])
    | wp_step)
  show R _ _
  rw [Heap.size_push]
  exact hq
/-- type.__call__ of such a class, keywords and all -/
theorem type_callK (F : ExcBaseFacts B newId initId bmB) (hT : ∀ Y : String, bm.contains (.type Y) = bmB.contains (.type Y))
    {us : List Value} {kw : List (Str × Value)} {fI : Addr} {Q : Fin → Shared → Prop}
    (hC : h.get? C = some (excClassObj nm q C N bs bm hdct sn sub ab col dd k0 k1 k2 k3 k5 newId))
    (hi : W.Looks (model prog w) h (typeLookup (.ref C) "__init__") (some (.ref fI)))
    (hb : ∀ self, W.Looks (model prog w) h (bindSpecial (.ref fI) self) (.ref fI, [self])) (hz : us.length ≤ sizeLine)
    (hq : codeAny (model prog w) A (.call (.ref fI) ⟨.ref (h.objs.size + 1) :: us, kw⟩)
      (fun r s' => match r with
        | .ok (.ret v) => v = .none ∧ Q (.done (.ret (.ref (h.objs.size + 1)))) s'
        | .ok _ => False
        | .error e => E e s')
      ⟨(h.push (W.kdv_tup us)).push (excO C h.objs.size), g, d, t, os⟩) :
    wpAny (model prog w) A (Builtin.«type.__call__» ⟨.ref C :: us, kw⟩) Q E ⟨h, g, d, t, os⟩ := by
  repeat (first
    | with_reducible refine wpAny_loadPart_at hC ?_
    | with_reducible refine wpAny_madeBy_exc hC ?_
    | wp_step)
  refine codeAny_call_builtin_code (Code.quiet_builtin _ F.quiet) (check_newK F hT hC ?_)
  refine newK F hT hC hz ?_
  show wpAny _ _ _ _ _ _
  have kp : ∀ b o, h.get? b = some o → ((h.push (W.kdv_tup us)).push (excO C h.objs.size)).get? b = some o :=
    fun b o e => Heap.get?_push_of_some _ (Heap.get?_push_of_some _ e)
  have hC1 := kp _ _ hC
  have hg1 : ((h.push (W.kdv_tup us)).push (excO C h.objs.size)).get? (h.objs.size + 1) = some (excO C h.objs.size) := by
    heap_get
  have cc : (Value.ref C :: bm).contains (.ref C) = true := by simp
  have i1 := hi.keeps kp
  have b1 := (hb (.ref (h.objs.size + 1))).keeps kp
  unfold isInstance
  repeat (first
    | with_reducible refine wpAny_loadPart_at hg1 ?_
    | (with_reducible refine wpAny_isSubtype_exc hC1 ?_; rw [cc])
    | wp_step)
  show wpAny _ _ (typeLookup (.ref C) _) _ _ _
  refine i1.at ?_
  refine wpAny_holding (wpAny_bind (b1.at ?_))
  refine wpAny_bind (wpAny_call (codeAny_mono hq fun r s' z => ?_))
  cases r with
  | error e => exact z
  | ok fl =>
    cases fl with
    | ret v =>
      obtain ⟨rfl, z2⟩ := z
      first
        | exact wpAny_pure (wpAny_pure z2)
        | (wp_walk; exact z2)
    | next => exact z.elim
    | brk => exact z.elim
    | cont => exact z.elim
/-- the call of such a class, keywords and all -/
theorem callK (F : ExcBaseFacts B newId initId bmB) (hT : ∀ Y : String, bm.contains (.type Y) = bmB.contains (.type Y))
    {us : List Value} {kw : List (Str × Value)} {fI : Addr}
    (hC : h.get? C = some (excClassObj nm q C N bs bm hdct sn sub ab col dd k0 k1 k2 k3 k5 newId))
    (hi : W.Looks (model prog w) h (typeLookup (.ref C) "__init__") (some (.ref fI)))
    (hb : ∀ self, W.Looks (model prog w) h (bindSpecial (.ref fI) self) (.ref fI, [self])) (hz : us.length ≤ sizeLine)
    (hq : codeAny (model prog w) (A.under (.builtin "type.__call__" ⟨.ref C :: us, kw⟩))
      (.call (.ref fI) ⟨.ref (h.objs.size + 1) :: us, kw⟩) (W.InitBack (h.objs.size + 1) R)
      ⟨(h.push (W.kdv_tup us)).push (excO C h.objs.size), g, d, t, os⟩) :
    codeAny (model prog w) A (.call (.ref C) ⟨us, kw⟩) R ⟨h, g, d, t, os⟩ := by
  have f1 := tc_lookup
  have f2 := tc_bind (.ref C)
  have hTy : (⟨h, g, d, t, os⟩ : Shared).TypeIs (.ref C) "type" := ⟨_, hC, rfl⟩
  refine codeAny_of_tree ?_
  show wpAny _ _ (callAny (.ref C) _) _ _ _
  repeat (any_goals (first | assumption | with_reducible refine wpAny_loadPart_at hC ?_ | wp_step))
  refine ⟨rfl, ?_⟩
  refine codeAny_call_builtin_at (Code.quiet_builtin _ (by decide +kernel)) entry_typeCall
    (wpAny_check_type_call_sub hC (type_callK F hT hC hi hb hz ?_))
  refine codeAny_mono hq fun r s' z => ?_
  rcases r with e | (v | _ | _ | _) <;> exact z
end
end EvK
namespace EV
open PySem PySem.Spec PyProof.Rows L2
/-- the promise of an __init__ that keeps what it is given, in order -/
def spSet (C : Addr) (fs : List Str) : Sp := fun vs H Q _ => ∃ (a : Addr) (ys : List V), vs = .ref a :: ys ∧ ys.length = fs.length ∧ H a = some (exo a C none) ∧
  ∀ (d : Addr) (H' : Hp), H d = none → d ≠ a → H' a = some (exo a C (some d)) → H' d = some (exd d (fs.zip ys).reverse) → (∀ b o, b ≠ a → H b = some o → H' b = some o) → Q .non H'
section
variable {P : Program} {w : World} {K : PySem.W.Frag} {mg : Str → Option Value} {base : Heap} {st : Stmt} {qual : Str} {C fI : Addr} {fd : FuncData} {f g h : Str}
variable {p1 p2 p3 p4 q1 q2 q3 q4 r1 r2 r3 r4 : Pos}
theorem ne_tail {H : Hp} {a d b : Addr} {o : HO} (hd : H d = none) (e : H b = some o) : b ≠ d := ne_of_none e hd
theorem ok_init1 (hb : defBody st = [.Assign [.Attribute (.Name "self" p1) f p2] (.Name f p3) p4])
    (S : FnScope ["self", f] ["self", f] (defScope st)) (vs : Vis (defScope st) "self") (vf : Vis (defScope st) f) (d1 : (f == ("__debug__" : Str)) = false) (c1 : (f == ("__classdict__" : Str)) = false)
    (F : Fun K "__init__" qual st fI fd) (T : OexC K C) (n1 : PySem.W.findIn K (.ref C) f = some none) : FnOk P w K mg base CX0 1 fI fd ["self", f] (spSet C [f]) := by
  refine F.ok S (fun vs H Q E h => ?_) (fun cdv A outer s H us Q E hr h => ?_)
  · obtain ⟨a, ys, rfl, hl, _⟩ := h
    exact congrArg Nat.succ hl
  · obtain ⟨a, ys, rfl, hl, ha, k⟩ := h
    obtain ⟨y, rfl⟩ : ∃ y, ys = [y] := by
      match ys, hl with
      | [y], _ => exact ⟨y, rfl⟩
    rw [hb]
    refine ⟨_, pss_one (ps_ost (pv 0 (hv := vs)) (pv 1 (hv := vf) (hd := d1) (hcd := c1))), ?_⟩
    refine ⟨y, rfl, .ref a, rfl, a, C, rfl, T, n1, .inl ⟨ha, fun d hd hne => ?_⟩⟩
    exact k d _ hd hne upd_same (by rw [upd_ne hne, upd_same]; rfl) fun b o hba hbo => by rw [upd_ne hba, upd_ne (ne_of_none hbo hd)]; exact hbo
theorem ok_init2 (hb : defBody st = [.Assign [.Attribute (.Name "self" p1) f p2] (.Name f p3) p4, .Assign [.Attribute (.Name "self" q1) g q2] (.Name g q3) q4])
    (S : FnScope ["self", f, g] ["self", f, g] (defScope st)) (vs : Vis (defScope st) "self") (vf : Vis (defScope st) f) (vg : Vis (defScope st) g) (d1 : (f == ("__debug__" : Str)) = false) (c1 : (f == ("__classdict__" : Str)) = false)
    (d2 : (g == ("__debug__" : Str)) = false) (c2 : (g == ("__classdict__" : Str)) = false)
    (F : Fun K "__init__" qual st fI fd) (T : OexC K C) (n1 : PySem.W.findIn K (.ref C) f = some none) (n2 : PySem.W.findIn K (.ref C) g = some none) : FnOk P w K mg base CX0 1 fI fd ["self", f, g] (spSet C [f, g]) := by
  refine F.ok S (fun vs H Q E h => ?_) (fun cdv A outer s H us Q E hr h => ?_)
  · obtain ⟨a, ys, rfl, hl, _⟩ := h
    exact congrArg Nat.succ hl
  · obtain ⟨a, ys, rfl, hl, ha, k⟩ := h
    obtain ⟨y, z, rfl⟩ : ∃ y z, ys = [y, z] := by
      match ys, hl with
      | [y, z], _ => exact ⟨y, z, rfl⟩
    rw [hb]
    refine ⟨_, pss_cons (ps_ost (pv 0 (hv := vs)) (pv 1 (hv := vf) (hd := d1) (hcd := c1))) (pss_one (ps_ost (pv 0 (hv := vs)) (pv 2 (hv := vg) (hd := d2) (hcd := c2)))), ?_⟩
    refine ⟨y, rfl, .ref a, rfl, a, C, rfl, T, n1, .inl ⟨ha, fun d hd hne => ?_⟩⟩
    refine ⟨z, rfl, .ref a, rfl, a, C, rfl, T, n2, .inr ⟨d, [(f, y)], upd_same, by rw [upd_ne hne, upd_same], by show 1 ≤ 900; decide, ?_⟩⟩
    refine k d _ hd hne (by rw [upd_ne hne.symm, upd_same]) (by rw [upd_same]; rfl) fun b o hba hbo => ?_
    rw [upd_ne (ne_of_none hbo hd), upd_ne hba, upd_ne (ne_of_none hbo hd)]
    exact hbo
theorem ok_init3 (hb : defBody st = [.Assign [.Attribute (.Name "self" p1) f p2] (.Name f p3) p4, .Assign [.Attribute (.Name "self" q1) g q2] (.Name g q3) q4, .Assign [.Attribute (.Name "self" r1) h r2] (.Name h r3) r4])
    (S : FnScope ["self", f, g, h] ["self", f, g, h] (defScope st)) (vs : Vis (defScope st) "self") (vf : Vis (defScope st) f) (vg : Vis (defScope st) g) (vh : Vis (defScope st) h) (d1 : (f == ("__debug__" : Str)) = false) (c1 : (f == ("__classdict__" : Str)) = false)
    (d2 : (g == ("__debug__" : Str)) = false) (c2 : (g == ("__classdict__" : Str)) = false) (d3 : (h == ("__debug__" : Str)) = false) (c3 : (h == ("__classdict__" : Str)) = false)
    (F : Fun K "__init__" qual st fI fd) (T : OexC K C) (n1 : PySem.W.findIn K (.ref C) f = some none) (n2 : PySem.W.findIn K (.ref C) g = some none) (n3 : PySem.W.findIn K (.ref C) h = some none) :
    FnOk P w K mg base CX0 1 fI fd ["self", f, g, h] (spSet C [f, g, h]) := by
  refine F.ok S (fun vs H Q E h => ?_) (fun cdv A outer s H us Q E hr h => ?_)
  · obtain ⟨a, ys, rfl, hl, _⟩ := h
    exact congrArg Nat.succ hl
  · obtain ⟨a, ys, rfl, hl, ha, k⟩ := h
    obtain ⟨y, z, x, rfl⟩ : ∃ y z x, ys = [y, z, x] := by
      match ys, hl with
      | [y, z, x], _ => exact ⟨y, z, x, rfl⟩
    rw [hb]
    refine ⟨_, pss_cons (ps_ost (pv 0 (hv := vs)) (pv 1 (hv := vf) (hd := d1) (hcd := c1))) (pss_cons (ps_ost (pv 0 (hv := vs)) (pv 2 (hv := vg) (hd := d2) (hcd := c2))) (pss_one (ps_ost (pv 0 (hv := vs)) (pv 3 (hv := vh) (hd := d3) (hcd := c3))))), ?_⟩
    refine ⟨y, rfl, .ref a, rfl, a, C, rfl, T, n1, .inl ⟨ha, fun d hd hne => ?_⟩⟩
    refine ⟨z, rfl, .ref a, rfl, a, C, rfl, T, n2, .inr ⟨d, [(f, y)], upd_same, by rw [upd_ne hne, upd_same], by show 1 ≤ 900; decide, ?_⟩⟩
    refine ⟨x, rfl, .ref a, rfl, a, C, rfl, T, n3, .inr ⟨d, [(g, z), (f, y)], by rw [upd_ne hne.symm, upd_same], by rw [upd_same], by show 2 ≤ 900; decide, ?_⟩⟩
    refine k d _ hd hne (by rw [upd_ne hne.symm, upd_ne hne.symm, upd_same]) (by rw [upd_same]; rfl) fun b o hba hbo => ?_
    rw [upd_ne (ne_of_none hbo hd), upd_ne (ne_of_none hbo hd), upd_ne hba, upd_ne (ne_of_none hbo hd)]
    exact hbo
end
end EV
namespace EV
open PySem PySem.Spec PyProof.Rows L2
/-- an own exception class with an __init__ that keeps its fields, in order -/
structure Err (P : Program) (w : World) (K : PySem.W.Frag) (mg : Str → Option Value) (base : Heap) (x : Str) (C : Addr) (fs : List Str) : Prop where
  oex : OexC K C
  rd : RdC K C
  gC : mg x = some (.ref C)
  no : ∀ f ∈ fs, PySem.W.findIn K (.ref C) f = some none
  made : ∃ (fI : Addr) (fd : FuncData), PySem.W.findIn K (.ref C) "__init__" = some (some (.ref fI)) ∧ PySem.W.typeIn K (.ref fI) = some (.type "function") ∧
    FnOk P w K mg base CX0 1 fI fd (("self" : Str) :: fs) (spSet C fs) ∧
    ∀ (s : Shared) (us ws : List Value), 0 < us.length → (us ++ ws).length = fs.length + 1 → BindsTo s fd ⟨us, ((("self" : Str) :: fs).drop us.length).zip ws⟩ ((("self" : Str) :: fs).zip (us ++ ws))
section
variable {X : Cx} {pins : List (Addr × Obj)} {σ : L2.St} {H : Hp} {s : Shared} {x : Str} {C : Addr} {fs : List Str} {us ws : List Value} {ys zs : List V} {Q : XK}
theorem run_err (T : Err X.prog X.w X.K X.mg X.base x C fs) (hr : Room 2 X.A) (I : Inv X pins σ H s) (ry : Vals ys us) (rz : Vals zs ws) (hl : (ys ++ zs).length = fs.length) (h9 : fs.length ≤ 9)
    (q : ∀ (d : Addr) (H' : Hp), Same H H' → H d = none → H' d = some (.xd (fs.zip (ys ++ zs)).reverse) → Q (.ref C) (some d) H') :
    wpAny (model X.prog X.w) X.A (call (.ref C) us ((fs.drop us.length).zip ws)) (MkP X pins σ Q) X.xe s := by
  obtain ⟨fI, fd, iC, tI, F1, bd⟩ := T.made
  obtain ⟨nm, qq, N, bs, bm, sn, sub, ab, col, dd, k0, k1, k2, k3, k5, hC, hbm⟩ := T.oex.cls
  obtain ⟨hp, g, dr, tk, os⟩ := s
  have hsz : hp.objs.size ≤ hp.objs.size + 1 := Nat.le_succ _
  have hn : H (hp.objs.size + 1) = none := I.hok.fresh hsz
  have lu : us.length + ws.length = fs.length := by
    rw [← ry.length, ← rz.length, ← hl, List.length_append]
  have kk : ∀ b o, hp.get? b = some o → ((hp.push (PySem.W.kdv_tup us)).push (PySem.HandSPX.excO C hp.objs.size)).get? b = some o :=
    fun b o e => Heap.get?_push_of_some _ (Heap.get?_push_of_some _ e)
  have hg1 : ((hp.push (PySem.W.kdv_tup us)).push (PySem.HandSPX.excO C hp.objs.size)).get? (hp.objs.size + 1) = some (PySem.HandSPX.excO C hp.objs.size) := by
    heap_get
  have I2 := I.laid (t' := tk) (a := hp.objs.size + 1) (o := exo (hp.objs.size + 1) C none) (h' := (hp.push (PySem.W.kdv_tup us)).push (PySem.HandSPX.excO C hp.objs.size)) kk hsz (exo_ok hg1)
  have r2 : Vals (V.ref (hp.objs.size + 1) :: (ys ++ zs)) (Value.ref (hp.objs.size + 1) :: (us ++ ws)) := .cons rfl (ry.append rz)
  have hus : us.length ≤ sizeLine := by
    rw [sizeLine_eq]
    omega
  have hq : spSet C fs (V.ref (hp.objs.size + 1) :: (ys ++ zs)) (upd H (hp.objs.size + 1) (exo (hp.objs.size + 1) C none))
      (fun v H2 => v = .non ∧ ∃ (d : Addr), H2 (hp.objs.size + 1) = some (exo (hp.objs.size + 1) C (some d)) ∧ H2 d = some (exd d (fs.zip (ys ++ zs)).reverse) ∧ H d = none ∧ Same H H2) (fun _ _ _ => False) := by
    refine ⟨_, _, rfl, hl, upd_same, fun d H' hd hne ha hx hk => ⟨rfl, d, ha, hx, ?_, fun b o e => ?_⟩⟩
    · rw [upd_ne hne] at hd
      exact hd
    · refine hk b o (ne_of_none e hn) ?_
      rw [upd_ne (ne_of_none e hn)]
      exact e
  have hb := bd ⟨(hp.push (PySem.W.kdv_tup us)).push (PySem.HandSPX.excO C hp.objs.size), g, dr, tk, os⟩ (Value.ref (hp.objs.size + 1) :: us) ws (Nat.succ_pos _)
    (by rw [List.length_append, List.length_cons]; omega)
  refine wpAny_call (EvK.callK F.excBase_ValueError (fun Y => PySem.HandSPX.refsVE_contains Y bm hbm) (I.kIn _ _ hC) (PySem.W.looks_findIn I.kIn iC) (fun self => PySem.W.bind_fn I.kIn self tI) hus
    (codeAny_mono (F1.run _ X.stack _ _ ⟨Value.ref (hp.objs.size + 1) :: us, (fs.drop us.length).zip ws⟩ (Value.ref (hp.objs.size + 1) :: (us ++ ws)) _ _ (fun _ _ _ => False) (hr.make C us _) (I2.env0.make C us _) hb r2 hq) fun r s' z => ?_))
  cases r with
  | error er => exact z.elim
  | ok fl =>
    cases fl with
    | next => exact z.elim
    | brk => exact z.elim
    | cont => exact z.elim
    | ret u =>
      obtain ⟨v, H2, os2, bare2, un2, hok2, rv, ev, d, ea, ed, hd1, sm⟩ := z
      subst ev
      obtain ⟨h2, g2, d2, t2, os'⟩ := s'
      refine ⟨rv, mk_end (raises_own T.oex.exC T.oex.tyC) I hsz kk un2 hok2 os2 bare2 ea ed hd1 (q d _ (fun b o e => ?_) hd1 upd_same)⟩
      rw [upd_ne (ne_of_none e hd1), del_ne (ne_of_none e hn)]
      exact sm b o e
end
end EV
namespace EV
open PySem PySem.Spec PyProof.Rows L2
/-- plain arguments: names and constants, which leave the heap as it is -/
def tPl (g : L2.St → List V → Prop) : TA := fun σ H Q => ∃ vs, g σ vs ∧ Q vs H
section
variable {X : Cx} {e : Expr} {es : List Expr} {g g' : L2.St → List V → Prop} {kws : List Keyword} {nm : Option Str} {kp : Pos}
theorem pl_nil : PA X [] (tPl fun _ vs => vs = []) := ⟨fun pos pins s σ H Q I ⟨vs, e, q⟩ => pa_nil.run pos pins s σ H Q I (by subst e; exact q)⟩
theorem pl_var {i : Nat} (he : PE X e (tVar i)) (hr : PA X es (tPl g)) (hs : starEach (e :: es) X.env = (false, eval e X.env) :: starEach es X.env := by rfl) : PA X (e :: es) (tPl fun σ vs => ∃ v r, vs = v :: r ∧ σ[i]? = some (some v) ∧ g σ r) :=
  ⟨fun pos pins s σ H Q I ⟨vs, ⟨v, r, e1, e2, e3⟩, q⟩ => (pa_cons he hr hs).run pos pins s σ H Q I (by subst e1; exact ⟨v, e2, r, e3, q⟩)⟩
theorem pl_int {n : Int} (he : PE X e (tC (.int n))) (hr : PA X es (tPl g)) (hs : starEach (e :: es) X.env = (false, eval e X.env) :: starEach es X.env := by rfl) : PA X (e :: es) (tPl fun σ vs => ∃ r, vs = .int n :: r ∧ g σ r) :=
  ⟨fun pos pins s σ H Q I ⟨vs, ⟨r, e1, e3⟩, q⟩ => (pa_cons he hr hs).run pos pins s σ H Q I (by subst e1; exact ⟨r, e3, q⟩)⟩
theorem kl_nil : PK X [] (tPl fun _ vs => vs = []) := ⟨fun pos pins s σ H Q I ⟨vs, e, q⟩ => pk_nil.run pos pins s σ H Q I (by subst e; exact q)⟩
theorem kl_var {i : Nat} (he : PE X e (tVar i)) (hr : PK X kws (tPl g)) : PK X (⟨nm, e, kp⟩ :: kws) (tPl fun σ vs => ∃ v r, vs = v :: r ∧ σ[i]? = some (some v) ∧ g σ r) :=
  ⟨fun pos pins s σ H Q I ⟨vs, ⟨v, r, e1, e2, e3⟩, q⟩ => (pk_cons he hr).run pos pins s σ H Q I (by subst e1; exact ⟨v, e2, r, e3, q⟩)⟩
theorem kl_int {n : Int} (he : PE X e (tC (.int n))) (hr : PK X kws (tPl g)) : PK X (⟨nm, e, kp⟩ :: kws) (tPl fun σ vs => ∃ r, vs = .int n :: r ∧ g σ r) :=
  ⟨fun pos pins s σ H Q I ⟨vs, ⟨r, e1, e3⟩, q⟩ => (pk_cons he hr).run pos pins s σ H Q I (by subst e1; exact ⟨r, e3, q⟩)⟩
end
/-- what making such an error asks and gives -/
def tEr (C : Addr) (fs : List Str) (g : L2.St → List V → Prop) : L2.St → Hp → XK → Prop := fun σ H Q => ∃ vs, g σ vs ∧ vs.length = fs.length ∧
  ∀ (d : Addr) (H' : Hp), Same H H' → H d = none → H' d = some (.xd (fs.zip vs).reverse) → Q (.ref C) (some d) H'
/-- n values and then keywords -/
def gApp (n : Nat) (g g' : L2.St → List V → Prop) : L2.St → List V → Prop := fun σ vs => ∃ ys zs, vs = ys ++ zs ∧ ys.length = n ∧ g σ ys ∧ g' σ zs
section
variable {X : Cx} {x : Str} {C : Addr} {fs : List Str} {e : Expr} {es : List Expr} {g g' : L2.St → List V → Prop} {kws : List Keyword} {p pos : Pos}
theorem pmk_er (T : Err X.prog X.w X.K X.mg X.base x C fs) (hr : Room 2 X.A) (h9 : fs.length ≤ 9) (hg : Gl X x) (ha : PA X (e :: es) (tPl g)) (hdb : (x == ("__debug__" : Str)) = false := by decide)
    (he : starEach (e :: es) X.env = (false, eval e X.env) :: starEach es X.env := by rfl) (hpl : (backTo pos (starEach es X.env)).any (·.1) = false := by rfl) :
    PMk X (.Call (.Name x p) (e :: es) [] pos) (tEr C fs g) := by
  intro pins s σ H Q I ⟨vs, hg1, hl, q⟩
  refine wpAny_Call_Name_kw (ld_glob I hg T.gC ?_ hdb)
  refine PySem.W.callWith_K (h₀ := X.base) I.ok.mod.kin T.oex.kC (thn (ha.run pos pins s σ H (fun us H1 => us = vs ∧ H1 = H) I ⟨vs, hg1, rfl, rfl⟩) fun us s1 ⟨ys, H1, I1, r1, e1, e2⟩ => ⟨I1.kIn, ?_⟩) he hpl
  subst e1
  subst e2
  have lu : us.length = fs.length := by rw [← r1.length, hl]
  have z := run_err (us := us) (ws := []) (zs := []) T hr I1 r1 .nil (by rw [List.append_nil]; exact hl) h9 (Q := Q) (by rw [List.append_nil]; exact q)
  rw [lu, List.drop_length] at z
  exact z
theorem pmk_erK (n : Nat) (T : Err X.prog X.w X.K X.mg X.base x C fs) (hr : Room 2 X.A) (h9 : fs.length ≤ 9) (hg : Gl X x) (ha : PA X (e :: es) (tPl g)) (hk : PK X kws (tPl g'))
    (hks : (backToKw pos (keywordEach kws X.env)).filterMap (·.1) = fs.drop n)
    (hall : (backToKw pos (keywordEach kws X.env)).all (·.1.isSome) = true := by rfl) (hdb : (x == ("__debug__" : Str)) = false := by decide)
    (he : starEach (e :: es) X.env = (false, eval e X.env) :: starEach es X.env := by rfl) (hpl : ((backTo pos (starEach (e :: es) X.env)).any (·.1) || (backToKw pos (keywordEach kws X.env)).any (·.1.isNone)) = false := by rfl) :
    PMk X (.Call (.Name x p) (e :: es) kws pos) (tEr C fs (gApp n g g')) := by
  intro pins s σ H Q I ⟨vs, ⟨vy, vz, ev, ln, hg1, hg2⟩, hl, q⟩
  subst ev
  refine wpAny_Call_Name_kw (ld_glob I hg T.gC ?_ hdb)
  refine PySem.W.callWith_KW (h₀ := X.base) I.ok.mod.kin T.oex.kC hall (thn (ha.run pos pins s σ H (fun us H1 => us = vy ∧ H1 = H) I ⟨vy, hg1, rfl, rfl⟩) fun us s1 ⟨ys, H1, I1, r1, e1, e2⟩ => ?_) hpl he
  subst e1
  subst e2
  refine thn (hk.run pos pins s1 σ H1 (fun us H2 => us = vz ∧ H2 = H1) I1 ⟨vz, hg2, rfl, rfl⟩) fun ws s2 ⟨zs, H2, I2, r2, e1, e2⟩ => ⟨I2.kIn, ?_⟩
  subst e1
  subst e2
  rw [hks]
  have lu : us.length = n := by rw [← r1.length, ln]
  have z := run_err (us := us) (ws := ws) T hr I2 r1 r2 hl h9 (Q := Q) q
  rw [lu] at z
  exact z
theorem pmk_erK0 (T : Err X.prog X.w X.K X.mg X.base x C fs) (hr : Room 2 X.A) (h9 : fs.length ≤ 9) (hg : Gl X x) (hk : PK X kws (tPl g'))
    (hks : (backToKw pos (keywordEach kws X.env)).filterMap (·.1) = fs)
    (hall : (backToKw pos (keywordEach kws X.env)).all (·.1.isSome) = true := by rfl) (hdb : (x == ("__debug__" : Str)) = false := by decide)
    (hpl : ((backTo pos (starEach [] X.env)).any (·.1) || (backToKw pos (keywordEach kws X.env)).any (·.1.isNone)) = false := by rfl) :
    PMk X (.Call (.Name x p) [] kws pos) (tEr C fs g') := by
  intro pins s σ H Q I ⟨vz, hg2, hl, q⟩
  refine wpAny_Call_Name_kw (ld_glob I hg T.gC ?_ hdb)
  refine PySem.W.callWith_KW0 (h₀ := X.base) I.ok.mod.kin T.oex.kC hall ?_ hpl
  refine thn (hk.run pos pins s σ H (fun us H2 => us = vz ∧ H2 = H) I ⟨vz, hg2, rfl, rfl⟩) fun ws s2 ⟨zs, H2, I2, r2, e1, e2⟩ => ⟨I2.kIn, ?_⟩
  subst e1
  subst e2
  rw [hks]
  exact run_err (us := []) (ys := []) (ws := ws) T hr I2 .nil r2 hl h9 (Q := Q) q
/-- kept -/
theorem pe_er (he : PMk X e (tEr C fs g)) : PE X e (fun σ H Q => ∃ vs, g σ vs ∧ vs.length = fs.length ∧
    ∀ (a d : Addr) (H' : Hp), Same H H' → H a = none → H' a = some (exv a C (some d)) → H' d = some (.xd (fs.zip vs).reverse) → Q (.ref a) H') := by
  refine ⟨fun pins s σ H Q I ⟨vs, h1, h2, q⟩ => ?_⟩
  refine (pe_val he).run pins s σ H Q I ⟨vs, h1, h2, fun d H' sm hd hx => ⟨C, rfl, fun a ha => ?_⟩⟩
  refine q a d _ (fun b o z => ?_) (sm.free ha) upd_same (by rw [upd_ne (ne_of_none hx ha)]; exact hx)
  rw [upd_ne (ne_of_none (sm b o z) ha)]
  exact sm b o z
/-- a field of it, read at once -/
theorem pe_erA {f : Str} {fp : Pos} (T : Err X.prog X.w X.K X.mg X.base x C fs) (he : PMk X e (tEr C fs g)) (hf : f ∈ fs) (hb : attributeBase e f X.env (eval e X.env) = eval e X.env := by rfl) :
    PE X (.Attribute e f fp) (fun σ H Q => ∃ vs v, g σ vs ∧ vs.length = fs.length ∧ (fs.zip vs).reverse.lookup f = some v ∧ ∀ H', Same H H' → Q v H') := by
  refine ⟨fun pins s σ H Q I ⟨vs, v, h1, h2, h3, q⟩ => ?_⟩
  exact (pe_attr (pe_er he) hb).run pins s σ H Q I ⟨vs, h1, h2, fun a d H' sm ha hx hd => ⟨a, C, d, _, v, rfl, T.rd, T.no f hf, hx, hd, h3, q H' sm⟩⟩
end
end EV
namespace EV
open PySem PySem.Spec PyProof.Rows L2
/-- an own exception class without an __init__ of its own -/
structure Err0 (K : PySem.W.Frag) (mg : Str → Option Value) (x : Str) (C : Addr) : Prop where
  ex : PySem.W.excIn K C [.type "ValueError", .type "Exception", .type "BaseException", .type "object"] "ValueError.__new__" = true
  gC : mg x = some (.ref C)
  kC : PySem.W.keepIn K (.ref C) = true
  exC : PySem.W.subIn K (.ref C) (.type "BaseException") = some true
  tyC : PySem.W.typeIn K (.ref C) = some (.type "type")
section
variable {X : Cx} {x : Str} {C : Addr} {p pos : Pos}
theorem pmk_er0 (T : Err0 X.K X.mg x C) (hg : Gl X x) (hdb : (x == ("__debug__" : Str)) = false := by decide) :
    PMk X (.Call (.Name x p) [] [] pos) (fun _ H Q => Q (.ref C) none H) := by
  intro pins s σ H Q I q
  refine wpAny_Call_Name_kw (ld_glob I hg T.gC ?_ hdb)
  refine PySem.W.callWith_K0 I.kIn T.kC ?_
  show wpAny _ _ (call (.ref C) []) _ _ _
  obtain ⟨bm, N, nm, qn, bs, hdct, sn, sub, ab, col, dd, k0, k1, k2, k3, k5, mN, hC, hN, hni, W⟩ := exc_obj I.kIn T.ex
  refine wpAny_call_exc_subT F.excBase_ValueError W hC hN hni (fun h' e hm => ?_) (by rw [sizeLine_eq]; decide)
  exact mk_of I hm (raises_own T.exC T.tyC) q (I.hok.gone hm.new)
/-- kept -/
theorem pe_er0 (T : Err0 X.K X.mg x C) (hg : Gl X x) (hdb : (x == ("__debug__" : Str)) = false := by decide) :
    PE X (.Call (.Name x p) [] [] pos) (fun _ H Q => ∀ (a : Addr) (H' : Hp), Same H H' → H a = none → H' a = some (exv a C none) → Q (.ref a) H') := by
  refine ⟨fun pins s σ H Q I q => ?_⟩
  refine (pe_val (pmk_er0 (p := p) (pos := pos) T hg hdb)).run pins s σ H Q I ⟨C, rfl, fun a ha => ?_⟩
  refine q a _ (fun b o z => ?_) ha upd_same
  rw [upd_ne (ne_of_none z ha)]
  exact z
/-- an exception held as a value -/
def ExAt (H : Hp) (a C : Addr) : Prop := ∃ d, H a = some (exv a C d) ∧ (d = none ∨ ∃ dx fs, d = some dx ∧ H dx = some (.xd fs))
theorem ExAt.same {H H' : Hp} {a C : Addr} (h : ExAt H a C) (s : Same H H') : ExAt H' a C := by
  obtain ⟨d, e, z⟩ := h
  refine ⟨d, s _ _ e, ?_⟩
  rcases z with z | ⟨dx, fs, z, e2⟩
  · exact .inl z
  · exact .inr ⟨dx, fs, z, s _ _ e2⟩
theorem inst_at {pins : List (Addr × Obj)} {σ : L2.St} {H : Hp} {s : Shared} {a : Addr} (I : Inv X pins σ H s) (h : ExAt H a C) : ∃ oe od, PySem.W.InstAt s.heap a oe C od := by
  obtain ⟨d, e, z⟩ := h
  obtain ⟨⟨oe, vs, ho, hc, hdi, hda⟩, _, _⟩ : ObjOk X.prog X.w H s.heap a (exv a C d) := I.hok a _ e
  rcases z with z | ⟨dx, fs, z, e2⟩
  · subst z
    exact ⟨oe, none, ho, hc, by unfold PySem.W.notCls; rw [hda] <;> rfl, by rw [hdi]; trivial⟩
  · subst z
    obtain ⟨mA, hns, hr⟩ : ObjOk X.prog X.w H s.heap dx (.xd fs) := I.hok dx _ e2
    obtain ⟨od, hod, _⟩ := lookIn_ns hns
    exact ⟨oe, some od, ho, hc, by unfold PySem.W.notCls; rw [hda] <;> rfl, by rw [hdi]; exact hod⟩
theorem kit_er {a : Addr} {oe : Obj} {od : Option Obj} (T : ExcC X.K C) : PySem.W.KitX X.K (.ref a) (.ref C) (fun h => PySem.W.InstAt h a oe C od) := by
  obtain ⟨cd, hcd, _⟩ := PySem.W.any_some T.hd
  exact PySem.W.kitx_exc (by rw [hcd]; rfl) T.hg T.hk T.hs T.ha T.hn T.ht T.hm
def rIsX (K : PySem.W.Frag) : List V → Hp → VK → Prop := fun xs H Q => ∃ (a C : Addr) (c : V) (u : Value) (b : Bool), xs = [.ref a, c] ∧ ExAt H a C ∧ ExcC K C ∧ ClsV c u ∧ PySem.W.kitOne K (.ref C) u = some b ∧ Q (.bl b) H
def rIsXT (K : PySem.W.Frag) : List V → Hp → VK → Prop := fun xs H Q => ∃ (a C tp : Addr) (cs : List V) (us : List Value) (b : Bool), xs = [.ref a, .ref tp] ∧ ExAt H a C ∧ ExcC K C ∧ H tp = some (.tup cs) ∧ Paired ClsV cs us ∧ PySem.W.kitAny K (.ref C) us = some b ∧ Q (.bl b) H
theorem call_isX : CallR X (.builtin "isinstance") (rIsX X.K) := by
  intro pins s σ H xs us Q I r ⟨a, D, c, u, b, ex, ha, T, k, e, q⟩
  subst ex
  obtain ⟨u1, u2, rfl, r1, r2⟩ := vals2 r
  cases (show u1 = Value.ref a from r1)
  have e2 := k.eq r2
  subst e2
  obtain ⟨oe, od, J⟩ := inst_at I ha
  exact PySem.W.kia_one (kit_er T) I.kIn J e (fun z => nomatch z) fun tk => ⟨.bl b, H, I.tok tk, rfl, q⟩
theorem call_isXT : CallR X (.builtin "isinstance") (rIsXT X.K) := by
  intro pins s σ H xs us Q I r ⟨a, D, tp, cs, ws, b, ex, ha, T, hT, k, e, q⟩
  subst ex
  obtain ⟨u1, u2, rfl, r1, r2⟩ := vals2 r
  cases (show u1 = Value.ref a from r1)
  cases (show u2 = Value.ref tp from r2)
  obtain ⟨oe, od, J⟩ := inst_at I ha
  obtain ⟨_, its, rv, o, h1, h2, n, h3⟩ := (show ObjOk X.prog X.w H s.heap tp (.tup cs) from I.hok tp _ hT)
  have e3 := ClsV.all k rv
  subst e3
  obtain ⟨oc, odd, dt, sl⟩ := o
  simp only at h2 h3
  subst h2 h3
  exact PySem.W.kia_tup (kit_er T) I.kIn J h1 e (fun z => nomatch z) fun tk => ⟨.bl b, H, I.tok tk, rfl, q⟩
end
end EV
namespace EV
open PySem PySem.Spec PyProof.Rows L2
/-- a known value, the heap but grown -/
def tVal (G : L2.St → V → Prop) : TE := fun σ H Q => ∃ v, G σ v ∧ ∀ H', Same H H' → Q v H'
/-- the value of slot i -/
def gSl (i : Nat) : L2.St → V → Prop := fun σ v => σ[i]? = some (some v)
def gInt (n : Int) : L2.St → V → Prop := fun _ v => v = .int n
/-- a new pair of twice the same value -/
def tPr (C : L2.St → Prop) (S : L2.St → V → Prop) : TE := fun σ H Q => C σ ∧ ∀ (a : Addr) (H' : Hp), Same H H' → (∃ v, S σ v ∧ H' a = some (.tup [v, v])) → Q (.ref a) H'
def tPrs (C : L2.St → Prop) (S : L2.St → V → Prop) (n : Nat) : TA := fun σ H Q => C σ ∧ ∀ (as : List Addr) (H' : Hp), as.length = n → Same H H' → (∀ a ∈ as, ∃ v, S σ v ∧ H' a = some (.tup [v, v])) → Q (as.map V.ref) H'
section
variable {X : Cx} {e e1 e2 : Expr} {es : List Expr} {G : L2.St → V → Prop} {C : L2.St → Prop} {S : L2.St → V → Prop} {n : Nat} {pos : Pos}
theorem tv_var {i : Nat} (he : PE X e (tVar i)) : PE X e (tVal (gSl i)) := ⟨fun pins s σ H Q I ⟨v, h1, q⟩ => he.run pins s σ H Q I ⟨v, h1, q H (Same.refl H)⟩⟩
theorem tv_int {k : Int} (he : PE X e (tC (.int k))) : PE X e (tVal (gInt k)) := ⟨fun pins s σ H Q I ⟨v, h1, q⟩ => he.run pins s σ H Q I (by cases h1; exact q H (Same.refl H))⟩
/-- what a list of fields and a way of giving them say of one field -/
def Pick (fs : List Str) (g : L2.St → List V → Prop) (f : Str) (G : L2.St → V → Prop) (C : L2.St → Prop) : Prop :=
  ∀ σ v, C σ → G σ v → ∃ vs, g σ vs ∧ vs.length = fs.length ∧ (fs.zip vs).reverse.lookup f = some v
theorem tv_er {x : Str} {Cl : Addr} {fs : List Str} {g : L2.St → List V → Prop} {f : Str} {fp : Pos} (T : Err X.prog X.w X.K X.mg X.base x Cl fs) (he : PMk X e (tEr Cl fs g)) (hf : f ∈ fs) (hp : Pick fs g f G C)
    (hb : attributeBase e f X.env (eval e X.env) = eval e X.env := by rfl) : PE X (.Attribute e f fp) (fun σ H Q => C σ ∧ tVal G σ H Q) :=
  ⟨fun pins s σ H Q I ⟨hc, v, h1, q⟩ => by
    obtain ⟨vs, a1, a2, a3⟩ := hp σ v hc h1
    exact (pe_erA T he hf hb).run pins s σ H Q I ⟨vs, v, a1, a2, a3, q⟩⟩
theorem pe_pr {kk : Nat} (h1 : PE X e1 (fun σ H Q => C σ ∧ tVal G σ H Q)) (h2 : PE X e2 (fun σ H Q => C σ ∧ tVal G σ H Q)) (hC : ∀ σ, C σ → ∃ v, G σ v) (hS : ∀ σ v, C σ → G σ v → S σ v)
    (hs : starEach [e1, e2] X.env = (false, eval e1 X.env) :: starEach [e2] X.env := by rfl) (hs2 : starEach [e2] X.env = (false, eval e2 X.env) :: starEach [] X.env := by rfl) :
    PE X (.Tuple [e1, e2] kk pos) (tPr C S) := by
  refine ⟨fun pins s σ H Q I ⟨hc, q⟩ => ?_⟩
  obtain ⟨v, hv⟩ := hC σ hc
  refine (pe_tup (pa_cons h1 (pa_cons h2 pa_nil hs2) hs)).run pins s σ H Q I ?_
  refine ⟨hc, v, hv, fun H1 s1 => ⟨hc, v, hv, fun H2 s2 => ⟨by show 2 ≤ sizeLine; decide, fun p hp => ?_⟩⟩⟩
  refine q p _ (fun b o z => ?_) ⟨v, hS σ v hc hv, upd_same⟩
  rw [upd_ne (ne_of_none (s2 b o (s1 b o z)) hp)]
  exact s2 b o (s1 b o z)
theorem prs_nil : PA X [] (tPrs C S 0) := ⟨fun pos pins s σ H Q I ⟨_, q⟩ => pa_nil.run pos pins s σ H Q I (q [] H rfl (Same.refl H) (by simp))⟩
theorem prs_cons (he : PE X e (tPr C S)) (hr : PA X es (tPrs C S n)) (hs : starEach (e :: es) X.env = (false, eval e X.env) :: starEach es X.env := by rfl) : PA X (e :: es) (tPrs C S (n + 1)) := by
  refine ⟨fun pos pins s σ H Q I ⟨hc, q⟩ => ?_⟩
  refine (pa_cons he hr hs).run pos pins s σ H Q I ⟨hc, fun a H1 s1 ⟨v, hv, ha⟩ => ⟨hc, fun as H2 hl s2 h2 => ?_⟩⟩
  refine q (a :: as) H2 (by rw [List.length_cons, hl]) (s1.trans s2) fun b hb => ?_
  rcases List.mem_cons.mp hb with z | z
  · subst z
    exact ⟨v, hv, s2 _ _ ha⟩
  · exact h2 b z
theorem cv_var {i : Nat} (he : PE X e (tVar i)) : PE X e (fun σ H Q => C σ ∧ tVal (gSl i) σ H Q) := ⟨fun pins s σ H Q I ⟨_, h⟩ => (tv_var he).run pins s σ H Q I h⟩
theorem cv_int {k : Int} (he : PE X e (tC (.int k))) : PE X e (fun σ H Q => C σ ∧ tVal (gInt k) σ H Q) := ⟨fun pins s σ H Q I ⟨_, h⟩ => (tv_int he).run pins s σ H Q I h⟩
end
end EV
namespace EV
open PySem PySem.Spec PyProof.Rows L2
/-- at t: a list of m pairs of twice the same value -/
def LP (H : Hp) (t : Addr) (m : Nat) (S : V → Prop) : Prop := ∃ as : List Addr, H t = some (.lst (as.map V.ref)) ∧ as.length = m ∧ ∀ a ∈ as, ∃ v, S v ∧ H a = some (.tup [v, v])
theorem LP.same {H H' : Hp} {t : Addr} {m : Nat} {S : V → Prop} (h : LP H t m S) (s : Same H H') : LP H' t m S := by
  obtain ⟨as, e, l, k⟩ := h
  refine ⟨as, s _ _ e, l, fun a ha => ?_⟩
  obtain ⟨v, h1, h2⟩ := k a ha
  exact ⟨v, h1, s _ _ h2⟩
theorem same_new {H : Hp} {t : Addr} {o : HO} (h : H t = none) : Same H (upd H t o) := fun b u e => by
  rw [upd_ne (ne_of_none e h)]
  exact e
section
variable {X : Cx} {e : Expr} {es : List Expr} {C : L2.St → Prop} {S : L2.St → V → Prop} {n i : Nat} {pos pos2 : Pos}
theorem pe_lprs (ha : PA X es (tPrs C S n)) (hn : n ≤ 1000) : PE X (.List es pos) (fun σ H Q => C σ ∧ ∀ (t : Addr) (H' : Hp), Same H H' → H t = none → LP H' t n (S σ) → Q (.ref t) H') := by
  refine ⟨fun pins s σ H Q I ⟨hc, q⟩ => ?_⟩
  refine (pe_lst ha).run pins s σ H Q I ⟨hc, fun as H1 hl s1 h1 => ⟨by rw [List.length_map, hl, sizeLine_eq]; omega, fun t ht => ?_⟩⟩
  refine q t _ (s1.trans (same_new ht)) (s1.free ht) ⟨as, upd_same, hl, fun a ha => ?_⟩
  obtain ⟨v, h2, h3⟩ := h1 a ha
  exact ⟨v, h2, same_new ht _ _ h3⟩
theorem pe_lcat (h1 : PE X e (tVar i)) (ha : PA X es (tPrs C S n)) (hn : n ≤ 1000) : PE X (.BinOp e .Add (.List es pos) pos2)
    (fun σ H Q => C σ ∧ ∃ (t1 : Addr) (m : Nat), σ[i]? = some (some (.ref t1)) ∧ m ≤ 1000 ∧ LP H t1 m (S σ) ∧ ∀ (t : Addr) (H' : Hp), Same H H' → H t = none → LP H' t (m + n) (S σ) → Q (.ref t) H') := by
  refine ⟨fun pins s σ H Q I ⟨hc, t1, m, hi, hm, L1, q⟩ => ?_⟩
  refine (pe_op op_cat h1 (pe_lprs ha hn)).run pins s σ H Q I ⟨_, hi, hc, fun t2 H2 s2 n2 L2 => ?_⟩
  obtain ⟨as, e1, l1, k1⟩ := L1.same s2
  obtain ⟨bs, e2, l2, k2⟩ := L2
  refine ⟨t1, t2, _, _, rfl, rfl, e1, e2, by rw [List.length_map, List.length_map, sizeLine_eq]; omega, fun p hp => ?_⟩
  refine q p _ (s2.trans (same_new hp)) (s2.free hp) ⟨as ++ bs, by rw [upd_same, List.map_append], by rw [List.length_append, l1, l2], fun a ha => ?_⟩
  rcases List.mem_append.mp ha with z | z
  · obtain ⟨v, h2, h3⟩ := k1 a z
    exact ⟨v, h2, same_new hp _ _ h3⟩
  · obtain ⟨v, h2, h3⟩ := k2 a z
    exact ⟨v, h2, same_new hp _ _ h3⟩
end
end EV
namespace EV
open PySem PySem.Spec PyProof.Rows L2
/-- the values of the menu -/
inductive Mn (H : Hp) : V → Prop where
  | non : Mn H .non
  | bl (b : Bool) : Mn H (.bl b)
  | int (i : Int) : Mn H (.int i)
  | str (z : Str) (h : SeqAt.shaped (.str z) = true) : Mn H (.str z)
  | tup {a : Addr} (h : H a = some (.tup [.int 1, .int 2])) : Mn H (.ref a)
  | lst {a : Addr} (h : H a = some (.lst [.str "x"])) : Mn H (.ref a)
  | dic {a : Addr} (h : H a = some (.dK [])) : Mn H (.ref a)
  | nst {a b : Addr} (h : H a = some (.tup [.ref b])) (h2 : H b = some (.tup [.str "k", .str "a"])) : Mn H (.ref a)
theorem Mn.same {H H' : Hp} {v : V} (m : Mn H v) (s : Same H H') : Mn H' v := by
  cases m with
  | non => exact .non
  | bl b => exact .bl b
  | int i => exact .int i
  | str z h => exact .str z h
  | tup h => exact .tup (s _ _ h)
  | lst h => exact .lst (s _ _ h)
  | dic h => exact .dic (s _ _ h)
  | nst h h2 => exact .nst (s _ _ h) (s _ _ h2)
def isB : V → Bool
  | .bl _ => true
  | _ => false
def rNeM : R2 := fun x y H Q => x = y ∧ Mn H x ∧ Q (.bl false) H
def rIsB (K : PySem.W.Frag) : List V → Hp → VK → Prop := fun xs H Q => ∃ v, xs = [v, .ty "bool"] ∧ Mn H v ∧ Q (.bl (isB v)) H
section
variable {X : Cx}
theorem op_neM (hu : X.A.units + 64 < cLine) : OpR X (compareOp .NotEq) rNeM := by
  intro pins s σ H x y v u Q I rx ry ⟨e, m, q⟩
  subst e
  have q' : ∀ b : Bool, b = false → Q (.bl b) H := fun b e => by rw [e]; exact q
  cases m with
  | non => exact op_neD hu pins s σ H _ _ v u Q I rx ry ⟨_, _, .non, .non, rfl, rfl, q' _ rfl⟩
  | bl b => exact op_neD hu pins s σ H _ _ v u Q I rx ry ⟨_, _, .bl b, .bl b, rfl, rfl, q' _ (by cases b <;> rfl)⟩
  | int i => exact op_neD hu pins s σ H _ _ v u Q I rx ry ⟨_, _, .int i, .int i, rfl, rfl, q' _ (by show (!(i == i)) = false; simp)⟩
  | str z h => exact op_neD hu pins s σ H _ _ v u Q I rx ry ⟨_, _, .str z, .str z, h, h, q' _ (by show (!(z == z)) = false; simp)⟩
  | tup h => exact op_neD hu pins s σ H _ _ v u Q I rx ry ⟨_, _, .tup (SqT.of h) (.cons (.int 1) (.cons (.int 2) .nil)), .tup (SqT.of h) (.cons (.int 1) (.cons (.int 2) .nil)), by decide +kernel, by decide +kernel, q' _ (by decide +kernel)⟩
  | lst h => exact op_neD hu pins s σ H _ _ v u Q I rx ry ⟨_, _, .lst (SqL.of h) (.cons (.str "x") .nil), .lst (SqL.of h) (.cons (.str "x") .nil), by decide +kernel, by decide +kernel, q' _ (by decide +kernel)⟩
  | nst h h2 => exact op_neD hu pins s σ H _ _ v u Q I rx ry ⟨_, _, .tup (SqT.of h) (.cons (.tup (SqT.of h2) (.cons (.str "k") (.cons (.str "a") .nil))) .nil), .tup (SqT.of h) (.cons (.tup (SqT.of h2) (.cons (.str "k") (.cons (.str "a") .nil))) .nil),
      by decide +kernel, by decide +kernel, q' _ (by decide +kernel)⟩
  | dic h => exact op_ne_dictA (by omega) pins s σ H _ _ v u Q I rx ry ⟨_, _, [], [], rfl, rfl, h, h, rfl, by simp, q⟩
theorem call_isB : CallR X (.builtin "isinstance") (rIsB X.K) := by
  intro pins s σ H xs us Q I r ⟨v, ex, m, q⟩
  subst ex
  have c : ∀ (T : String) (b : Bool), TyX X.K H v (.type T) → kitB T "bool" = some b → b = isB v → rIsi X.K [v, .ty "bool"] H Q := fun T b h1 h2 h3 => ⟨v, .ty "bool", .type T, .type "bool", b, rfl, .ty _, h1, kit_ty h2, by rw [h3]; exact q⟩
  refine call_isi pins s σ H _ us Q I r ?_
  cases m with
  | non => exact c "NoneType" false (.base .non) (by decide +kernel) rfl
  | bl b => exact c "bool" true (.base (.bl b)) (by decide +kernel) rfl
  | int i => exact c "int" false (.base (.int i)) (by decide +kernel) rfl
  | str z h => exact c "str" false (.base (.str z)) (by decide +kernel) rfl
  | tup h => exact c "tuple" false (.base (.tup h)) (by decide +kernel) rfl
  | lst h => exact c "list" false (.base (.lst h)) (by decide +kernel) rfl
  | dic h => exact c "dict" false (.base (.dK h)) (by decide +kernel) rfl
  | nst h h2 => exact c "tuple" false (.base (.tup h)) (by decide +kernel) rfl
end
/-- new exceptions of these classes, in order -/
def tExs (C : L2.St → Prop) (Cs : List Addr) : TA := fun σ H Q => C σ ∧ ∀ (as : List Addr) (H' : Hp), Same H H' → Paired (ExAt H') as Cs → Q (as.map V.ref) H'
/-- one -/
def tEx (C : L2.St → Prop) (Cl : Addr) : TE := fun σ H Q => C σ ∧ ∀ (a : Addr) (H' : Hp), Same H H' → H a = none → ExAt H' a Cl → Q (.ref a) H'
section
variable {X : Cx} {e : Expr} {es : List Expr} {C : L2.St → Prop} {Cl : Addr} {Cs : List Addr} {fs : List Str} {g : L2.St → List V → Prop} {x : Str} {p pos : Pos}
theorem ex_0 (T : Err0 X.K X.mg x Cl) (hg : Gl X x) (hdb : (x == ("__debug__" : Str)) = false := by decide) : PE X (.Call (.Name x p) [] [] pos) (tEx C Cl) :=
  ⟨fun pins s σ H Q I ⟨_, q⟩ => (pe_er0 (p := p) (pos := pos) T hg hdb).run pins s σ H Q I fun a H' s1 n ha => q a H' s1 n ⟨none, ha, .inl rfl⟩⟩
theorem ex_n (he : PMk X e (tEr Cl fs g)) (hp : ∀ σ, C σ → ∃ vs, g σ vs ∧ vs.length = fs.length) : PE X e (tEx C Cl) :=
  ⟨fun pins s σ H Q I ⟨hc, q⟩ => by
    obtain ⟨vs, h1, h2⟩ := hp σ hc
    exact (pe_er he).run pins s σ H Q I ⟨vs, h1, h2, fun a d H' s1 n ha hd => q a H' s1 n ⟨some d, ha, .inr ⟨d, _, rfl, hd⟩⟩⟩⟩
theorem exs_nil : PA X [] (tExs C []) := ⟨fun pos pins s σ H Q I ⟨_, q⟩ => pa_nil.run pos pins s σ H Q I (q [] H (Same.refl H) .nil)⟩
theorem exs_cons (he : PE X e (tEx C Cl)) (hr : PA X es (tExs C Cs)) (hs : starEach (e :: es) X.env = (false, eval e X.env) :: starEach es X.env := by rfl) : PA X (e :: es) (tExs C (Cl :: Cs)) := by
  refine ⟨fun pos pins s σ H Q I ⟨hc, q⟩ => ?_⟩
  refine (pa_cons he hr hs).run pos pins s σ H Q I ⟨hc, fun a H1 s1 _ ha => ⟨hc, fun as H2 s2 h2 => ?_⟩⟩
  exact q (a :: as) H2 (s1.trans s2) (.cons (ha.same s2) h2)
theorem paired_same {H H' : Hp} {as Cs : List Addr} (h : Paired (ExAt H) as Cs) (s : Same H H') : Paired (ExAt H') as Cs := L2.Paired.mapP h fun _ _ z => z.same s
end
end EV
namespace K00
open PySem PySem.Spec PyProof.Rows L2
def top (i : Nat) : Stmt := PySem.Challenge.pw_growwebs_k00_errors_made_by_hand.main.body.getD i (.Pass ⟨0, 0, 0, 0⟩)
abbrev sPen : Stmt := top 37
abbrev sDraw : Stmt := top 38
abbrev sPick : Stmt := top 39
/-! ### the pen -/
abbrev kCells : Key := Sum.inr "cells"
abbrev kSpot : Key := Sum.inr "spot"
abbrev kRest : Key := Sum.inr "rest"
def penKv (l : Addr) (spot rest : Int) : List (Key × V) := [(kCells, .ref l), (kSpot, .int spot), (kRest, .int rest)]
/-- a pen stands at p; at most n spots were drawn -/
structure PenAt (H : Hp) (p l : Addr) (ns : List Int) (n : Nat) : Prop where
  ob : ∃ spot rest : Int, H p = some (.dK (penKv l spot rest)) ∧ 0 ≤ spot ∧ spot ≤ n
  ce : H l = some (.lst (ns.map V.int))
  le : ns.length ≤ 63
theorem sCS : ¬ (("cells" : Str) = "spot") := by decide +kernel
theorem sCR : ¬ (("cells" : Str) = "rest") := by decide +kernel
theorem sSR : ¬ (("spot" : Str) = "rest") := by decide +kernel
theorem sRS : ¬ (("rest" : Str) = "spot") := by decide +kernel
theorem nCS : (kCells : Key) ≠ kSpot := by decide +kernel
theorem nCR : (kCells : Key) ≠ kRest := by decide +kernel
theorem nSR : (kSpot : Key) ≠ kRest := by decide +kernel
theorem v_cells (l : Addr) (s r : Int) : valV (penKv l s r) kCells = some (.ref l) := by
  unfold valV penKv
  rw [List.find?_cons_of_pos (by simp)]
  rfl
theorem v_spot (l : Addr) (s r : Int) : valV (penKv l s r) kSpot = some (.int s) := by
  unfold valV penKv
  rw [List.find?_cons_of_neg (by simpa using nCS), List.find?_cons_of_pos (by simp)]
  rfl
theorem v_rest (l : Addr) (s r : Int) : valV (penKv l s r) kRest = some (.int r) := by
  unfold valV penKv
  rw [List.find?_cons_of_neg (by simpa using nCR), List.find?_cons_of_neg (by simpa using nSR), List.find?_cons_of_pos (by simp)]
  rfl
theorem put_rest (l : Addr) (s r z : Int) : putK (penKv l s r) kRest (.int z) = penKv l s z := by
  unfold penKv
  simp [putK, sCR, sSR]
theorem put_spot (l : Addr) (s r z : Int) : putK (penKv l s r) kSpot (.int z) = penKv l z r := by
  unfold penKv
  simp [putK, sCS, sRS]
theorem merge_pen (l : Addr) : mergeK [] (penKv l 0 0) = penKv l 0 0 := by
  unfold penKv
  simp [mergeK, putK, sCS, sCR, sSR, sRS]
/-- the pen's promise: a list of ints comes in, a pen goes out -/
def spPen (K : PySem.W.Frag) : Sp := fun vs H Q _ => ∃ (a : Addr) (ns : List Int), vs = [.ref a] ∧ SqL K H a (ns.map V.int) ∧ ns.length ≤ 63 ∧
  ∀ (p l : Addr) (H' : Hp), Same H H' → H p = none → H l = none → p ≠ l → PenAt H' p l ns 0 → Q (.ref p) H'
section
variable {P : Program} {w : World} {K : PySem.W.Frag} {mg : Str → Option Value} {base : Heap}
theorem scPen : FnScope ["_law_script"] ["_law_script"] (defScope sPen) := ⟨rfl, rfl, rfl, by decide +kernel, rfl, by decide +kernel, by decide +kernel⟩
theorem ok_pen {f : Addr} {fd : FuncData} (F : Fun K "_law_pen" "_law_pen" sPen f fd) (zL : mg "list" = none) : FnOk P w K mg base CX0 1 f fd ["_law_script"] (spPen K) := by
  refine F.ok scPen (fun vs H Q E h => ?_) (fun cdv A outer s H vs Q E hr h => ?_)
  · obtain ⟨a, ns, rfl, _⟩ := h
    rfl
  · obtain ⟨a, ns, rfl, hS, hlen, k⟩ := h
    refine ⟨_, pss_one (ps_ret (pe_disp (pps_cons pe_str (pe_callTy call_list_of (by rfl) zL (by decide +kernel) (pa_cons (pe_slice sl_list (pv 0) po_none (po_some pe_int)) pa_nil)) (pps_cons pe_str pe_int (pps_cons pe_str pe_int pps_nil)))
      rfl rfl (by simp) (by decide))), ?_⟩
    intro p hp
    have s1 : Same H (upd H p (.dK [])) := fun b o e => by rw [upd_ne (ne_of_none e hp)]; exact e
    refine ⟨_, rfl, 63, rfl, a, _, rfl, s1.seq hS, fun q hq => ?_⟩
    have cut : cutV (ns.map V.int) none (some 63) = ns.map V.int := by
      unfold cutV
      have e1 : HT.sIx (ns.map V.int).length 0 none = 0 := rfl
      have e2 : HT.sIx (ns.map V.int).length (ns.map V.int).length (some 63) = (ns.map V.int).length := by
        have z := HT.sIx_nat (ns.map V.int).length (ns.map V.int).length 63
        have z2 : ((63 : Nat) : Int) = 63 := rfl
        rw [z2] at z
        rw [z, List.length_map]
        omega
      rw [e1, e2, List.drop_zero, Nat.sub_zero, List.take_length]
    rw [cut]
    refine ⟨q, _, rfl, .inl (SqL.of upd_same), fun l hl => ?_⟩
    have hq0 : H q = none := s1.free hq
    have s2 : Same (upd H p (.dK [])) (upd (upd H p (.dK [])) q (.lst (ns.map V.int))) := fun b o e => by rw [upd_ne (ne_of_none e hq)]; exact e
    have npl : p ≠ l := fun z => by
      subst z
      have z2 := s2 p _ upd_same
      rw [hl] at z2
      cases z2
    have npq : p ≠ q := fun z => by
      rw [← z, upd_same] at hq
      cases hq
    refine ⟨by rw [upd_ne npl, upd_ne npq, upd_same], penKv l 0 0, rfl, by show 3 ≤ 15; decide, ?_⟩
    rw [merge_pen]
    have hl1 : H l = none := s1.free (s2.free hl)
    refine k p l _ (fun b o e => ?_) hp hl1 npl ⟨⟨0, 0, upd_same, by omega, by omega⟩, by rw [upd_ne npl.symm, upd_same], hlen⟩
    rw [upd_ne (ne_of_none e hp), upd_ne (ne_of_none e hl1), upd_ne (ne_of_none e hq0), upd_ne (ne_of_none e hp)]
    exact e
end
end K00
namespace K00
open PySem PySem.Spec PyProof.Rows L2
/-- the draw's promise: an int from 0 up to the bound, the pen gone on by one spot at most -/
def spDraw : Sp := fun vs H Q _ => ∃ (p l : Addr) (ns : List Int) (n : Nat) (m : Int), vs = [.ref p, .int m] ∧ PenAt H p l ns n ∧ n ≤ 1000000 ∧ 0 < m ∧ m.natAbs < 2 ^ 8000 ∧
  ∀ (d : Int) (H' : Hp), 0 ≤ d → d < m → PenAt H' p l ns (n + 1) → (∀ b o, b ≠ p → H b = some o → H' b = some o) → Q (.int d) H'
theorem shaped_ints (ns : List Int) : SeqAt.shaped (.list (ns.map PyData.int)) = true := by
  have h1 : ∀ l : List Int, PyData.canLayAll0 (l.map PyData.int) = true := fun l => by
    induction l with
    | nil => rfl
    | cons x r ih => show (true && PyData.canLayAll0 (r.map PyData.int)) = true; rw [ih]; rfl
  have h2 : ∀ l : List Int, PyData.depthAll (l.map PyData.int) = 0 := fun l => by
    induction l with
    | nil => rfl
    | cons x r ih => show max 0 (PyData.depthAll (r.map PyData.int)) = 0; rw [ih]; rfl
  unfold SeqAt.shaped
  have e1 : PyData.canLay0 (.list (ns.map PyData.int)) = true := h1 ns
  have e2 : PyData.depth (.list (ns.map PyData.int)) = 1 := by show PyData.depthAll (ns.map PyData.int) + 1 = 1; rw [h2]
  rw [e1, e2]
  rfl
theorem dp_ints {K : PySem.W.Frag} {H : Hp} : ∀ ns : List Int, DpAll K H (ns.map V.int) (ns.map PyData.int)
  | [] => .nil
  | x :: r => .cons (.int x) (dp_ints r)
theorem PenAt.same {H H' : Hp} {p l : Addr} {ns : List Int} {n : Nat} (h : PenAt H p l ns n) (s : Same H H') : PenAt H' p l ns n := by
  obtain ⟨⟨sp, r, e, h1, h2⟩, c, le⟩ := h
  exact ⟨⟨sp, r, s _ _ e, h1, h2⟩, s _ _ c, le⟩
theorem PenAt.more {H : Hp} {p l : Addr} {ns : List Int} {n m : Nat} (h : PenAt H p l ns n) (k : n ≤ m) : PenAt H p l ns m := by
  obtain ⟨⟨sp, r, e, h1, h2⟩, c, le⟩ := h
  exact ⟨⟨sp, r, e, h1, by omega⟩, c, le⟩
theorem kNE {H : Hp} {p l : Addr} {ns : List Int} {n : Nat} (h : PenAt H p l ns n) : p ≠ l := by
  obtain ⟨⟨sp, r, e, _, _⟩, c, _⟩ := h
  exact ne_of e c (by intro z; cases z)
theorem g_rest {H : Hp} {p l : Addr} {a b : Int} (e : H p = some (.dK (penKv l a b))) : DGet H p (.str "rest") (some (.int b)) := by
  have z := DGet.k (k := kRest) e
  rw [v_rest] at z
  exact z
theorem g_spot {H : Hp} {p l : Addr} {a b : Int} (e : H p = some (.dK (penKv l a b))) : DGet H p (.str "spot") (some (.int a)) := by
  have z := DGet.k (k := kSpot) e
  rw [v_spot] at z
  exact z
theorem g_cells {H : Hp} {p l : Addr} {a b : Int} (e : H p = some (.dK (penKv l a b))) : DGet H p (.str "cells") (some (.ref l)) := by
  have z := DGet.k (k := kCells) e
  rw [v_cells] at z
  exact z
theorem p_rest {H : Hp} {p l : Addr} {a b c : Int} (e : H p = some (.dK (penKv l a b))) : DPut H p (.str "rest") (.int c) (upd H p (.dK (penKv l a c))) := by
  have z := DPut.k (k := kRest) (v := .int c) e (by show 3 < sizeLine; decide)
  rw [put_rest] at z
  exact z
theorem p_spot {H : Hp} {p l : Addr} {a b c : Int} (e : H p = some (.dK (penKv l a b))) : DPut H p (.str "spot") (.int c) (upd H p (.dK (penKv l c b))) := by
  have z := DPut.k (k := kSpot) (v := .int c) e (by show 3 < sizeLine; decide)
  rw [put_spot] at z
  exact z
theorem hu64_of {A : Around} {k : Nat} (hr : Room k A) : A.units + 64 < cLine := by
  have := hr.un
  omega
theorem bnd (x c : Int) (h : 0 < c) (h9 : c ≤ 2 ^ 63) : -(2 ^ 64) < x % c ∧ x % c < 2 ^ 64 := by
  have h1 := Int.emod_nonneg x (show c ≠ 0 by omega)
  have h2 := Int.emod_lt_of_pos x h
  omega
theorem lenL {K : PySem.W.Frag} {H : Hp} {l : Addr} {ns : List Int} (e : H l = some (.lst (ns.map V.int))) : SqL K H l (ns.map V.int) := SqL.of e
section
variable {P : Program} {w : World} {K : PySem.W.Frag} {mg : Str → Option Value} {base : Heap}
abbrev nmDraw : List Str := ["_law_pen_here", "_law_many", "_law_digit", "_law_spot", "_law_cell", "_law_mixed"]
theorem scDraw : FnScope nmDraw ["_law_pen_here", "_law_many"] (defScope sDraw) := ⟨rfl, rfl, rfl, by decide +kernel, rfl, by decide +kernel, by decide +kernel⟩
theorem ok_draw {f : Addr} {fd : FuncData} (F : Fun K "_law_draw" "_law_draw" sDraw f fd) (zI : mg "int" = none) (zN : mg "len" = none) : FnOk P w K mg base CX0 1 f fd ["_law_pen_here", "_law_many"] spDraw := by
  refine F.ok scDraw (fun vs H Q E h => ?_) (fun cdv A outer s H vs Q E hr h => ?_)
  · obtain ⟨p, l, ns, n, m, rfl, _⟩ := h
    rfl
  · obtain ⟨p, l, ns, n, m, rfl, Pn, hn, m0, m9, k⟩ := h
    have hu := hu_of hr
    have hu64 := hu64_of hr
    have nd := scDraw.nd
    have bi : bootBuiltins "int" = some (.type "int") := by decide +kernel
    obtain ⟨⟨sp, rt, e0, s0, s9⟩, ce, le⟩ := id Pn
    have npl := kNE Pn
    refine ⟨_, (pss_cons (ps_if (pt_cmpR op_ge (pe_dget hu (pv 0) pe_str (fun _ _ => rfl)) (pv 1) (nomark _))
(pss_cons (ps_set (i := 2) nd rfl (Or.inl rfl) (pe_op op_mod (pe_callTy call_int1 (by rfl) zI bi (pa_cons (pe_dget hu (pv 0) pe_str (fun _ _ => rfl)) pa_nil)) (pv 1)))
(pss_cons (ps_dput hu (pv 0) pe_str (pe_op op_fdivW (pe_dget hu (pv 0) pe_str (fun _ _ => rfl)) (pv 1)) rfl)
(pss_one (ps_ret (pv 2)))))
pss_nil)
(pss_cons (ps_set (i := 3) nd rfl (Or.inl rfl) (pe_dget hu (pv 0) pe_str (fun _ _ => rfl)))
(pss_cons (ps_dput hu (pv 0) pe_str (pe_op op_add (pv 3) pe_int) rfl)
(pss_cons (ps_set (i := 4) nd rfl (Or.inl rfl) (pe_op op_add (pe_op op_mul pe_int (pv 3)) pe_int))
(C8.pss_cut (ps_if (pt_cmpR (op_neD hu64) (pe_dget hu (pv 0) pe_str (fun _ _ => rfl)) (pe_lst pa_nil) (nomark _))
(pss_one (ps_set (i := 4) nd rfl (Or.inl rfl) (pe_ix ix_list (pe_dget hu (pv 0) pe_str (fun _ _ => rfl)) (pe_op op_mod (pe_callTy call_int1 (by rfl) zI bi (pa_cons (pv 3) pa_nil)) (pe_callB call_len_seq (by rfl) zN PySem.boot_len (pa_cons (pe_dget hu (pv 0) pe_str (fun _ _ => rfl)) pa_nil))) (fun _ _ => rfl))))
pss_nil)
(pss_cons (ps_if (PW.pt (pw_and (pt_cmpR op_lt (pv 3) (pe_callB call_len_seq (by rfl) zN PySem.boot_len (pa_cons (pe_dget hu (pv 0) pe_str (fun _ _ => rfl)) pa_nil)) (nomark _)) (pw_and1 (pt_cmpR op_ge (pv 4) (pe_op op_pow pe_int pe_int) (nomark _)))))
(pss_cons (ps_dput hu (pv 0) pe_str (pe_op op_fdivW (pe_op op_sub (pv 4) (pe_op op_pow pe_int pe_int)) (pv 1)) rfl)
(pss_one (ps_ret (pe_op op_mod (pe_callTy call_int1 (by rfl) zI bi (pa_cons (pe_op op_sub (pv 4) (pe_op op_pow pe_int pe_int)) pa_nil)) (pv 1)))))
pss_nil)
(pss_cons (ps_set (i := 5) nd rfl (Or.inl rfl) (pe_op op_mul (pe_op op_mod (pe_callTy call_int1 (by rfl) zI bi (pa_cons (pv 4) pa_nil)) pe_int) pe_int))
(pss_cons (ps_set (i := 5) nd rfl (Or.inl rfl) (pe_op op_mod (pe_callTy call_int1 (by rfl) zI bi (pa_cons (pe_op op_add (pe_op op_add (pe_op op_add (pv 5) (pe_op op_mul (pe_op op_mul pe_int (pv 3)) (pv 3))) (pe_op op_mul pe_int (pv 3))) pe_int) pa_nil)) pe_int))
(pss_cons (ps_set (i := 5) nd rfl (Or.inl rfl) (pe_op op_mod (pe_callTy call_int1 (by rfl) zI bi (pa_cons (pe_op op_mul (pv 5) (pe_op op_add (pv 5) pe_int)) pa_nil)) pe_int))
(pss_one (ps_ret (pe_op op_mod (pe_callTy call_int1 (by rfl) zI bi (pa_cons (pe_op op_fdiv (pe_op op_mod (pe_callTy call_int1 (by rfl) zI bi (pa_cons (pe_op op_add (pe_op op_mul (pv 5) (pv 5)) (pe_op op_mul pe_int (pv 5))) pa_nil)) pe_int) pe_int) pa_nil)) (pv 1))))))))))))), ?_⟩
    -- if pen['rest'] >= many
    refine ⟨_, rfl, p, .int rt, rfl, g_rest e0, _, rfl, rt, m, rfl, rfl, _, rfl, ?_⟩
    refine ite2 (fun _ => ?_) (fun _ => ?_)
    · refine ⟨_, rfl, p, .int rt, rfl, g_rest e0, .inl ⟨rt, rfl, _, rfl, rt, m, rfl, rfl, m0, ?_⟩⟩
      refine ⟨_, rfl, p, .int rt, rfl, g_rest e0, _, rfl, rt, m, rfl, rfl, wide_div m0 m9 (by decide) (by decide), _, rfl, p, _, rfl, p_rest e0, ?_⟩
      refine ⟨_, rfl, k (rt % m) _ (Int.emod_nonneg _ (by omega)) (Int.emod_lt_of_pos _ m0) ⟨⟨sp, rt / m, upd_same, s0, by omega⟩, by rw [upd_ne npl.symm]; exact ce, le⟩ fun b o hb ho => by rw [upd_ne hb]; exact ho⟩
    -- spot
    refine ⟨_, rfl, p, .int sp, rfl, g_spot e0, ?_⟩
    refine ⟨_, rfl, sp, 1, rfl, rfl, _, rfl, p, _, rfl, p_spot e0, ?_⟩
    have e1 : (upd H p (.dK (penKv l (sp + 1) rt))) p = some (.dK (penKv l (sp + 1) rt)) := upd_same
    have c1 : (upd H p (.dK (penKv l (sp + 1) rt))) l = some (.lst (ns.map V.int)) := by rw [upd_ne npl.symm]; exact ce
    have o1 : ∀ b o, b ≠ p → H b = some o → (upd H p (.dK (penKv l (sp + 1) rt))) b = some o := fun b o hb ho => by rw [upd_ne hb]; exact ho
    generalize upd H p (.dK (penKv l (sp + 1) rt)) = H1 at e1 c1 o1 ⊢
    -- cell
    refine ⟨_, rfl, 73, sp, rfl, rfl, .inl (by omega), _, _, rfl, rfl, ?_⟩
    refine ⟨fun σ' H' => ∃ (c : Int), σ' = [some (.ref p), some (.int m), none, some (.int sp), some (.int c), none] ∧ H' p = some (.dK (penKv l (sp + 1) rt)) ∧ H' l = some (.lst (ns.map V.int)) ∧ ∀ b o, b ≠ p → H b = some o → H' b = some o, ?_, ?_⟩
    · -- if pen['cells'] != []
      refine ⟨_, rfl, p, .ref l, rfl, g_cells e1, by show 0 ≤ sizeLine; exact Nat.zero_le _, fun q hq => ?_⟩
      have nlq : l ≠ q := ne_of_none c1 hq
      have npq : p ≠ q := ne_of_none e1 hq
      have e2 : (upd H1 q (.lst [])) p = some (.dK (penKv l (sp + 1) rt)) := by rw [upd_ne npq]; exact e1
      have c2 : (upd H1 q (.lst [])) l = some (.lst (ns.map V.int)) := by rw [upd_ne nlq]; exact c1
      have o2 : ∀ b o, b ≠ p → H b = some o → (upd H1 q (.lst [])) b = some o := fun b o hb ho => by rw [upd_ne (ne_of_none (o1 b o hb ho) hq)]; exact o1 b o hb ho
      refine ⟨_, _, .lst (SqL.of c2) (dp_ints ns), .lst (SqL.of upd_same) .nil, shaped_ints ns, shaped_ints [], _, rfl, ?_⟩
      cases ns with
      | nil =>
        refine iteF ?_
        exact ⟨_, rfl, e2, c2, o2⟩
      | cons z zs =>
        refine iteT ?_
        refine ⟨_, rfl, p, .ref l, rfl, g_cells e2, _, rfl, .inl ⟨sp, rfl, _, rfl, p, .ref l, rfl, g_cells e2, l, _, rfl, .inl (SqL.of c2), ?_⟩⟩
        have hL : (0 : Int) < ((((z :: zs).map V.int).length : Nat) : Int) := by rw [List.length_map, List.length_cons]; omega
        refine ⟨_, _, rfl, rfl, hL, ?_⟩
        have h0 : 0 ≤ sp % ((((z :: zs).map V.int).length : Nat) : Int) := Int.emod_nonneg _ (by omega)
        have h9 : sp % ((((z :: zs).map V.int).length : Nat) : Int) < ((((z :: zs).map V.int).length : Nat) : Int) := Int.emod_lt_of_pos _ hL
        obtain ⟨j, hj⟩ : ∃ j : Nat, sp % ((((z :: zs).map V.int).length : Nat) : Int) = (j : Int) := ⟨_, (Int.toNat_of_nonneg h0).symm⟩
        rw [hj] at h9
        have hjl : j < (z :: zs).length := by rw [List.length_map] at h9; omega
        refine ⟨l, _, sp % ((((z :: zs).map V.int).length : Nat) : Int), .int ((z :: zs)[j]'hjl), rfl, rfl, SqL.of c2, (by rw [hj]; exact atI_nat (by rw [List.getElem?_map, List.getElem?_eq_getElem hjl]; rfl)), ?_⟩
        exact ⟨_, rfl, e2, c2, o2⟩
    -- behind it
    rintro σ' H' ⟨c, rfl, e2, c2, o2⟩
    have pn : ∀ r, PenAt (upd H' p (.dK (penKv l (sp + 1) r))) p l ns (n + 1) := fun r => ⟨⟨sp + 1, r, upd_same, by omega, by omega⟩, by rw [upd_ne npl.symm]; exact c2, le⟩
    have pn0 : PenAt H' p l ns (n + 1) := ⟨⟨sp + 1, rt, e2, by omega, by omega⟩, c2, le⟩
    have pw : CPow 10 18 := ⟨by decide, by decide, by decide⟩
    -- the last lines
    refine ⟨_, rfl, _, rfl, p, .ref l, rfl, g_cells e2, l, _, rfl, .inl (SqL.of c2), _, _, rfl, rfl, _, rfl, ?_⟩
    refine ite2 (fun _ => ?_) (fun _ => ?_)
    rotate_left
    · refine iteF ?_
      refine ⟨_, rfl, .inl ⟨c, rfl, c, 2147483269, rfl, rfl, (by show (0 : Int) < 2147483269; decide), _, 40177, rfl, rfl, .inr (by show -(2 ^ 64) < (40177 : Int) ∧ (40177 : Int) < 2 ^ 64; decide), ?_⟩⟩
      refine ⟨_, rfl, _, rfl, 52489, sp, rfl, rfl, .inl (by show -(2 ^ 64) < (52489 : Int) ∧ (52489 : Int) < 2 ^ 64; decide), _, rfl, _, sp, rfl, rfl, .inr (by show -(2 ^ 64) < sp ∧ sp < 2 ^ 64; omega), _, _, rfl, rfl, _, rfl, 103, sp, rfl, rfl, .inl (by show -(2 ^ 64) < (103 : Int) ∧ (103 : Int) < 2 ^ 64; decide), _, _, rfl, rfl, _, _, rfl, rfl, .inl ⟨_, rfl, _, 2147483323, rfl, rfl, (by show (0 : Int) < 2147483323; decide), ?_⟩⟩
      refine ⟨_, rfl, _, rfl, _, _, rfl, rfl, _, _, rfl, rfl, .inl (bnd _ _ (by decide) (by decide)), .inl ⟨_, rfl, _, 2147483353, rfl, rfl, (by show (0 : Int) < 2147483353; decide), ?_⟩⟩
      refine ⟨_, rfl, _, rfl, _, _, rfl, rfl, .inl (bnd _ _ (by decide) (by decide)), _, rfl, 19, _, rfl, rfl, .inl (by show -(2 ^ 64) < (19 : Int) ∧ (19 : Int) < 2 ^ 64; decide), _, _, rfl, rfl, .inl ⟨_, rfl, _, 2147483399, rfl, rfl, (by show (0 : Int) < 2147483399; decide), _, 16, rfl, rfl, (by show (0 : Int) < 16 ∧ (16 : Int) < 1073741824; decide), .inl ⟨_, rfl, _, rfl, _, m, rfl, rfl, m0, ?_⟩⟩⟩
      exact k _ _ (Int.emod_nonneg _ (by omega)) (Int.emod_lt_of_pos _ m0) pn0 o2
    · refine ⟨_, rfl, 10, 18, rfl, rfl, pw, _, _, rfl, rfl, _, rfl, ?_⟩
      refine ite2 (fun _ => ?_) (fun _ => ?_)
      rotate_left
      · refine ⟨_, rfl, .inl ⟨c, rfl, c, 2147483269, rfl, rfl, (by show (0 : Int) < 2147483269; decide), _, 40177, rfl, rfl, .inr (by show -(2 ^ 64) < (40177 : Int) ∧ (40177 : Int) < 2 ^ 64; decide), ?_⟩⟩
        refine ⟨_, rfl, _, rfl, 52489, sp, rfl, rfl, .inl (by show -(2 ^ 64) < (52489 : Int) ∧ (52489 : Int) < 2 ^ 64; decide), _, rfl, _, sp, rfl, rfl, .inr (by show -(2 ^ 64) < sp ∧ sp < 2 ^ 64; omega), _, _, rfl, rfl, _, rfl, 103, sp, rfl, rfl, .inl (by show -(2 ^ 64) < (103 : Int) ∧ (103 : Int) < 2 ^ 64; decide), _, _, rfl, rfl, _, _, rfl, rfl, .inl ⟨_, rfl, _, 2147483323, rfl, rfl, (by show (0 : Int) < 2147483323; decide), ?_⟩⟩
        refine ⟨_, rfl, _, rfl, _, _, rfl, rfl, _, _, rfl, rfl, .inl (bnd _ _ (by decide) (by decide)), .inl ⟨_, rfl, _, 2147483353, rfl, rfl, (by show (0 : Int) < 2147483353; decide), ?_⟩⟩
        refine ⟨_, rfl, _, rfl, _, _, rfl, rfl, .inl (bnd _ _ (by decide) (by decide)), _, rfl, 19, _, rfl, rfl, .inl (by show -(2 ^ 64) < (19 : Int) ∧ (19 : Int) < 2 ^ 64; decide), _, _, rfl, rfl, .inl ⟨_, rfl, _, 2147483399, rfl, rfl, (by show (0 : Int) < 2147483399; decide), _, 16, rfl, rfl, (by show (0 : Int) < 16 ∧ (16 : Int) < 1073741824; decide), .inl ⟨_, rfl, _, rfl, _, m, rfl, rfl, m0, ?_⟩⟩⟩
        exact k _ _ (Int.emod_nonneg _ (by omega)) (Int.emod_lt_of_pos _ m0) pn0 o2
      · refine ⟨_, rfl, 10, 18, rfl, rfl, pw, _, _, rfl, rfl, _, rfl, _, m, rfl, rfl, wide_div m0 m9 (by decide) (by decide), _, rfl, p, _, rfl, p_rest e2, ?_⟩
        refine ⟨_, rfl, 10, 18, rfl, rfl, pw, _, _, rfl, rfl, .inl ⟨_, rfl, _, rfl, _, m, rfl, rfl, m0, ?_⟩⟩
        exact k _ _ (Int.emod_nonneg _ (by omega)) (Int.emod_lt_of_pos _ m0) (pn _) fun b o hb ho => by rw [upd_ne hb]; exact o2 b o hb ho
end
end K00
namespace K00
open PySem PySem.Spec PyProof.Rows L2
/-- a def of the program as a callee -/
structure At (K : PySem.W.Frag) (mg : Str → Option Value) (x : Str) (f : Addr) (fd : FuncData) (ps : List Str) : Prop where
  mg : mg x = some (.ref f)
  kp : PySem.W.keepIn K (.ref f) = true
  bd : Binds K fd ps []
def spPick : Sp := fun vs H Q _ => ∃ (p l t : Addr) (ns : List Int) (n : Nat) (xs : List V), vs = [.ref p, .ref t] ∧ PenAt H p l ns n ∧ n ≤ 1000000 ∧ H t = some (.lst xs) ∧ 0 < xs.length ∧ xs.length ≤ 100000 ∧
  ∀ (x : V) (H' : Hp), x ∈ xs → PenAt H' p l ns (n + 1) → (∀ b o, b ≠ p → H b = some o → H' b = some o) → Q x H'
section
variable {P : Program} {w : World} {K : PySem.W.Frag} {mg : Str → Option Value} {base : Heap}
abbrev nmPick : List Str := ["_law_pen_here", "_law_items"]
theorem scPick : FnScope nmPick ["_law_pen_here", "_law_items"] (defScope sPick) := ⟨rfl, rfl, rfl, by decide +kernel, rfl, by decide +kernel, by decide +kernel⟩
theorem ok_pick {f fD : Addr} {fd fdD : FuncData} (F : Fun K "_law_pick" "_law_pick" sPick f fd) (zN : mg "len" = none) (GD : FnOk P w K mg base CX0 1 fD fdD ["_law_pen_here", "_law_many"] spDraw)
    (AD : At K mg "_law_draw" fD fdD ["_law_pen_here", "_law_many"]) : FnOk P w K mg base CX0 2 f fd nmPick spPick := by
  refine F.ok scPick (fun vs H Q E h => ?_) (fun cdv A outer s H vs Q E hr h => ?_)
  · obtain ⟨p, l, t, ns, n, xs, rfl, _⟩ := h
    rfl
  · obtain ⟨p, l, t, ns, n, xs, rfl, Pn, hn, ht, h0, h9, k⟩ := h
    have hu := hu_of hr
    have nd := scPick.nd
    refine ⟨_, (pss_one (ps_ret (pe_ix ix_list (pv 1) (pe_call GD hr rfl AD.mg AD.kp AD.bd .nil pass0 (pa_cons (pv 0) (pa_cons (pe_callB call_len_seq (by rfl) zN PySem.boot_len (pa_cons (pv 1) pa_nil)) pa_nil))) (fun _ _ => rfl)))), ?_⟩
    refine ⟨_, rfl, _, rfl, _, rfl, t, xs, rfl, .inl (SqL.of ht), p, l, ns, n, _, rfl, Pn, hn, by omega, ?_, fun d H' d0 d9 Pn' hk => ?_⟩
    · have e : ((xs.length : Nat) : Int).natAbs = xs.length := rfl
      rw [e]
      exact Nat.lt_of_le_of_lt h9 (by decide +kernel)
    · have ntp : t ≠ p := by
        obtain ⟨⟨sp, r, e, _, _⟩, _, _⟩ := Pn
        exact ne_of ht e (by intro z; cases z)
      obtain ⟨j, hj⟩ : ∃ j : Nat, d = (j : Int) := ⟨_, (Int.toNat_of_nonneg d0).symm⟩
      subst hj
      have hjl : j < xs.length := by omega
      exact ⟨t, xs, (j : Int), xs[j]'hjl, rfl, rfl, SqL.of (hk t _ ntp ht), atI_nat (List.getElem?_eq_getElem hjl), k _ H' (List.getElem_mem hjl) Pn' hk⟩
end
end K00
namespace K00
open PySem PySem.Spec PyProof.Rows L2 EV
abbrev sAlone : Stmt := top 40
abbrev sMore : Stmt := top 41
/-- where the class of the i-th statement stands -/
abbrev ca (cs : List Addr) (i : Nat) : Addr := cs.getD i 0
/-- the error classes with fields -/
structure Errs (P : Program) (w : World) (K : PySem.W.Frag) (mg : Str → Option Value) (base : Heap) (cs : List Addr) : Prop where
  eBadPiece : Err P w K mg base "BadPiece" (ca cs 2) ["field"]
  eBadBook : Err P w K mg base "BadBook" (ca cs 3) ["kind"]
  eBadBud : Err P w K mg base "BadBud" (ca cs 4) ["kind", "number"]
  eHandedOn : Err P w K mg base "HandedOn" (ca cs 5) ["ring"]
  eNoKind : Err P w K mg base "NoKind" (ca cs 6) ["kind"]
  eNoMouth : Err P w K mg base "NoMouth" (ca cs 7) ["kind", "letter"]
  eNoPart : Err P w K mg base "NoPart" (ca cs 8) ["kind", "part"]
  eNoPiece : Err P w K mg base "NoPiece" (ca cs 9) ["row"]
  eNoPlace : Err P w K mg base "NoPlace" (ca cs 10) ["told"]
  eNoBud : Err P w K mg base "NoBud" (ca cs 11) ["kind", "number"]
  eNoTie : Err P w K mg base "NoTie" (ca cs 12) ["kind", "one", "other"]
  eTooMany : Err P w K mg base "TooMany" (ca cs 14) ["most"]
  eTooFar : Err P w K mg base "TooFar" (ca cs 15) ["number"]
  eTooLong : Err P w K mg base "TooLong" (ca cs 16) ["length"]
  eBadNumber : Err P w K mg base "BadNumber" (ca cs 18) ["value"]
  eBadWord : Err P w K mg base "BadWord" (ca cs 19) ["value"]
  eBadRow : Err P w K mg base "BadRow" (ca cs 20) ["index"]
  eOutsideRow : Err P w K mg base "OutsideRow" (ca cs 21) ["number"]
  eBadLoop : Err P w K mg base "BadLoop" (ca cs 22) ["field"]
  eNotBack : Err P w K mg base "NotBack" (ca cs 23) ["kind", "other"]
  eBadTimes : Err P w K mg base "BadTimes" (ca cs 24) ["field"]
  eBadTale : Err P w K mg base "BadTale" (ca cs 25) ["field"]
  eNoSuch : Err P w K mg base "NoSuch" (ca cs 27) ["number"]
  eNotShortest : Err P w K mg base "NotShortest" (ca cs 28) ["way"]
  eNotOnAll : Err P w K mg base "NotOnAll" (ca cs 29) ["value"]
  eBadRule : Err P w K mg base "BadRule" (ca cs 30) ["value"]
  eBadTable : Err P w K mg base "BadTable" (ca cs 31) ["key"]
  eBadGuard : Err P w K mg base "BadGuard" (ca cs 33) ["value"]
  eRefused : Err P w K mg base "Refused" (ca cs 34) ["guard"]
def C1 : L2.St → Prop := fun σ => ∃ v, σ[0]? = some (some v)
def C2 : L2.St → Prop := fun σ => (∃ v, σ[0]? = some (some v)) ∧ ∃ v, σ[1]? = some (some v)
def S1 : L2.St → V → Prop := gSl 0
def S2 : L2.St → V → Prop := fun σ v => gSl 0 σ v ∨ gSl 1 σ v ∨ v = .int 7
theorem look1 (f : Str) (v : V) : ([f].zip [v]).reverse.lookup f = some v := by simp [List.lookup]
theorem look2a (f g : Str) (h : ¬ f = g) (y z : V) : ([f, g].zip [y, z]).reverse.lookup f = some y := by
  have e : (f == g) = false := by simpa using h
  simp [List.lookup, e]
theorem look2b (f g : Str) (y z : V) : ([f, g].zip [y, z]).reverse.lookup g = some z := by simp [List.lookup]
theorem look3a (f g h : Str) (h1 : ¬ f = g) (h2 : ¬ f = h) (x y z : V) : ([f, g, h].zip [x, y, z]).reverse.lookup f = some x := by
  have e1 : (f == g) = false := by simpa using h1
  have e2 : (f == h) = false := by simpa using h2
  simp [List.lookup, e1, e2]
theorem look3b (f g h : Str) (h1 : ¬ g = h) (x y z : V) : ([f, g, h].zip [x, y, z]).reverse.lookup g = some y := by
  have e1 : (g == h) = false := by simpa using h1
  simp [List.lookup, e1]
theorem look3c (f g h : Str) (x y z : V) : ([f, g, h].zip [x, y, z]).reverse.lookup h = some z := by simp [List.lookup]
theorem pk1 (f : Str) : Pick [f] (fun σ vs => ∃ v r, vs = v :: r ∧ σ[0]? = some (some v) ∧ r = []) f (gSl 0) C1 := fun σ v _ h => ⟨[v], ⟨v, [], rfl, h, rfl⟩, rfl, look1 f v⟩
theorem hC1 : ∀ σ, C1 σ → ∃ v, gSl 0 σ v := fun _ h => h
theorem hS1 : ∀ σ v, C1 σ → gSl 0 σ v → S1 σ v := fun _ _ _ h => h
def spAlone : Sp := fun vs H Q _ => ∃ v, vs = [v] ∧ ∀ (t : Addr) (as : List Addr) (H' : Hp), as.length ≤ 40 → Same H H' → H t = none → H' t = some (.lst (as.map V.ref)) → (∀ a ∈ as, H' a = some (.tup [v, v])) → Q (.ref t) H'
section
variable {P : Program} {w : World} {K : PySem.W.Frag} {mg : Str → Option Value} {base : Heap} {cs : List Addr}
theorem scAlone : FnScope ["_law_a"] ["_law_a"] (defScope sAlone) := ⟨rfl, rfl, rfl, by decide +kernel, rfl, by decide +kernel, by decide +kernel⟩
theorem ok_alone {f : Addr} {fd : FuncData} (F : Fun K "_law_alone" "_law_alone" sAlone f fd) (T : Errs P w K mg base cs) : FnOk P w K mg base CX0 3 f fd ["_law_a"] spAlone := by
  refine F.ok scAlone (fun vs H Q E h => ?_) (fun cdv A outer s H vs Q E hr h => ?_)
  · obtain ⟨v, rfl, _⟩ := h
    rfl
  · obtain ⟨v, rfl, k⟩ := h
    refine ⟨_, pss_one (ps_ret (pe_lst
(prs_cons (pe_pr (tv_er T.eBadPiece (pmk_er T.eBadPiece hr (by decide) (by rfl) (pl_var (pv 0) pl_nil)) (List.mem_cons_self ..) (pk1 _))
 (tv_er T.eBadPiece (pmk_erK0 T.eBadPiece hr (by decide) (by rfl) (kl_var (pv 0) kl_nil) (by rfl)) (List.mem_cons_self ..) (pk1 _)) hC1 hS1)
(prs_cons (pe_pr (tv_er T.eBadBook (pmk_er T.eBadBook hr (by decide) (by rfl) (pl_var (pv 0) pl_nil)) (List.mem_cons_self ..) (pk1 _))
 (tv_er T.eBadBook (pmk_erK0 T.eBadBook hr (by decide) (by rfl) (kl_var (pv 0) kl_nil) (by rfl)) (List.mem_cons_self ..) (pk1 _)) hC1 hS1)
(prs_cons (pe_pr (tv_er T.eHandedOn (pmk_er T.eHandedOn hr (by decide) (by rfl) (pl_var (pv 0) pl_nil)) (List.mem_cons_self ..) (pk1 _))
 (tv_er T.eHandedOn (pmk_erK0 T.eHandedOn hr (by decide) (by rfl) (kl_var (pv 0) kl_nil) (by rfl)) (List.mem_cons_self ..) (pk1 _)) hC1 hS1)
(prs_cons (pe_pr (tv_er T.eNoKind (pmk_er T.eNoKind hr (by decide) (by rfl) (pl_var (pv 0) pl_nil)) (List.mem_cons_self ..) (pk1 _))
 (tv_er T.eNoKind (pmk_erK0 T.eNoKind hr (by decide) (by rfl) (kl_var (pv 0) kl_nil) (by rfl)) (List.mem_cons_self ..) (pk1 _)) hC1 hS1)
(prs_cons (pe_pr (tv_er T.eNoPiece (pmk_er T.eNoPiece hr (by decide) (by rfl) (pl_var (pv 0) pl_nil)) (List.mem_cons_self ..) (pk1 _))
 (tv_er T.eNoPiece (pmk_erK0 T.eNoPiece hr (by decide) (by rfl) (kl_var (pv 0) kl_nil) (by rfl)) (List.mem_cons_self ..) (pk1 _)) hC1 hS1)
(prs_cons (pe_pr (tv_er T.eNoPlace (pmk_er T.eNoPlace hr (by decide) (by rfl) (pl_var (pv 0) pl_nil)) (List.mem_cons_self ..) (pk1 _))
 (tv_er T.eNoPlace (pmk_erK0 T.eNoPlace hr (by decide) (by rfl) (kl_var (pv 0) kl_nil) (by rfl)) (List.mem_cons_self ..) (pk1 _)) hC1 hS1)
(prs_cons (pe_pr (tv_er T.eTooMany (pmk_er T.eTooMany hr (by decide) (by rfl) (pl_var (pv 0) pl_nil)) (List.mem_cons_self ..) (pk1 _))
 (tv_er T.eTooMany (pmk_erK0 T.eTooMany hr (by decide) (by rfl) (kl_var (pv 0) kl_nil) (by rfl)) (List.mem_cons_self ..) (pk1 _)) hC1 hS1)
(prs_cons (pe_pr (tv_er T.eTooFar (pmk_er T.eTooFar hr (by decide) (by rfl) (pl_var (pv 0) pl_nil)) (List.mem_cons_self ..) (pk1 _))
 (tv_er T.eTooFar (pmk_erK0 T.eTooFar hr (by decide) (by rfl) (kl_var (pv 0) kl_nil) (by rfl)) (List.mem_cons_self ..) (pk1 _)) hC1 hS1)
(prs_cons (pe_pr (tv_er T.eTooLong (pmk_er T.eTooLong hr (by decide) (by rfl) (pl_var (pv 0) pl_nil)) (List.mem_cons_self ..) (pk1 _))
 (tv_er T.eTooLong (pmk_erK0 T.eTooLong hr (by decide) (by rfl) (kl_var (pv 0) kl_nil) (by rfl)) (List.mem_cons_self ..) (pk1 _)) hC1 hS1)
(prs_cons (pe_pr (tv_er T.eBadNumber (pmk_er T.eBadNumber hr (by decide) (by rfl) (pl_var (pv 0) pl_nil)) (List.mem_cons_self ..) (pk1 _))
 (tv_er T.eBadNumber (pmk_erK0 T.eBadNumber hr (by decide) (by rfl) (kl_var (pv 0) kl_nil) (by rfl)) (List.mem_cons_self ..) (pk1 _)) hC1 hS1)
(prs_cons (pe_pr (tv_er T.eBadWord (pmk_er T.eBadWord hr (by decide) (by rfl) (pl_var (pv 0) pl_nil)) (List.mem_cons_self ..) (pk1 _))
 (tv_er T.eBadWord (pmk_erK0 T.eBadWord hr (by decide) (by rfl) (kl_var (pv 0) kl_nil) (by rfl)) (List.mem_cons_self ..) (pk1 _)) hC1 hS1)
(prs_cons (pe_pr (tv_er T.eBadRow (pmk_er T.eBadRow hr (by decide) (by rfl) (pl_var (pv 0) pl_nil)) (List.mem_cons_self ..) (pk1 _))
 (tv_er T.eBadRow (pmk_erK0 T.eBadRow hr (by decide) (by rfl) (kl_var (pv 0) kl_nil) (by rfl)) (List.mem_cons_self ..) (pk1 _)) hC1 hS1)
(prs_cons (pe_pr (tv_er T.eOutsideRow (pmk_er T.eOutsideRow hr (by decide) (by rfl) (pl_var (pv 0) pl_nil)) (List.mem_cons_self ..) (pk1 _))
 (tv_er T.eOutsideRow (pmk_erK0 T.eOutsideRow hr (by decide) (by rfl) (kl_var (pv 0) kl_nil) (by rfl)) (List.mem_cons_self ..) (pk1 _)) hC1 hS1)
(prs_cons (pe_pr (tv_er T.eBadLoop (pmk_er T.eBadLoop hr (by decide) (by rfl) (pl_var (pv 0) pl_nil)) (List.mem_cons_self ..) (pk1 _))
 (tv_er T.eBadLoop (pmk_erK0 T.eBadLoop hr (by decide) (by rfl) (kl_var (pv 0) kl_nil) (by rfl)) (List.mem_cons_self ..) (pk1 _)) hC1 hS1)
(prs_cons (pe_pr (tv_er T.eBadTimes (pmk_er T.eBadTimes hr (by decide) (by rfl) (pl_var (pv 0) pl_nil)) (List.mem_cons_self ..) (pk1 _))
 (tv_er T.eBadTimes (pmk_erK0 T.eBadTimes hr (by decide) (by rfl) (kl_var (pv 0) kl_nil) (by rfl)) (List.mem_cons_self ..) (pk1 _)) hC1 hS1)
(prs_cons (pe_pr (tv_er T.eBadTale (pmk_er T.eBadTale hr (by decide) (by rfl) (pl_var (pv 0) pl_nil)) (List.mem_cons_self ..) (pk1 _))
 (tv_er T.eBadTale (pmk_erK0 T.eBadTale hr (by decide) (by rfl) (kl_var (pv 0) kl_nil) (by rfl)) (List.mem_cons_self ..) (pk1 _)) hC1 hS1)
(prs_cons (pe_pr (tv_er T.eNoSuch (pmk_er T.eNoSuch hr (by decide) (by rfl) (pl_var (pv 0) pl_nil)) (List.mem_cons_self ..) (pk1 _))
 (tv_er T.eNoSuch (pmk_erK0 T.eNoSuch hr (by decide) (by rfl) (kl_var (pv 0) kl_nil) (by rfl)) (List.mem_cons_self ..) (pk1 _)) hC1 hS1)
(prs_cons (pe_pr (tv_er T.eNotShortest (pmk_er T.eNotShortest hr (by decide) (by rfl) (pl_var (pv 0) pl_nil)) (List.mem_cons_self ..) (pk1 _))
 (tv_er T.eNotShortest (pmk_erK0 T.eNotShortest hr (by decide) (by rfl) (kl_var (pv 0) kl_nil) (by rfl)) (List.mem_cons_self ..) (pk1 _)) hC1 hS1)
(prs_cons (pe_pr (tv_er T.eNotOnAll (pmk_er T.eNotOnAll hr (by decide) (by rfl) (pl_var (pv 0) pl_nil)) (List.mem_cons_self ..) (pk1 _))
 (tv_er T.eNotOnAll (pmk_erK0 T.eNotOnAll hr (by decide) (by rfl) (kl_var (pv 0) kl_nil) (by rfl)) (List.mem_cons_self ..) (pk1 _)) hC1 hS1)
(prs_cons (pe_pr (tv_er T.eBadRule (pmk_er T.eBadRule hr (by decide) (by rfl) (pl_var (pv 0) pl_nil)) (List.mem_cons_self ..) (pk1 _))
 (tv_er T.eBadRule (pmk_erK0 T.eBadRule hr (by decide) (by rfl) (kl_var (pv 0) kl_nil) (by rfl)) (List.mem_cons_self ..) (pk1 _)) hC1 hS1)
(prs_cons (pe_pr (tv_er T.eBadTable (pmk_er T.eBadTable hr (by decide) (by rfl) (pl_var (pv 0) pl_nil)) (List.mem_cons_self ..) (pk1 _))
 (tv_er T.eBadTable (pmk_erK0 T.eBadTable hr (by decide) (by rfl) (kl_var (pv 0) kl_nil) (by rfl)) (List.mem_cons_self ..) (pk1 _)) hC1 hS1)
(prs_cons (pe_pr (tv_er T.eBadGuard (pmk_er T.eBadGuard hr (by decide) (by rfl) (pl_var (pv 0) pl_nil)) (List.mem_cons_self ..) (pk1 _))
 (tv_er T.eBadGuard (pmk_erK0 T.eBadGuard hr (by decide) (by rfl) (kl_var (pv 0) kl_nil) (by rfl)) (List.mem_cons_self ..) (pk1 _)) hC1 hS1)
(prs_cons (pe_pr (tv_er T.eRefused (pmk_er T.eRefused hr (by decide) (by rfl) (pl_var (pv 0) pl_nil)) (List.mem_cons_self ..) (pk1 _))
 (tv_er T.eRefused (pmk_erK0 T.eRefused hr (by decide) (by rfl) (kl_var (pv 0) kl_nil) (by rfl)) (List.mem_cons_self ..) (pk1 _)) hC1 hS1)
prs_nil))))))))))))))))))))))))), ?_⟩
    refine ⟨⟨v, rfl⟩, fun as H1 hl s1 h1 => ⟨by rw [List.length_map, hl]; decide, fun t ht => ?_⟩⟩
    have s2 : Same H1 (upd H1 t (.lst (as.map V.ref))) := fun b o z => by rw [upd_ne (ne_of_none z ht)]; exact z
    refine k t as _ (by rw [hl]; decide) (s1.trans s2) (s1.free ht) upd_same fun a ha => ?_
    obtain ⟨u, hu, e⟩ := h1 a ha
    obtain rfl : v = u := Option.some.inj (Option.some.inj hu)
    exact s2 _ _ e
end
end K00
namespace K00
open PySem PySem.Spec PyProof.Rows L2 EV
def spMore : Sp := fun vs H Q _ => ∃ a b, vs = [a, b] ∧ ∀ (t : Addr) (H' : Hp), Same H H' → H t = none → (∃ m, m ≤ 40 ∧ LP H' t m fun v => v = a ∨ v = b ∨ v = .int 7) → Q (.ref t) H'
theorem c2a : ∀ σ, C2 σ → ∃ v, gSl 0 σ v := fun _ h => h.1
theorem c2b : ∀ σ, C2 σ → ∃ v, gSl 1 σ v := fun _ h => h.2
theorem c27 : ∀ σ, C2 σ → ∃ v, gInt 7 σ v := fun _ _ => ⟨_, rfl⟩
theorem s2a : ∀ σ v, C2 σ → gSl 0 σ v → S2 σ v := fun _ _ _ h => .inl h
theorem s2b : ∀ σ v, C2 σ → gSl 1 σ v → S2 σ v := fun _ _ _ h => .inr (.inl h)
theorem s27 : ∀ σ v, C2 σ → gInt 7 σ v → S2 σ v := fun _ _ _ h => .inr (.inr h)
section
variable {P : Program} {w : World} {K : PySem.W.Frag} {mg : Str → Option Value} {base : Heap} {cs : List Addr}
theorem scMore : FnScope ["_law_a", "_law_b", "_law_rows"] ["_law_a", "_law_b"] (defScope sMore) := ⟨rfl, rfl, rfl, by decide +kernel, rfl, by decide +kernel, by decide +kernel⟩
theorem ok_more {f : Addr} {fd : FuncData} (F : Fun K "_law_more" "_law_more" sMore f fd) (T : Errs P w K mg base cs) : FnOk P w K mg base CX0 3 f fd ["_law_a", "_law_b"] spMore := by
  refine F.ok scMore (fun vs H Q E h => ?_) (fun cdv A outer s H vs Q E hr h => ?_)
  · obtain ⟨a, b, rfl, _⟩ := h
    rfl
  · obtain ⟨a, b, rfl, k⟩ := h
    have nd := scMore.nd
    refine ⟨_, (pss_cons (ps_set (i := 2) nd rfl (Or.inl rfl) (pe_lprs (prs_cons (pe_pr (tv_er T.eBadBud (pmk_er T.eBadBud hr (by decide) (by rfl) (pl_var (pv 0) (pl_var (pv 1) pl_nil))) (List.mem_cons_self ..)
 (fun σ a hc ha => let ⟨_, b, hb⟩ := hc; ⟨[a, b], ⟨a, _, rfl, ha, ⟨b, _, rfl, hb, rfl⟩⟩, rfl, look2a _ _ (by decide +kernel) _ _⟩)) (cv_var (pv 0)) c2a s2a)
 (prs_cons (pe_pr (tv_er T.eBadBud (pmk_erK 1 T.eBadBud hr (by decide) (by rfl) (pl_var (pv 0) pl_nil) (kl_var (pv 1) kl_nil) (by rfl)) (List.mem_cons_of_mem _ (List.mem_cons_self ..))
 (fun σ b hc hb => let ⟨⟨a, ha⟩, _⟩ := hc; ⟨[a, b], ⟨[a], [b], rfl, rfl, ⟨a, _, rfl, ha, rfl⟩, ⟨b, _, rfl, hb, rfl⟩⟩, rfl, look2b _ _ _ _⟩)) (cv_var (pv 1)) c2b s2b)
 (prs_cons (pe_pr (tv_er T.eNoMouth (pmk_er T.eNoMouth hr (by decide) (by rfl) (pl_var (pv 0) (pl_var (pv 1) pl_nil))) (List.mem_cons_self ..)
 (fun σ a hc ha => let ⟨_, b, hb⟩ := hc; ⟨[a, b], ⟨a, _, rfl, ha, ⟨b, _, rfl, hb, rfl⟩⟩, rfl, look2a _ _ (by decide +kernel) _ _⟩)) (cv_var (pv 0)) c2a s2a)
 (prs_cons (pe_pr (tv_er T.eNoMouth (pmk_er T.eNoMouth hr (by decide) (by rfl) (pl_var (pv 0) (pl_var (pv 1) pl_nil))) (List.mem_cons_of_mem _ (List.mem_cons_self ..))
 (fun σ b hc hb => let ⟨⟨a, ha⟩, _⟩ := hc; ⟨[a, b], ⟨a, _, rfl, ha, ⟨b, _, rfl, hb, rfl⟩⟩, rfl, look2b _ _ _ _⟩)) (cv_var (pv 1)) c2b s2b)
 prs_nil)))) (by decide)))
(pss_cons (ps_set (i := 2) nd rfl (Or.inl rfl) (pe_lcat (pv 2) (prs_cons (pe_pr (tv_er T.eNoPart (pmk_erK0 T.eNoPart hr (by decide) (by rfl) (kl_var (pv 0) (kl_var (pv 1) kl_nil)) (by rfl)) (List.mem_cons_self ..)
 (fun σ a hc ha => let ⟨_, b, hb⟩ := hc; ⟨[a, b], ⟨a, _, rfl, ha, ⟨b, _, rfl, hb, rfl⟩⟩, rfl, look2a _ _ (by decide +kernel) _ _⟩)) (cv_var (pv 0)) c2a s2a)
 (prs_cons (pe_pr (tv_er T.eNoPart (pmk_er T.eNoPart hr (by decide) (by rfl) (pl_var (pv 0) (pl_var (pv 1) pl_nil))) (List.mem_cons_of_mem _ (List.mem_cons_self ..))
 (fun σ b hc hb => let ⟨⟨a, ha⟩, _⟩ := hc; ⟨[a, b], ⟨a, _, rfl, ha, ⟨b, _, rfl, hb, rfl⟩⟩, rfl, look2b _ _ _ _⟩)) (cv_var (pv 1)) c2b s2b)
 (prs_cons (pe_pr (tv_er T.eNoBud (pmk_er T.eNoBud hr (by decide) (by rfl) (pl_var (pv 0) (pl_var (pv 1) pl_nil))) (List.mem_cons_self ..)
 (fun σ a hc ha => let ⟨_, b, hb⟩ := hc; ⟨[a, b], ⟨a, _, rfl, ha, ⟨b, _, rfl, hb, rfl⟩⟩, rfl, look2a _ _ (by decide +kernel) _ _⟩)) (cv_var (pv 0)) c2a s2a)
 prs_nil))) (by decide)))
(pss_cons (ps_set (i := 2) nd rfl (Or.inl rfl) (pe_lcat (pv 2) (prs_cons (pe_pr (tv_er T.eNoBud (pmk_erK 1 T.eNoBud hr (by decide) (by rfl) (pl_var (pv 0) pl_nil) (kl_var (pv 1) kl_nil) (by rfl)) (List.mem_cons_of_mem _ (List.mem_cons_self ..))
 (fun σ b hc hb => let ⟨⟨a, ha⟩, _⟩ := hc; ⟨[a, b], ⟨[a], [b], rfl, rfl, ⟨a, _, rfl, ha, rfl⟩, ⟨b, _, rfl, hb, rfl⟩⟩, rfl, look2b _ _ _ _⟩)) (cv_var (pv 1)) c2b s2b)
 (prs_cons (pe_pr (tv_er T.eNoTie (pmk_er T.eNoTie hr (by decide) (by rfl) (pl_var (pv 0) (pl_var (pv 1) (pl_int pe_int pl_nil)))) (List.mem_cons_self ..)
 (fun σ a hc ha => let ⟨_, b, hb⟩ := hc; ⟨[a, b, (.int 7)], ⟨a, _, rfl, ha, ⟨b, _, rfl, hb, ⟨_, rfl, rfl⟩⟩⟩, rfl, look3a _ _ _ (by decide +kernel) (by decide +kernel) _ _ _⟩)) (cv_var (pv 0)) c2a s2a)
 (prs_cons (pe_pr (tv_er T.eNoTie (pmk_erK 2 T.eNoTie hr (by decide) (by rfl) (pl_var (pv 0) (pl_var (pv 1) pl_nil)) (kl_int pe_int kl_nil) (by rfl)) (List.mem_cons_of_mem _ (List.mem_cons_self ..))
 (fun σ b hc hb => let ⟨⟨a, ha⟩, _⟩ := hc; ⟨[a, b, (.int 7)], ⟨[a, b], [(.int 7)], rfl, rfl, ⟨a, _, rfl, ha, ⟨b, _, rfl, hb, rfl⟩⟩, ⟨_, rfl, rfl⟩⟩, rfl, look3b _ _ _ (by decide +kernel) _ _ _⟩)) (cv_var (pv 1)) c2b s2b)
 prs_nil))) (by decide)))
(pss_cons (ps_set (i := 2) nd rfl (Or.inl rfl) (pe_lcat (pv 2) (prs_cons (pe_pr (tv_er T.eNoTie (pmk_erK 1 T.eNoTie hr (by decide) (by rfl) (pl_var (pv 0) pl_nil) (kl_var (pv 1) (kl_int pe_int kl_nil)) (by rfl)) (List.mem_cons_of_mem _ (List.mem_cons_of_mem _ (List.mem_cons_self ..)))
 (fun σ v hc hv => let ⟨⟨a, ha⟩, b, hb⟩ := hc; by cases hv; exact ⟨[a, b, (.int 7)], ⟨[a], [b, (.int 7)], rfl, rfl, ⟨a, _, rfl, ha, rfl⟩, ⟨b, _, rfl, hb, ⟨_, rfl, rfl⟩⟩⟩, rfl, look3c _ _ _ _ _ _⟩)) (cv_int pe_int) c27 s27)
 prs_nil) (by decide)))
(pss_one (ps_ret (pe_lcat (pv 2) (prs_cons (pe_pr (tv_er T.eNotBack (pmk_erK0 T.eNotBack hr (by decide) (by rfl) (kl_var (pv 0) (kl_var (pv 1) kl_nil)) (by rfl)) (List.mem_cons_self ..)
 (fun σ a hc ha => let ⟨_, b, hb⟩ := hc; ⟨[a, b], ⟨a, _, rfl, ha, ⟨b, _, rfl, hb, rfl⟩⟩, rfl, look2a _ _ (by decide +kernel) _ _⟩)) (cv_var (pv 0)) c2a s2a)
 (prs_cons (pe_pr (tv_er T.eNotBack (pmk_er T.eNotBack hr (by decide) (by rfl) (pl_var (pv 0) (pl_var (pv 1) pl_nil))) (List.mem_cons_of_mem _ (List.mem_cons_self ..))
 (fun σ b hc hb => let ⟨⟨a, ha⟩, _⟩ := hc; ⟨[a, b], ⟨a, _, rfl, ha, ⟨b, _, rfl, hb, rfl⟩⟩, rfl, look2b _ _ _ _⟩)) (cv_var (pv 1)) c2b s2b)
 prs_nil)) (by decide)))))))), ?_⟩
    have hS : ∀ (x : Option V) v, S2 [some a, some b, x] v → v = a ∨ v = b ∨ v = .int 7 := fun x v h => by
      rcases h with h | h | h
      · exact .inl (Option.some.inj (Option.some.inj h)).symm
      · exact .inr (.inl (Option.some.inj (Option.some.inj h)).symm)
      · exact .inr (.inr h)
    refine ⟨⟨⟨a, rfl⟩, b, rfl⟩, fun t1 H1 s1 n1 L1 => ?_⟩
    refine ⟨⟨⟨a, rfl⟩, b, rfl⟩, t1, 4, rfl, by decide, L1, fun t2 H2 s2 n2 L2 => ?_⟩
    refine ⟨⟨⟨a, rfl⟩, b, rfl⟩, t2, 7, rfl, by decide, L2, fun t3 H3 s3 n3 L3 => ?_⟩
    refine ⟨⟨⟨a, rfl⟩, b, rfl⟩, t3, 10, rfl, by decide, L3, fun t4 H4 s4 n4 L4 => ?_⟩
    refine ⟨⟨⟨a, rfl⟩, b, rfl⟩, t4, 11, rfl, by decide, L4, fun t5 H5 s5 n5 L5 => ?_⟩
    have ss : Same H H4 := ((s1.trans s2).trans s3).trans s4
    refine k t5 H5 (ss.trans s5) (ss.free n5) ⟨13, by decide, ?_⟩
    obtain ⟨as, e, l, q⟩ := L5
    refine ⟨as, e, l, fun u hu => ?_⟩
    obtain ⟨v, h1, h2⟩ := q u hu
    exact ⟨v, hS _ v h1, h2⟩
end
end K00
namespace K00
open PySem PySem.Spec PyProof.Rows L2 EV
abbrev sRaise : Stmt := top 42
abbrev sCaught : Stmt := top 43
/-- the classes that the law raises -/
def raised : List Nat := [13, 14, 5, 12, 32]
structure Clss (K : PySem.W.Frag) (mg : Str → Option Value) (cs : List Addr) : Prop where
  web : mg "WebError" = some (.ref (ca cs 1))
  e13 : Err0 K mg "OtherBook" (ca cs 13)
  e17 : Err0 K mg "TooGreat" (ca cs 17)
  e26 : Err0 K mg "NotJoined" (ca cs 26)
  e32 : Err0 K mg "Endless" (ca cs 32)
  e35 : Err0 K mg "NothingToUndo" (ca cs 35)
  exm : ∀ i ∈ raised, PySem.W.exmOne K (.ref (ca cs i)) (.ref (ca cs 1)) = some true
def spRaise (cs : List Addr) : Sp := fun vs H _ E => ∃ (n : Int) (a : V), vs = [.int n, a] ∧ ∀ (i : Nat) (d : Option Addr) (H' : Hp), i ∈ raised → Same H H' → E (.ref (ca cs i)) d H'
def spCaught : Sp := fun vs H Q _ => ∃ (n : Int) (a : V), vs = [.int n, a] ∧ ∀ H', Same H H' → Q (.bl true) H'
section
variable {P : Program} {w : World} {K : PySem.W.Frag} {mg : Str → Option Value} {base : Heap} {cs : List Addr}
theorem scRaise : FnScope ["_law_which", "_law_a"] ["_law_which", "_law_a"] (defScope sRaise) := ⟨rfl, rfl, rfl, by decide +kernel, rfl, by decide +kernel, by decide +kernel⟩
theorem ok_raise {f : Addr} {fd : FuncData} (F : Fun K "_law_raise" "_law_raise" sRaise f fd) (T : Errs P w K mg base cs) (Z : Clss K mg cs) : FnOk P w K mg base (L2.CX P w) 3 f fd ["_law_which", "_law_a"] (spRaise cs) := by
  refine F.okX scRaise (fun vs H Q E h => ?_) (fun cdv A outer s H vs Q E hr h => ?_)
  · obtain ⟨n, a, rfl, _⟩ := h
    rfl
  · obtain ⟨n, a, rfl, k⟩ := h
    have nd := scRaise.nd
    refine ⟨_, pss_cons (ps_if (pt_cmpR op_eq (pv 0) pe_int (nomark _)) (pss_one (ps_raise rfl (takes_of rfl rfl rfl rfl) (pmk_er0 Z.e13 (by rfl)))) pss_nil)
      (pss_cons (ps_if (pt_cmpR op_eq (pv 0) pe_int (nomark _)) (pss_one (ps_raise rfl (takes_of rfl rfl rfl rfl) (pmk_er T.eTooMany hr (by decide) (by rfl) (pl_int pe_int pl_nil)))) pss_nil)
      (pss_cons (ps_if (pt_cmpR op_eq (pv 0) pe_int (nomark _)) (pss_one (ps_raise rfl (takes_of rfl rfl rfl rfl) (pmk_erK0 T.eHandedOn hr (by decide) (by rfl) (kl_var (pv 1) kl_nil) (by rfl)))) pss_nil)
      (pss_cons (ps_if (pt_cmpR op_eq (pv 0) pe_int (nomark _)) (pss_one (ps_raise rfl (takes_of rfl rfl rfl rfl) (pmk_er T.eNoTie hr (by decide) (by rfl) (pl_var (pv 1) (pl_int pe_int (pl_int pe_int pl_nil)))))) pss_nil)
      (pss_one (ps_raise rfl (takes_of rfl rfl rfl rfl) (pmk_er0 Z.e32 (by rfl))))))), ?_⟩
    refine ⟨_, rfl, rfl, _, rfl, ite2 (fun _ => k 13 none H (by decide) (Same.refl H)) fun _ => ?_⟩
    refine ⟨_, rfl, rfl, _, rfl, ite2 (fun _ => ⟨[.int 3], ⟨_, rfl, rfl⟩, rfl, fun d H' s1 _ _ => k 14 (some d) H' (by decide) s1⟩) fun _ => ?_⟩
    refine ⟨_, rfl, rfl, _, rfl, ite2 (fun _ => ⟨[a], ⟨a, _, rfl, rfl, rfl⟩, rfl, fun d H' s1 _ _ => k 5 (some d) H' (by decide) s1⟩) fun _ => ?_⟩
    refine ⟨_, rfl, rfl, _, rfl, ite2 (fun _ => ⟨[a, .int 1, .int 2], ⟨a, _, rfl, rfl, _, rfl, _, rfl, rfl⟩, rfl, fun d H' s1 _ _ => k 12 (some d) H' (by decide) s1⟩) fun _ => ?_⟩
    exact k 32 none H (by decide) (Same.refl H)
theorem scCaught : FnScope ["_law_which", "_law_a", "e"] ["_law_which", "_law_a"] (defScope sCaught) := ⟨rfl, rfl, rfl, by decide +kernel, rfl, by decide +kernel, by decide +kernel⟩
theorem ok_caught {f fR : Addr} {fd fdR : FuncData} (F : Fun K "_law_caught" "_law_caught" sCaught f fd) (Z : Clss K mg cs) (GR : FnOk P w K mg base (L2.CX P w) 3 fR fdR ["_law_which", "_law_a"] (spRaise cs))
    (AR : At K mg "_law_raise" fR fdR ["_law_which", "_law_a"]) : FnOk P w K mg base CX0 5 f fd ["_law_which", "_law_a"] spCaught := by
  refine F.ok scCaught (fun vs H Q E h => ?_) (fun cdv A outer s H vs Q E hr h => ?_)
  · obtain ⟨n, a, rfl, _⟩ := h
    rfl
  · obtain ⟨n, a, rfl, k⟩ := h
    have hr1 : Room 3 _ := hr.mono (by decide)
    refine ⟨_, pss_cons (ps_try_as (i := 2) (tb := fun W => tDrop (tCallS (spRaise cs) (WE W) (tCons (tVar 0) (tCons (tVar 1) tNil)))) (ts := fun _ _ _ => tRet (tC (.bl true))) (Wout := fun _ _ _ _ => False) rfl rfl scCaught.nd rfl rfl ⟨rfl, by decide, Or.inl Z.web⟩ takes0
        (fun W pn xe tk _ => pss_one (ps_expr (by exact (pe_callS GR hr1 rfl AR.mg AR.kp AR.bd (fun σ => passAt tk σ) (by exact (pa_cons (pv 0) (pa_cons (pv 1) pa_nil)))))))
        (fun a oe cls d pn hz hf => pss_one (ps_ret pe_bl))) (pss_one (ps_ret pe_bl)), ?_⟩
    refine ⟨_, rfl, _, rfl, n, a, rfl, fun i d H' hi s1 => ?_⟩
    exact ⟨true, Z.exm i hi, fun _ a0 _ => k H' s1, fun q => Bool.noConfusion q⟩
end
end K00
namespace K00
open PySem PySem.Spec PyProof.Rows L2 EV
abbrev sLaw : Stmt := top 44
abbrev nmLaw : List Str := ["_law_script", "_law_pen_here", "_law_values", "_law_lap", "_law_a", "_law_b", "_law_kept", "_law_twice", "_law_due", "_law_lots", "_law_error", "_law_found", "_law_seen", "_law_which"]
theorem scLaw : FnScope nmLaw ["_law_script"] (defScope sLaw) := ⟨rfl, rfl, rfl, by decide +kernel, rfl, by decide +kernel, by decide +kernel⟩
/-- the classes of the law's row of errors, in order; which of them are asked for -/
def lotI : List Nat := [13, 17, 26, 32, 35, 2, 12, 6]
def lotB : List Bool := [true, false, true, false, false, true, true, false]
structure Isi (K : PySem.W.Frag) (cs : List Addr) : Prop where
  ex : ∀ i ∈ lotI, ExcC K (ca cs i)
  web : ∀ i ∈ lotI, PySem.W.kitOne K (.ref (ca cs i)) (.ref (ca cs 1)) = some true
  ve : ∀ i ∈ lotI, PySem.W.kitOne K (.ref (ca cs i)) (.type "ValueError") = some true
  any : ∀ (j : Nat) (b : Bool) (i : Nat), lotI[j]? = some i → lotB[j]? = some b → PySem.W.kitAny K (.ref (ca cs i)) [.ref (ca cs 13), .ref (ca cs 2), .ref (ca cs 12), .ref (ca cs 26)] = some b
/-- the built-in names that the law takes -/
structure Blt (mg : Str → Option Value) : Prop where
  zList : mg "list" = none
  zInt : mg "int" = none
  zLen : mg "len" = none
  zRange : mg "range" = none
  zMin : mg "min" = none
  zIsi : mg "isinstance" = none
  zBool : mg "bool" = none
  zVE : mg "ValueError" = none
  zSum : mg "sum" = none
  zAll : mg "all" = none
def CA : L2.St → Prop := fun σ => (∃ v, σ[4]? = some (some v)) ∧ ∃ v, σ[5]? = some (some v)
def menu (t1 l1 d0 t3 : Addr) : List V := [.non, .bl true, .int 0, .int (-3), .str "", .str "x y", .ref t1, .ref l1, .ref d0, .int (10 ^ (9 : Int).toNat), .str "a", .ref t3]
def spLaw (K : PySem.W.Frag) : Sp := fun vs H Q _ => ∃ (a : Addr) (ns : List Int), vs = [.ref a] ∧ SqL K H a (ns.map V.int) ∧ ns.length ≤ 63 ∧ ∀ H', Q (.bl true) H'
theorem mnu {H : Hp} {t1 l1 d0 t2 t3 : Addr} (g1 : H t1 = some (.tup [.int 1, .int 2])) (g2 : H l1 = some (.lst [.str "x"])) (g3 : H d0 = some (.dK [])) (g4 : H t2 = some (.tup [.str "k", .str "a"])) (g5 : H t3 = some (.tup [.ref t2])) :
    ∀ v ∈ menu t1 l1 d0 t3, Mn H v := by
  intro v hv
  unfold menu at hv
  simp only [List.mem_cons, List.not_mem_nil, or_false] at hv
  rcases hv with h | h | h | h | h | h | h | h | h | h | h | h <;> subst h
  · exact .non
  · exact .bl true
  · exact .int _
  · exact .int _
  · exact .str _ (by decide +kernel)
  · exact .str _ (by decide +kernel)
  · exact .tup g1
  · exact .lst g2
  · exact .dic g3
  · exact .int _
  · exact .str _ (by decide +kernel)
  · exact .nst g5 g4
theorem exUpd {H : Hp} {a C t : Addr} {xs : List V} {o : HO} (h : ExAt H a C) (ht : H t = some (.lst xs)) : ExAt (upd H t o) a C := by
  obtain ⟨d, e, z⟩ := h
  have na : a ≠ t := ne_of e ht (by unfold exv; intro q; cases q)
  refine ⟨d, by rw [upd_ne na]; exact e, ?_⟩
  rcases z with z | ⟨dx, fs, z, e2⟩
  · exact .inl z
  · refine .inr ⟨dx, fs, z, ?_⟩
    rw [upd_ne (ne_of e2 ht (by intro q; cases q))]
    exact e2
theorem pairedGet {α β : Type} {R : α → β → Prop} : ∀ {l : List α} {m : List β} {j : Nat} {x : α}, Paired R l m → l[j]? = some x → ∃ y, m[j]? = some y ∧ R x y
  | _, _, _, _, .nil, e => by simp at e
  | _, _, 0, _, .cons r _, e => by simp at e; subst e; exact ⟨_, rfl, r⟩
  | _, _, j + 1, _, .cons _ t, e => by
    have e2 := e
    simp only [List.getElem?_cons_succ] at e2 ⊢
    exact pairedGet t e2
theorem pairedLen {α β : Type} {R : α → β → Prop} : ∀ {l : List α} {m : List β}, Paired R l m → l.length = m.length
  | _, _, .nil => rfl
  | _, _, .cons _ t => congrArg Nat.succ (pairedLen t)
theorem pairedSnoc {α β : Type} {R : α → β → Prop} {x : α} {y : β} : ∀ {l : List α} {m : List β}, Paired R l m → R x y → Paired R (l ++ [x]) (m ++ [y])
  | _, _, .nil, h => .cons h .nil
  | _, _, .cons r t, h => .cons r (pairedSnoc t h)
theorem takeMap {α : Type} {f : α → V} {l : List α} {j : Nat} {b : α} (h : l[j]? = some b) : (l.take (j + 1)).map f = (l.take j).map f ++ [f b] := by
  rw [List.take_succ, h, List.map_append]
  rfl
theorem sameAt {H H' : Hp} {D : Addr} {o : HO} (s : Same H H') (h : H D = none) : Same H (upd H' D o) := fun b u e => by
  rw [upd_ne (ne_of_none e h)]
  exact s b u e
section
variable {P : Program} {w : World} {K : PySem.W.Frag} {mg : Str → Option Value} {base : Heap} {cs : List Addr}
theorem ok_law {f f1 f2 f3 f4 f5 : Addr} {fd fd1 fd2 fd3 fd4 fd5 : FuncData} (F : Fun K "law" "law" sLaw f fd) (T : Errs P w K mg base cs) (Z : Clss K mg cs) (J : Isi K cs) (B : Blt mg)
    (G1 : FnOk P w K mg base CX0 1 f1 fd1 ["_law_script"] (spPen K)) (A1 : At K mg "_law_pen" f1 fd1 ["_law_script"])
    (G2 : FnOk P w K mg base CX0 2 f2 fd2 nmPick spPick) (A2 : At K mg "_law_pick" f2 fd2 nmPick)
    (G3 : FnOk P w K mg base CX0 3 f3 fd3 ["_law_a"] spAlone) (A3 : At K mg "_law_alone" f3 fd3 ["_law_a"])
    (G4 : FnOk P w K mg base CX0 3 f4 fd4 ["_law_a", "_law_b"] spMore) (A4 : At K mg "_law_more" f4 fd4 ["_law_a", "_law_b"])
    (G5 : FnOk P w K mg base CX0 5 f5 fd5 ["_law_which", "_law_a"] spCaught) (A5 : At K mg "_law_caught" f5 fd5 ["_law_which", "_law_a"]) :
    FnOk P w K mg base CX0 7 f fd ["_law_script"] (spLaw K) := by
  refine F.ok scLaw (fun vs H Q E h => ?_) (fun cdv A outer s H vs Q E hr h => ?_)
  · obtain ⟨a, ns, rfl, _⟩ := h
    rfl
  · obtain ⟨a, ns, rfl, hS, hlen, k⟩ := h
    have nd := scLaw.nd
    have hu := hu_of hr
    have hu64 := hu64_of hr
    have bi : bootBuiltins "int" = some (.type "int") := by decide +kernel
    have bb : bootBuiltins "bool" = some (.type "bool") := by decide +kernel
    have bv : bootBuiltins "ValueError" = some (.type "ValueError") := by decide +kernel
    have bx : bootBuiltins "isinstance" = some (.builtin "isinstance") := by decide +kernel
    have bs : bootBuiltins "sum" = some (.builtin "sum") := by decide +kernel
    have ba : bootBuiltins "all" = some (.builtin "all") := by decide +kernel
    have bm : bootBuiltins "min" = some (.builtin "min") := by decide +kernel
    have hr1 : Room 1 _ := hr.mono (by decide)
    have hr2 : Room 2 _ := hr.mono (by decide)
    have hr3 : Room 3 _ := hr.mono (by decide)
    have hr5 : Room 5 _ := hr.mono (by decide)
    have c4 : ∀ σ, CA σ → ∃ vs, (fun (σ : L2.St) (vs : List V) => ∃ v r, vs = v :: r ∧ σ[4]? = some (some v) ∧ r = []) σ vs ∧ vs.length = 1 := fun σ h => let ⟨⟨u, hu⟩, _⟩ := h; ⟨[u], ⟨u, [], rfl, hu, rfl⟩, rfl⟩
    have c5 : ∀ σ, CA σ → ∃ vs, (fun (σ : L2.St) (vs : List V) => ∃ v r, vs = v :: r ∧ σ[5]? = some (some v) ∧ r = []) σ vs ∧ vs.length = 1 := fun σ h => let ⟨_, u, hu⟩ := h; ⟨[u], ⟨u, [], rfl, hu, rfl⟩, rfl⟩
    have c45 : ∀ σ, CA σ → ∃ vs, (fun (σ : L2.St) (vs : List V) => ∃ v r, vs = v :: r ∧ σ[4]? = some (some v) ∧ (fun (σ : L2.St) (vs : List V) => ∃ v r, vs = v :: r ∧ σ[5]? = some (some v) ∧ (fun (σ : L2.St) (vs : List V) => ∃ r, vs = .int 1 :: r ∧ r = []) σ r) σ r) σ vs ∧ vs.length = 3 := fun σ h => let ⟨⟨u, hu⟩, v, hv⟩ := h; ⟨[u, v, .int 1], ⟨u, _, rfl, hu, v, _, rfl, hv, _, rfl, rfl⟩, rfl⟩
    refine ⟨_, (pss_cons (ps_set (i := 1) nd rfl (Or.inl rfl) (pe_call G1 hr1 rfl A1.mg A1.kp A1.bd .nil pass0 (pa_cons (pv 0) pa_nil)))
(pss_cons (ps_set (i := 2) nd rfl (Or.inl rfl) (pe_lst (pa_cons pe_non (pa_cons pe_bl (pa_cons pe_int (pa_cons (pe_un un_neg pe_int) (pa_cons pe_str (pa_cons pe_str (pa_cons (pe_tup (pa_cons pe_int (pa_cons pe_int pa_nil))) (pa_cons (pe_lst (pa_cons pe_str pa_nil)) (pa_cons pe_dnewK (pa_cons (pe_op op_pow pe_int pe_int) (pa_cons pe_str (pa_cons (pe_tup (pa_cons (pe_tup (pa_cons pe_str (pa_cons pe_str pa_nil))) pa_nil)) pa_nil))))))))))))))
(pss_cons (ps_for PassesOwn.never rfl (pi_range1 rfl B.zRange (pa_cons (pe_op op_add pe_int (pe_callB (call_min2 rfl) (by rfl) B.zMin bm (pa_cons pe_int (pa_cons (pe_callB call_len_seq (by rfl) B.zLen PySem.boot_len (pa_cons (pv 0) pa_nil)) pa_nil)))) pa_nil)) (pg_name (i := 3) nd rfl (Or.inl rfl))
(pss_cons (ps_asg (pe_tup (pa_cons (pe_call G2 hr2 rfl A2.mg A2.kp A2.bd .nil pass0 (pa_cons (pv 1) (pa_cons (pv 2) pa_nil))) (pa_cons (pe_call G2 hr2 rfl A2.mg A2.kp A2.bd .nil pass0 (pa_cons (pv 1) (pa_cons (pv 2) pa_nil))) pa_nil))) (pg_tup rfl (pgs_cons (pg_name (i := 4) nd rfl (Or.inr rfl)) (pgs_cons (pg_name (i := 5) nd rfl (Or.inl rfl)) pgs_nil))))
(pss_cons (ps_for PassesOwn.never rfl (pi_list (pe_call G3 hr3 rfl A3.mg A3.kp A3.bd .nil pass0 (pa_cons (pv 4) pa_nil))) (pg_tup rfl (pgs_cons (pg_name (i := 6) nd rfl (Or.inl rfl)) (pgs_cons (pg_name (i := 7) nd rfl (Or.inl rfl)) pgs_nil)))
(pss_one (ps_if (PW.pt (pw_or (pt_cmpR (op_neM hu64) (pv 6) (pv 4) (nomark _)) (pw_or (pt_cmpR (op_neM hu64) (pv 7) (pv 4) (nomark _)) (pw_or1 (pt_cmpR op_ne (pe_callB call_isB (by rfl) B.zIsi bx (pa_cons (pv 6) (pa_cons (pe_bltn (v := .ty "bool") rfl B.zBool bb rfl) pa_nil))) (pe_callB call_isB (by rfl) B.zIsi bx (pa_cons (pv 4) (pa_cons (pe_bltn (v := .ty "bool") rfl B.zBool bb rfl) pa_nil))) (nomark _))))))
(pss_one (ps_ret pe_bl))
pss_nil)))
(pss_cons (ps_for PassesOwn.never rfl (pi_list (pe_call G4 hr3 rfl A4.mg A4.kp A4.bd .nil pass0 (pa_cons (pv 4) (pa_cons (pv 5) pa_nil)))) (pg_tup rfl (pgs_cons (pg_name (i := 6) nd rfl (Or.inl rfl)) (pgs_cons (pg_name (i := 8) nd rfl (Or.inl rfl)) pgs_nil)))
(pss_one (ps_if (PW.pt (pw_or (pt_cmpR (op_neM hu64) (pv 6) (pv 8) (nomark _)) (pw_or1 (pt_cmpR op_ne (pe_callB call_isB (by rfl) B.zIsi bx (pa_cons (pv 6) (pa_cons (pe_bltn (v := .ty "bool") rfl B.zBool bb rfl) pa_nil))) (pe_callB call_isB (by rfl) B.zIsi bx (pa_cons (pv 8) (pa_cons (pe_bltn (v := .ty "bool") rfl B.zBool bb rfl) pa_nil))) (nomark _)))))
(pss_one (ps_ret pe_bl))
pss_nil)))
(pss_cons (ps_set (i := 9) nd rfl (Or.inl rfl) (pe_lst
 (exs_cons (ex_0 Z.e13 (by rfl))
 (exs_cons (ex_0 Z.e17 (by rfl))
 (exs_cons (ex_0 Z.e26 (by rfl))
 (exs_cons (ex_0 Z.e32 (by rfl))
 (exs_cons (ex_0 Z.e35 (by rfl))
 (exs_cons (ex_n (pmk_er T.eBadPiece hr2 (by decide) (by rfl) (pl_var (pv 4) pl_nil)) c4)
 (exs_cons (ex_n (pmk_er T.eNoTie hr2 (by decide) (by rfl) (pl_var (pv 4) (pl_var (pv 5) (pl_int pe_int pl_nil)))) c45)
 exs_nil)))))))))
(pss_cons (ps_expr (pe_bm PySem.F.plainAttrs_list PySem.F.slot_list_append PySem.F.type_list_append mt_append (pv 9) (pa_cons (ex_n (pmk_er T.eNoKind hr2 (by decide) (by rfl) (pl_var (pv 5) pl_nil)) c5) pa_nil)))
(pss_cons (ps_for PassesOwn.never rfl (pi_list (pv 9)) (pg_name (i := 10) nd rfl (Or.inl rfl))
(pss_one (ps_if (PW.pt (pw_or (pt_not (pt_val (pe_callB call_isX (by rfl) B.zIsi bx (pa_cons (pv 10) (pa_cons (pe_glob (v := .ref (ca cs 1)) rfl Z.web rfl) pa_nil))))) (pw_or1 (pt_not (pt_val (pe_callB call_isX (by rfl) B.zIsi bx (pa_cons (pv 10) (pa_cons (pe_bltn (v := .ty "ValueError") rfl B.zVE bv rfl) pa_nil))))))))
(pss_one (ps_ret pe_bl))
pss_nil)))
(pss_cons (ps_setLc (i := 11) (own := [("_law_error", 10)]) (g := gName 10) (tt := tYes) rfl nd rfl rfl (sw_true rfl rfl rfl (by decide +kernel)) (pi_list (pv 9)) (blkOk_by (N := nmLaw) (sc := defScope sLaw) (by decide +kernel)) (fun _ _ _ _ _ => pg_name (i := 10) nd rfl (Or.inl rfl)) (fun _ _ _ _ _ => pts_nil) (fun _ _ _ _ _ => pe_callB (r := rIsXT K) call_isXT (by rfl) B.zIsi bx (pa_cons (pv 10) (pa_cons (pe_tup (pa_cons (pe_glob (v := .ref (ca cs 13)) rfl Z.e13.gC rfl) (pa_cons (pe_glob (v := .ref (ca cs 2)) rfl T.eBadPiece.gC rfl) (pa_cons (pe_glob (v := .ref (ca cs 12)) rfl T.eNoTie.gC rfl) (pa_cons (pe_glob (v := .ref (ca cs 26)) rfl Z.e26.gC rfl) pa_nil))))) pa_nil))))
(pss_one (ps_if (PW.pt (pw_or (pt_cmpR op_ne (pe_callB (cr_sum rfl) (by rfl) B.zSum bs (pa_cons (pe_lc (own := [("_law_seen", 12)]) (g := gName 12) (tt := tYes) rfl nd (pi_list (pv 11)) (blkOk_by (N := nmLaw) (sc := defScope sLaw) (by decide +kernel)) (fun _ _ _ _ _ => pg_name (i := 12) nd rfl (Or.inl rfl)) (fun _ _ _ _ _ => pts_nil) (fun _ _ _ _ _ => pe_callTy call_int1 (by rfl) B.zInt bi (pa_cons (pv 12) pa_nil))) pa_nil)) pe_int (nomark _)) (pw_or1 (pt_not (pt_val (pe_callB (cr_all rfl) (by rfl) B.zAll ba (pa_cons (pe_lc (own := [("_law_which", 13)]) (g := gName 13) (tt := tYes) rfl nd (pi_range1 rfl B.zRange (pa_cons pe_int pa_nil)) (blkOk_by (N := nmLaw) (sc := defScope sLaw) (by decide +kernel)) (fun _ _ _ _ _ => pg_name (i := 13) nd rfl (Or.inl rfl)) (fun _ _ _ _ _ => pts_nil) (fun _ _ _ _ _ => pe_call G5 hr5 rfl A5.mg A5.kp A5.bd .nil pass0 (pa_cons (pv 13) (pa_cons (pv 4) pa_nil)))) pa_nil)))))))
(pss_one (ps_ret pe_bl))
pss_nil))))))))))
(pss_one (ps_ret pe_bl))))), ?_⟩
    -- the pen
    refine ⟨_, rfl, a, ns, rfl, hS, hlen, fun p l H1 s1 np nl npl Pn => ?_⟩
    -- the menu
    refine ⟨3, rfl, by show 2 ≤ sizeLine; decide, fun t1 n1 => ⟨by show 1 ≤ sizeLine; decide, fun l1 m1 d0 nd0 => ⟨10, 9, rfl, rfl, ⟨by decide, by decide, by decide⟩, by show 2 ≤ sizeLine; decide, fun t2 n2 => ⟨by show 1 ≤ sizeLine; decide, fun t3 n3 => ⟨by show 12 ≤ sizeLine; decide, fun lv nv => ?_⟩⟩⟩⟩⟩
    obtain ⟨H2, hH2⟩ : ∃ H2, H2 = upd (upd (upd (upd (upd (upd H1 t1 (.tup [.int 1, .int 2])) l1 (.lst [.str "x"])) d0 (.dK [])) t2 (.tup [.str "k", .str "a"])) t3 (.tup [.ref t2])) lv
      (.lst (menu t1 l1 d0 t3)) := ⟨_, rfl⟩
    have u1 := same_new (o := .tup [.int 1, .int 2]) n1
    have u2 := same_new (o := .lst [.str "x"]) m1
    have u3 := same_new (o := .dK []) nd0
    have u4 := same_new (o := .tup [.str "k", .str "a"]) n2
    have u5 := same_new (o := .tup [.ref t2]) n3
    have u6 := same_new (o := .lst (menu t1 l1 d0 t3)) nv
    have s2 : Same H1 H2 := by rw [hH2]; exact u1.trans (u2.trans (u3.trans (u4.trans (u5.trans u6))))
    have hlv : H2 lv = some (.lst (menu t1 l1 d0 t3)) := by rw [hH2]; exact upd_same
    have g1 : H2 t1 = some (.tup [.int 1, .int 2]) := by rw [hH2]; exact (u2.trans (u3.trans (u4.trans (u5.trans u6)))) _ _ upd_same
    have g2 : H2 l1 = some (.lst [.str "x"]) := by rw [hH2]; exact (u3.trans (u4.trans (u5.trans u6))) _ _ upd_same
    have g3 : H2 d0 = some (.dK []) := by rw [hH2]; exact (u4.trans (u5.trans u6)) _ _ upd_same
    have g4 : H2 t2 = some (.tup [.str "k", .str "a"]) := by rw [hH2]; exact (u5.trans u6) _ _ upd_same
    have g5 : H2 t3 = some (.tup [.ref t2]) := by rw [hH2]; exact u6 _ _ upd_same
    have nda : t1 ≠ p ∧ l1 ≠ p ∧ d0 ≠ p ∧ t2 ≠ p ∧ t3 ≠ p := by
      obtain ⟨⟨sp0, rt0, e0, _, _⟩, _, _⟩ := Pn
      exact ⟨(ne_of_none e0 n1).symm, (ne_of_none (u1 _ _ e0) m1).symm, (ne_of_none ((u1.trans u2) _ _ e0) nd0).symm, (ne_of_none ((u1.trans (u2.trans u3)) _ _ e0) n2).symm, (ne_of_none ((u1.trans (u2.trans (u3.trans u4))) _ _ e0) n3).symm⟩
    have nlp : lv ≠ p := by
      obtain ⟨⟨sp0, rt0, e0, _, _⟩, _, _⟩ := Pn
      exact (ne_of_none ((u1.trans (u2.trans (u3.trans (u4.trans u5)))) _ _ e0) nv).symm
    have Pn2 := Pn.same s2
    change gName 2 (V.ref lv) _ (upd _ lv (.lst (menu t1 l1 d0 t3))) _
    rw [← hH2]
    have hS2 : SqL K H2 a (ns.map V.int) := (s1.trans s2).seq hS
    clear hH2 u1 u2 u3 u4 u5 u6 n1 m1 nd0 n2 n3 nv
    -- the laps
    refine ⟨_, rfl, a, _, rfl, .inl hS2, 4, _, rfl, _, _, rfl, rfl, _, rfl, ?_, ?_, for_range
      (fun i σ H3 => ∃ x3 x4 x5 x6 x7 x8 x9 x10 x11 x12 x13 : Option V, σ = [some (.ref a), some (.ref p), some (.ref lv), x3, x4, x5, x6, x7, x8, x9, x10, x11, x12, x13] ∧ PenAt H3 p l ns (2 * i) ∧ i ≤ 6 ∧ ∀ b o, b ≠ p → H2 b = some o → H3 b = some o) ?_ ?_ ?_⟩
    · split <;> omega
    · rw [List.length_map]; split <;> omega
    · exact ⟨none, none, none, none, none, none, none, none, none, none, none, rfl, Pn2, by omega, fun b o _ h => h⟩
    rotate_left
    · rintro σ H3 ⟨x3, x4, x5, x6, x7, x8, x9, x10, x11, x12, x13, rfl, Pn3, i6, sb3⟩
      exact k H3
    rintro i σ H3 hi ⟨x3, x4, x5, x6, x7, x8, x9, x10, x11, x12, x13, rfl, Pn3, i6, sb3⟩
    have hi5 : i ≤ 5 := by
      rw [List.length_map] at hi
      split at hi <;> omega
    have hM3 : ∀ v ∈ menu t1 l1 d0 t3, Mn H3 v := mnu (sb3 _ _ nda.1 g1) (sb3 _ _ nda.2.1 g2) (sb3 _ _ nda.2.2.1 g3) (sb3 _ _ nda.2.2.2.1 g4) (sb3 _ _ nda.2.2.2.2 g5)
    have hL : (menu t1 l1 d0 t3).length = 12 := rfl
    -- a, b
    refine ⟨_, rfl, _, rfl, p, l, lv, ns, _, _, rfl, Pn3, by omega, sb3 _ _ nlp hlv, by rw [hL]; decide, by rw [hL]; decide, fun va H4 hva Pn4 sb4 => ?_⟩
    refine ⟨_, rfl, _, rfl, p, l, lv, ns, _, _, rfl, Pn4, by omega, sb4 _ _ nlp (sb3 _ _ nlp hlv), by rw [hL]; decide, by rw [hL]; decide, fun vb H5 hvb Pn5 sb5 => ⟨by show 2 ≤ sizeLine; decide, fun t nt => ?_⟩⟩
    refine ⟨t, [va, vb], rfl, SqT.of upd_same, rfl, va, [vb], rfl, vb, [], rfl, rfl, ?_⟩
    have s6 := same_new (o := .tup [va, vb]) nt
    have Pn6 := Pn5.same s6
    have sb6 : ∀ b o, b ≠ p → H2 b = some o → (upd H5 t (.tup [va, vb])) b = some o := fun b o hb e => s6 _ _ (sb5 b o hb (sb4 b o hb (sb3 b o hb e)))
    generalize upd H5 t (.tup [va, vb]) = H6 at s6 Pn6 sb6 ⊢
    have hM6 : ∀ v ∈ menu t1 l1 d0 t3, Mn H6 v := mnu (sb6 _ _ nda.1 g1) (sb6 _ _ nda.2.1 g2) (sb6 _ _ nda.2.2.1 g3) (sb6 _ _ nda.2.2.2.1 g4) (sb6 _ _ nda.2.2.2.2 g5)
    have mva := hM6 va hva
    have mvb := hM6 vb hvb
    -- for kept, twice in alone(a)
    refine ⟨_, rfl, va, rfl, fun tA as H7 hlA s7 ntA htA hpA => ⟨tA, rfl, ⟨_, SqL.of htA⟩, for_list (K := K) (a := tA) (xs := as.map V.ref)
      (fun _ σ H => H = H7 ∧ ∃ y6 y7 : Option V, σ = [some (.ref a), some (.ref p), some (.ref lv), some (.int (0 + (i : Int))), some va, some vb, y6, y7, x8, x9, x10, x11, x12, x13]) ⟨rfl, x6, x7, rfl⟩ (fun j σ H _ ⟨e, _⟩ => by subst e; exact SqL.of htA) ?_ ?_⟩⟩
    · rintro j y σ H hj ⟨rfl, y6, y7, rfl⟩
      obtain ⟨q, hq, rfl⟩ : ∃ q, q ∈ as ∧ y = V.ref q := by
        rw [List.getElem?_map] at hj
        cases e : as[j]? with
        | none => rw [e] at hj; cases hj
        | some q => rw [e] at hj; exact ⟨q, List.mem_of_getElem? e, (Option.some.inj hj).symm⟩
      have m7 := mva.same s7
      refine ⟨q, [va, va], rfl, SqT.of (hpA q hq), rfl, va, [va], rfl, va, [], rfl, rfl, ?_⟩
      refine ⟨_, rfl, _, rfl, rfl, m7, _, rfl, iteF ?_⟩
      refine ⟨_, rfl, _, rfl, rfl, m7, _, rfl, iteF ?_⟩
      refine ⟨_, rfl, va, rfl, m7, _, rfl, va, rfl, m7, rfl, _, rfl, iteNS rfl ?_⟩
      exact ⟨rfl, _, _, rfl⟩
    rintro σ H ⟨rfl, y6, y7, rfl⟩
    -- for kept, due in more(a, b)
    refine ⟨_, rfl, _, rfl, va, vb, rfl, fun tB H8 s8 ntB ⟨m, hm, bs8, htB, hlB, hpB⟩ => ⟨tB, rfl, ⟨_, SqL.of htB⟩, for_list (K := K) (a := tB) (xs := bs8.map V.ref)
      (fun _ σ H => H = H8 ∧ ∃ z6 z8 : Option V, σ = [some (.ref a), some (.ref p), some (.ref lv), some (.int (0 + (i : Int))), some va, some vb, z6, y7, z8, x9, x10, x11, x12, x13]) ⟨rfl, y6, x8, rfl⟩ (fun j σ H _ ⟨e, _⟩ => by subst e; exact SqL.of htB) ?_ ?_⟩⟩
    · rintro j y σ H9 hj ⟨rfl, z6, z8, rfl⟩
      obtain ⟨q, hq, rfl⟩ : ∃ q, q ∈ bs8 ∧ y = V.ref q := by
        rw [List.getElem?_map] at hj
        cases e : bs8[j]? with
        | none => rw [e] at hj; cases hj
        | some q => rw [e] at hj; exact ⟨q, List.mem_of_getElem? e, (Option.some.inj hj).symm⟩
      obtain ⟨v, hv, hqv⟩ := hpB q hq
      have mv : Mn H9 v := by
        rcases hv with h | h | h
        · rw [h]; exact mva.same (s7.trans s8)
        · rw [h]; exact mvb.same (s7.trans s8)
        · rw [h]; exact .int 7
      refine ⟨q, [v, v], rfl, SqT.of hqv, rfl, v, [v], rfl, v, [], rfl, rfl, ?_⟩
      refine ⟨_, rfl, _, rfl, rfl, mv, _, rfl, iteF ?_⟩
      refine ⟨_, rfl, v, rfl, mv, _, rfl, v, rfl, mv, rfl, _, rfl, iteNS rfl ?_⟩
      exact ⟨rfl, _, _, rfl⟩
    rintro σ H9 ⟨rfl, z6, z8, rfl⟩
    -- lots
    refine ⟨⟨⟨va, rfl⟩, vb, rfl⟩, fun es H10 s10 hes => ?_⟩
    have les : es.length = 7 := pairedLen hes
    refine ⟨by rw [List.length_map, les]; decide, fun tl ntl => ?_⟩
    have s10b := same_new (o := .lst (es.map V.ref)) ntl
    -- append
    refine ⟨_, rfl, .inl ⟨rfl, _, SqL.of upd_same⟩, ⟨⟨va, rfl⟩, vb, rfl⟩, fun ek H11 s11 nk hek => ?_⟩
    have htl : H11 tl = some (.lst (es.map V.ref)) := s11 _ _ upd_same
    refine ⟨tl, _, _, rfl, rfl, htl, by rw [List.length_map, les]; decide, ?_⟩
    have el : es.map V.ref ++ [V.ref ek] = (es ++ [ek]).map V.ref := by rw [List.map_append]; rfl
    rw [el]
    have hall : Paired (ExAt (upd H11 tl (.lst ((es ++ [ek]).map V.ref)))) (es ++ [ek]) (lotI.map (ca cs)) :=
      pairedSnoc (L2.Paired.mapP (L2.Paired.mapP hes fun _ _ z => (z.same s10b).same s11) fun _ _ z => exUpd z htl) (exUpd hek htl)
    have s12 : Same H10 (upd H11 tl (.lst ((es ++ [ek]).map V.ref))) := fun b o e => by
      rw [upd_ne (ne_of_none e ntl)]
      exact s11 _ _ (s10b _ _ e)
    have htl2 : (upd H11 tl (.lst ((es ++ [ek]).map V.ref))) tl = some (.lst ((es ++ [ek]).map V.ref)) := upd_same
    generalize upd H11 tl (.lst ((es ++ [ek]).map V.ref)) = H12 at hall s12 htl2 ⊢
    generalize es ++ [ek] = al at hall htl2 ⊢
    have lal : al.length = 8 := pairedLen hall
    have item : ∀ (j : Nat) (y : V), (al.map V.ref)[j]? = some y → ∃ (q : Addr) (ci : Nat), y = .ref q ∧ lotI[j]? = some ci ∧ ci ∈ lotI ∧ ExAt H12 q (ca cs ci) := fun j y hj => by
      rw [List.getElem?_map] at hj
      cases e : al[j]? with
      | none => rw [e] at hj; cases hj
      | some q =>
        rw [e] at hj
        obtain ⟨c, hc, hx⟩ := pairedGet hall e
        rw [List.getElem?_map] at hc
        cases e2 : lotI[j]? with
        | none => rw [e2] at hc; cases hc
        | some ci =>
          rw [e2] at hc
          obtain rfl : ca cs ci = c := Option.some.inj hc
          exact ⟨q, ci, (Option.some.inj hj).symm, rfl, List.mem_of_getElem? e2, hx⟩
    -- for error in lots
    refine ⟨_, rfl, tl, rfl, ⟨_, SqL.of htl2⟩, for_list (K := K) (a := tl) (xs := al.map V.ref)
      (fun _ σ H => H = H12 ∧ ∃ w10 : Option V, σ = [some (.ref a), some (.ref p), some (.ref lv), some (.int (0 + (i : Int))), some va, some vb, z6, y7, z8, some (.ref tl), w10, x11, x12, x13]) ⟨rfl, x10, rfl⟩ (fun j σ H _ ⟨e, _⟩ => by subst e; exact SqL.of htl2) ?_ ?_⟩
    · rintro j y σ H hj ⟨rfl, w10, rfl⟩
      obtain ⟨q, ci, rfl, hci, hm, hx⟩ := item j y hj
      refine ⟨_, rfl, q, _, .ref (ca cs 1), .ref (ca cs 1), true, rfl, hx, J.ex ci hm, .own _, J.web ci hm, true, rfl, iteF ?_⟩
      refine ⟨_, rfl, q, _, .ty "ValueError", .type "ValueError", true, rfl, hx, J.ex ci hm, .ty _, J.ve ci hm, true, rfl, iteF ?_⟩
      exact ⟨rfl, _, rfl⟩
    rintro σ H ⟨rfl, w10, rfl⟩
    -- found
    refine ⟨_, rfl, tl, rfl, ⟨_, SqL.of htl2⟩, fun D hD => lc_list (xs := al.map V.ref) (fun j H' => Same H H' ∧ H' D = some (.lst ((lotB.take j).map V.bl))) ⟨same_new hD, upd_same⟩ (fun j H' _ ⟨s', _⟩ => SqL.of (s' _ _ htl2)) ?_ ?_⟩
    · rintro j y H' hj ⟨s', hD'⟩
      obtain ⟨q, ci, rfl, hci, hm, hx⟩ := item j y hj
      have jl : j < 8 := by
        have z := (List.getElem?_eq_some_iff.mp hj).1
        rw [List.length_map, lal] at z
        exact z
      obtain ⟨bq, hbq⟩ : ∃ bq, lotB[j]? = some bq := ⟨lotB[j]'(by exact jl), List.getElem?_eq_getElem _⟩
      refine ⟨rfl, ?_⟩
      refine ⟨_, rfl, by show 4 ≤ sizeLine; decide, fun tc ntc => ?_⟩
      have nDt : D ≠ tc := ne_of_none hD' ntc
      refine ⟨q, ca cs ci, tc, _, _, bq, rfl, (hx.same s').same (same_new ntc), J.ex ci hm, upd_same, .cons (.own _) (.cons (.own _) (.cons (.own _) (.cons (.own _) .nil))), J.any j bq ci hci hbq, _, by rw [upd_ne nDt]; exact hD', ?_, sameAt (s'.trans (same_new ntc)) hD, ?_⟩
      · rw [List.length_map, List.length_take]
        exact Nat.lt_of_le_of_lt (Nat.min_le_right _ _) (by decide)
      · rw [upd_same, takeMap hbq]
    intro H13 ⟨s13, hD13⟩
    have eB : (lotB.take (al.map V.ref).length).map V.bl = lotB.map V.bl := by rw [List.length_map, lal]; rfl
    rw [eB] at hD13
    -- sum
    refine ⟨_, rfl, D, rfl, ⟨_, SqL.of hD13⟩, fun D2 hD2 => lc_list (xs := lotB.map V.bl) (fun j H' => Same H13 H' ∧ H' D2 = some (.lst (((lotB.map fun b => if b = true then (1 : Int) else 0).take j).map V.int))) ⟨same_new hD2, upd_same⟩ (fun j H' _ ⟨s', _⟩ => SqL.of (s' _ _ hD13)) ?_ ?_⟩
    · rintro j y H' hj ⟨s', hD'⟩
      rw [List.getElem?_map] at hj
      cases e : lotB[j]? with
      | none => rw [e] at hj; cases hj
      | some bq =>
        rw [e] at hj
        obtain rfl : V.bl bq = y := Option.some.inj hj
        refine ⟨rfl, ?_⟩
        refine ⟨_, rfl, .inr ⟨bq, rfl, _, hD', ?_, sameAt s' hD2, ?_⟩⟩
        · rw [List.length_map, List.length_take]
          exact Nat.lt_of_le_of_lt (Nat.min_le_right _ _) (by decide)
        · rw [upd_same]
          have z := takeMap (f := V.int) (l := lotB.map fun b => if b = true then (1 : Int) else 0) (j := j) (b := if bq = true then 1 else 0) (by rw [List.getElem?_map, e]; rfl)
          rw [z]
    intro H14 ⟨s14, hD14⟩
    refine ⟨D2, _, rfl, SqL.of hD14, rfl, _, rfl, iteNS rfl ?_⟩
    -- all
    refine ⟨5, rfl, by decide, by decide, fun D3 hD3 => lc_range (n := 5) (fun j H' => Same H14 H' ∧ H' D3 = some (.lst ((List.replicate j true).map V.bl))) ⟨same_new hD3, upd_same⟩ ?_ ?_⟩
    · rintro j H' hj ⟨s', hD'⟩
      refine ⟨rfl, ?_⟩
      refine ⟨_, rfl, _, rfl, 0 + (j : Int), va, rfl, fun H'' s'' => ⟨_, s'' _ _ hD', ?_, sameAt (s'.trans s'') hD3, ?_⟩⟩
      · rw [List.length_map, List.length_replicate, sizeLine_eq]
        omega
      · rw [upd_same, List.replicate_succ', List.map_append]
        rfl
    intro H15 ⟨s15, hD15⟩
    refine ⟨D3, List.replicate 5 true, rfl, SqL.of hD15, _, rfl, iteF ?_⟩
    have sf : Same H6 H15 := s7.trans (s8.trans (s10.trans (s12.trans (s13.trans (s14.trans s15)))))
    exact ⟨_, _, _, _, _, _, _, _, _, _, _, rfl, (Pn6.same sf).more (by omega), by omega, fun b o hb e => sf _ _ (sb6 b o hb e)⟩
end
end K00
namespace K00
open PySem PySem.Spec PyProof.Rows L2 EV
/-- what the top leaves of a class over WebError, with its own __init__ -/
structure ErrF (K : PySem.W.Frag) (W : Addr) (x : Str) (qual : Str) (st : Stmt) (fs : List Str) (C f1 : Addr) : Prop where
  aC : PySem.W.nsIn K mainGlobals x = some (some (.ref C))
  xL : ∃ nm q N bs sn sub ab col dd k0 k1 k2 k3 k5, K.lookup C = some (excClassObj nm q C N bs [.ref W, .type "ValueError", .type "Exception", .type "BaseException", .type "object"] true sn sub ab col dd k0 k1 k2 k3 k5 "ValueError.__new__")
  sa : PySem.W.findIn K (.ref C) "__setattr__" = some (some (.builtin "object.__setattr__"))
  ga : PySem.W.findIn K (.ref C) "__getattribute__" = some (some (.builtin "BaseException.__getattribute__"))
  gg : PySem.W.findIn K (.ref C) "__getattr__" = some none
  no : ∀ f ∈ fs, PySem.W.findIn K (.ref C) f = some none
  a1 : PySem.W.findIn K (.ref C) "__init__" = some (some (.ref f1))
  t1 : PySem.W.typeIn K (.ref f1) = some (.type "function")
  l1 : ∃ oc od kV doc pm an cd ct sl, K.lookup f1 = some ⟨oc, od, .func (PySem.W.fnOf "__init__" qual (defArgs st) (defBody st) (defScope st) .none kV doc pm an cd ct), sl⟩ ∧ PySem.W.codeIn K cd qual = true
  k1 : PySem.W.keepIn K (.ref f1) = true
  kC : PySem.W.keepIn K (.ref C) = true
  eC : PySem.W.subIn K (.ref C) (.type "BaseException") = some true
  tC : PySem.W.typeIn K (.ref C) = some (.type "type")
  hC : PySem.W.hasDictIn K C = true
theorem ErrF.oex {K : PySem.W.Frag} {W : Addr} {x qual : Str} {st : Stmt} {fs : List Str} {C f1 : Addr} (e : ErrF K W x qual st fs C f1) : OexC K C := by
  obtain ⟨nm, q, N, bs, sn, sub, ab, col, dd, k0, k1, k2, k3, k5, h⟩ := e.xL
  exact ⟨⟨nm, q, N, bs, _, sn, sub, ab, col, dd, k0, k1, k2, k3, k5, h, rfl⟩, e.sa, e.eC, e.tC, e.kC⟩
theorem ErrF.err {P : Program} {w : World} {K : PySem.W.Frag} {mg : Str → Option Value} {base h : Heap} {W : Addr} {x qual : Str} {st : Stmt} {fs : List Str} {C f1 : Addr} (e : ErrF K W x qual st fs C f1) (X : K.In h) (G : h.Ns mainGlobals mg)
    (ok : ∀ fd, Fun K "__init__" qual st f1 fd → OexC K C → FnOk P w K mg base CX0 1 f1 fd (("self" : Str) :: fs) (spSet C fs))
    (bd : ∀ (kV doc pm : Value) (an : Option Addr) (cdv ct : Value) (us ws : List Value), 0 < us.length → (us ++ ws).length = fs.length + 1 →
      bindArgs (PySem.W.fnOf "__init__" qual (defArgs st) (defBody st) (defScope st) .none kV doc pm an cdv ct) ⟨us, ((("self" : Str) :: fs).drop us.length).zip ws⟩ = pure ((("self" : Str) :: fs).zip (us ++ ws))) : Err P w K mg base x C fs := by
  obtain ⟨oc, od, kV, doc, pm, an, cd, ct, sl, hl, hc⟩ := e.l1
  have F := fun_mk (st := st) hl hc e.k1
  exact ⟨e.oex, ⟨e.ga, e.gg, e.eC, e.hC⟩, PySem.W.mg_of X G e.aC, e.no, ⟨f1, _, e.a1, e.t1, ok _ F e.oex, fun s us ws h1 h2 => .of_eq (bd _ _ _ _ _ _ us ws h1 h2)⟩⟩
end K00
namespace K00
open PySem PySem.Spec PyProof.Rows L2 EV
theorem all1 {p : Str → Prop} {a : Str} (h : p a) : ∀ f ∈ [a], p f := fun f hf => by rw [List.mem_singleton.mp hf]; exact h
theorem all2 {p : Str → Prop} {a b : Str} (h : p a) (h2 : p b) : ∀ f ∈ [a, b], p f := fun f hf => by
  rcases List.mem_cons.mp hf with e | e
  · rw [e]; exact h
  · exact all1 h2 f e
theorem all3 {p : Str → Prop} {a b c : Str} (h : p a) (h2 : p b) (h3 : p c) : ∀ f ∈ [a, b, c], p f := fun f hf => by
  rcases List.mem_cons.mp hf with e | e
  · rw [e]; exact h
  · exact all2 h2 h3 f e
/-- what isinstance asks of a class with nothing of its own -/
structure Is0 (K : PySem.W.Frag) (C : Addr) : Prop where
  ga : PySem.W.findIn K (.ref C) "__getattribute__" = some (some (.builtin "BaseException.__getattribute__"))
  gg : PySem.W.findIn K (.ref C) "__getattr__" = some none
  eC : PySem.W.subIn K (.ref C) (.type "BaseException") = some true
  hC : PySem.W.hasDictIn K C = true
structure Is1 (K : PySem.W.Frag) (W C : Addr) (l : List Value) (b : Bool) : Prop where
  ha : PySem.W.findIn K (.ref C) "__class__" = some (some (.builtin "object.__class__"))
  hm : PySem.W.mroIn K C (.type "object") = some true
  web : PySem.W.kitOne K (.ref C) (.ref W) = some true
  ve : PySem.W.kitOne K (.ref C) (.type "ValueError") = some true
  any : PySem.W.kitAny K (.ref C) l = some b
/-- what the top leaves of a def -/
structure DefF (K : PySem.W.Frag) (x : Str) (st : Stmt) (f : Addr) : Prop where
  a : PySem.W.nsIn K mainGlobals x = some (some (.ref f))
  l : ∃ oc od kV doc pm an cd ct sl, K.lookup f = some ⟨oc, od, .func (PySem.W.fnOf x x (defArgs st) (defBody st) (defScope st) .none kV doc pm an cd ct), sl⟩ ∧ PySem.W.codeIn K cd x = true
  k : PySem.W.keepIn K (.ref f) = true
structure Cls0 (K : PySem.W.Frag) (x : Str) (C : Addr) : Prop where
  aC : PySem.W.nsIn K mainGlobals x = some (some (.ref C))
  ex : PySem.W.excIn K C [.type "ValueError", .type "Exception", .type "BaseException", .type "object"] "ValueError.__new__" = true
  kC : PySem.W.keepIn K (.ref C) = true
  tC : PySem.W.typeIn K (.ref C) = some (.type "type")
  is : Is0 K C
theorem xl_mk {K : PySem.W.Frag} {W C : Addr} {nm q : Str} {N : Addr} {bs : List Value} {sn : List Str} {sub : List Value} {ab : Bool} {col : Option Bool} {dd : Option Addr} {k0 k1 k2 k3 k5 : Option Value}
    (h : K.lookup C = some (excClassObj nm q C N bs [.ref W, .type "ValueError", .type "Exception", .type "BaseException", .type "object"] true sn sub ab col dd k0 k1 k2 k3 k5 "ValueError.__new__")) :
    ∃ nm q N bs sn sub ab col dd k0 k1 k2 k3 k5, K.lookup C = some (excClassObj nm q C N bs [.ref W, .type "ValueError", .type "Exception", .type "BaseException", .type "object"] true sn sub ab col dd k0 k1 k2 k3 k5 "ValueError.__new__") :=
  ⟨nm, q, N, bs, sn, sub, ab, col, dd, k0, k1, k2, k3, k5, h⟩
theorem l_mk {K : PySem.W.Frag} {f : Addr} {x qual : Str} {st : Stmt} {oc : Value} {od : Option Addr} {kV doc pm : Value} {an : Option Addr} {cd ct : Value} {sl : Array (Option Value)}
    (l : K.lookup f = some ⟨oc, od, .func (PySem.W.fnOf x qual (defArgs st) (defBody st) (defScope st) .none kV doc pm an cd ct), sl⟩) (c : PySem.W.codeIn K cd qual = true) :
    ∃ oc od kV doc pm an cd ct sl, K.lookup f = some ⟨oc, od, .func (PySem.W.fnOf x qual (defArgs st) (defBody st) (defScope st) .none kV doc pm an cd ct), sl⟩ ∧ PySem.W.codeIn K cd qual = true :=
  ⟨oc, od, kV, doc, pm, an, cd, ct, sl, l, c⟩
theorem Cls0.err {K : PySem.W.Frag} {mg : Str → Option Value} {h : Heap} {x : Str} {C : Addr} (e : Cls0 K x C) (X : K.In h) (G : h.Ns mainGlobals mg) : Err0 K mg x C := ⟨e.ex, PySem.W.mg_of X G e.aC, e.kC, e.is.eC, e.tC⟩
theorem mkC {K : PySem.W.Frag} {W C : Addr} {l : List Value} {b : Bool} (a : Is0 K C) (e : Is1 K W C l b) (hn : PySem.W.specialIn K (.builtin "object.__class__") "__get__" = some (some (.builtin "getset_descriptor.__get__"))) (ht : PySem.W.takesIn K (.builtin "object.__class__") = some true) : ExcC K C :=
  ⟨a.ga, a.gg, a.eC, a.hC, e.ha, hn, ht, e.hm⟩

abbrev i2 : Stmt := inClass (top 2) 0
theorem sc2 : FnScope ["self", "field"] ["self", "field"] (defScope i2) := ⟨rfl, rfl, rfl, by decide +kernel, rfl, by decide +kernel, by decide +kernel⟩
theorem ok2 {P : Program} {w : World} {K : PySem.W.Frag} {mg : Str → Option Value} {base : Heap} {C f1 : Addr} (no : ∀ f ∈ (["field"] : List Str), PySem.W.findIn K (.ref C) f = some none) (fd : FuncData) (F : Fun K "__init__" "BadPiece.__init__" i2 f1 fd) (T : OexC K C) : FnOk P w K mg base CX0 1 f1 fd ["self", "field"] (spSet C ["field"]) :=
  ok_init1 rfl sc2 (Or.inl rfl) (Or.inl rfl) (by decide) (by decide) F T (no _ (List.mem_cons_self ..))
abbrev i3 : Stmt := inClass (top 3) 0
theorem sc3 : FnScope ["self", "kind"] ["self", "kind"] (defScope i3) := ⟨rfl, rfl, rfl, by decide +kernel, rfl, by decide +kernel, by decide +kernel⟩
theorem ok3 {P : Program} {w : World} {K : PySem.W.Frag} {mg : Str → Option Value} {base : Heap} {C f1 : Addr} (no : ∀ f ∈ (["kind"] : List Str), PySem.W.findIn K (.ref C) f = some none) (fd : FuncData) (F : Fun K "__init__" "BadBook.__init__" i3 f1 fd) (T : OexC K C) : FnOk P w K mg base CX0 1 f1 fd ["self", "kind"] (spSet C ["kind"]) :=
  ok_init1 rfl sc3 (Or.inl rfl) (Or.inl rfl) (by decide) (by decide) F T (no _ (List.mem_cons_self ..))
abbrev i4 : Stmt := inClass (top 4) 0
theorem sc4 : FnScope ["self", "kind", "number"] ["self", "kind", "number"] (defScope i4) := ⟨rfl, rfl, rfl, by decide +kernel, rfl, by decide +kernel, by decide +kernel⟩
theorem ok4 {P : Program} {w : World} {K : PySem.W.Frag} {mg : Str → Option Value} {base : Heap} {C f1 : Addr} (no : ∀ f ∈ (["kind", "number"] : List Str), PySem.W.findIn K (.ref C) f = some none) (fd : FuncData) (F : Fun K "__init__" "BadBud.__init__" i4 f1 fd) (T : OexC K C) : FnOk P w K mg base CX0 1 f1 fd ["self", "kind", "number"] (spSet C ["kind", "number"]) :=
  ok_init2 rfl sc4 (Or.inl rfl) (Or.inl rfl) (Or.inl rfl) (by decide) (by decide) (by decide) (by decide) F T (no _ (List.mem_cons_self ..)) (no _ (List.mem_cons_of_mem _ (List.mem_cons_self ..)))
abbrev i5 : Stmt := inClass (top 5) 0
theorem sc5 : FnScope ["self", "ring"] ["self", "ring"] (defScope i5) := ⟨rfl, rfl, rfl, by decide +kernel, rfl, by decide +kernel, by decide +kernel⟩
theorem ok5 {P : Program} {w : World} {K : PySem.W.Frag} {mg : Str → Option Value} {base : Heap} {C f1 : Addr} (no : ∀ f ∈ (["ring"] : List Str), PySem.W.findIn K (.ref C) f = some none) (fd : FuncData) (F : Fun K "__init__" "HandedOn.__init__" i5 f1 fd) (T : OexC K C) : FnOk P w K mg base CX0 1 f1 fd ["self", "ring"] (spSet C ["ring"]) :=
  ok_init1 rfl sc5 (Or.inl rfl) (Or.inl rfl) (by decide) (by decide) F T (no _ (List.mem_cons_self ..))
abbrev i6 : Stmt := inClass (top 6) 0
theorem sc6 : FnScope ["self", "kind"] ["self", "kind"] (defScope i6) := ⟨rfl, rfl, rfl, by decide +kernel, rfl, by decide +kernel, by decide +kernel⟩
theorem ok6 {P : Program} {w : World} {K : PySem.W.Frag} {mg : Str → Option Value} {base : Heap} {C f1 : Addr} (no : ∀ f ∈ (["kind"] : List Str), PySem.W.findIn K (.ref C) f = some none) (fd : FuncData) (F : Fun K "__init__" "NoKind.__init__" i6 f1 fd) (T : OexC K C) : FnOk P w K mg base CX0 1 f1 fd ["self", "kind"] (spSet C ["kind"]) :=
  ok_init1 rfl sc6 (Or.inl rfl) (Or.inl rfl) (by decide) (by decide) F T (no _ (List.mem_cons_self ..))
abbrev i7 : Stmt := inClass (top 7) 0
theorem sc7 : FnScope ["self", "kind", "letter"] ["self", "kind", "letter"] (defScope i7) := ⟨rfl, rfl, rfl, by decide +kernel, rfl, by decide +kernel, by decide +kernel⟩
theorem ok7 {P : Program} {w : World} {K : PySem.W.Frag} {mg : Str → Option Value} {base : Heap} {C f1 : Addr} (no : ∀ f ∈ (["kind", "letter"] : List Str), PySem.W.findIn K (.ref C) f = some none) (fd : FuncData) (F : Fun K "__init__" "NoMouth.__init__" i7 f1 fd) (T : OexC K C) : FnOk P w K mg base CX0 1 f1 fd ["self", "kind", "letter"] (spSet C ["kind", "letter"]) :=
  ok_init2 rfl sc7 (Or.inl rfl) (Or.inl rfl) (Or.inl rfl) (by decide) (by decide) (by decide) (by decide) F T (no _ (List.mem_cons_self ..)) (no _ (List.mem_cons_of_mem _ (List.mem_cons_self ..)))
abbrev i8 : Stmt := inClass (top 8) 0
theorem sc8 : FnScope ["self", "kind", "part"] ["self", "kind", "part"] (defScope i8) := ⟨rfl, rfl, rfl, by decide +kernel, rfl, by decide +kernel, by decide +kernel⟩
theorem ok8 {P : Program} {w : World} {K : PySem.W.Frag} {mg : Str → Option Value} {base : Heap} {C f1 : Addr} (no : ∀ f ∈ (["kind", "part"] : List Str), PySem.W.findIn K (.ref C) f = some none) (fd : FuncData) (F : Fun K "__init__" "NoPart.__init__" i8 f1 fd) (T : OexC K C) : FnOk P w K mg base CX0 1 f1 fd ["self", "kind", "part"] (spSet C ["kind", "part"]) :=
  ok_init2 rfl sc8 (Or.inl rfl) (Or.inl rfl) (Or.inl rfl) (by decide) (by decide) (by decide) (by decide) F T (no _ (List.mem_cons_self ..)) (no _ (List.mem_cons_of_mem _ (List.mem_cons_self ..)))
abbrev i9 : Stmt := inClass (top 9) 0
theorem sc9 : FnScope ["self", "row"] ["self", "row"] (defScope i9) := ⟨rfl, rfl, rfl, by decide +kernel, rfl, by decide +kernel, by decide +kernel⟩
theorem ok9 {P : Program} {w : World} {K : PySem.W.Frag} {mg : Str → Option Value} {base : Heap} {C f1 : Addr} (no : ∀ f ∈ (["row"] : List Str), PySem.W.findIn K (.ref C) f = some none) (fd : FuncData) (F : Fun K "__init__" "NoPiece.__init__" i9 f1 fd) (T : OexC K C) : FnOk P w K mg base CX0 1 f1 fd ["self", "row"] (spSet C ["row"]) :=
  ok_init1 rfl sc9 (Or.inl rfl) (Or.inl rfl) (by decide) (by decide) F T (no _ (List.mem_cons_self ..))
abbrev i10 : Stmt := inClass (top 10) 0
theorem sc10 : FnScope ["self", "told"] ["self", "told"] (defScope i10) := ⟨rfl, rfl, rfl, by decide +kernel, rfl, by decide +kernel, by decide +kernel⟩
theorem ok10 {P : Program} {w : World} {K : PySem.W.Frag} {mg : Str → Option Value} {base : Heap} {C f1 : Addr} (no : ∀ f ∈ (["told"] : List Str), PySem.W.findIn K (.ref C) f = some none) (fd : FuncData) (F : Fun K "__init__" "NoPlace.__init__" i10 f1 fd) (T : OexC K C) : FnOk P w K mg base CX0 1 f1 fd ["self", "told"] (spSet C ["told"]) :=
  ok_init1 rfl sc10 (Or.inl rfl) (Or.inl rfl) (by decide) (by decide) F T (no _ (List.mem_cons_self ..))
abbrev i11 : Stmt := inClass (top 11) 0
theorem sc11 : FnScope ["self", "kind", "number"] ["self", "kind", "number"] (defScope i11) := ⟨rfl, rfl, rfl, by decide +kernel, rfl, by decide +kernel, by decide +kernel⟩
theorem ok11 {P : Program} {w : World} {K : PySem.W.Frag} {mg : Str → Option Value} {base : Heap} {C f1 : Addr} (no : ∀ f ∈ (["kind", "number"] : List Str), PySem.W.findIn K (.ref C) f = some none) (fd : FuncData) (F : Fun K "__init__" "NoBud.__init__" i11 f1 fd) (T : OexC K C) : FnOk P w K mg base CX0 1 f1 fd ["self", "kind", "number"] (spSet C ["kind", "number"]) :=
  ok_init2 rfl sc11 (Or.inl rfl) (Or.inl rfl) (Or.inl rfl) (by decide) (by decide) (by decide) (by decide) F T (no _ (List.mem_cons_self ..)) (no _ (List.mem_cons_of_mem _ (List.mem_cons_self ..)))
abbrev i12 : Stmt := inClass (top 12) 0
theorem sc12 : FnScope ["self", "kind", "one", "other"] ["self", "kind", "one", "other"] (defScope i12) := ⟨rfl, rfl, rfl, by decide +kernel, rfl, by decide +kernel, by decide +kernel⟩
theorem ok12 {P : Program} {w : World} {K : PySem.W.Frag} {mg : Str → Option Value} {base : Heap} {C f1 : Addr} (no : ∀ f ∈ (["kind", "one", "other"] : List Str), PySem.W.findIn K (.ref C) f = some none) (fd : FuncData) (F : Fun K "__init__" "NoTie.__init__" i12 f1 fd) (T : OexC K C) : FnOk P w K mg base CX0 1 f1 fd ["self", "kind", "one", "other"] (spSet C ["kind", "one", "other"]) :=
  ok_init3 rfl sc12 (Or.inl rfl) (Or.inl rfl) (Or.inl rfl) (Or.inl rfl) (by decide) (by decide) (by decide) (by decide) (by decide) (by decide) F T (no _ (List.mem_cons_self ..)) (no _ (List.mem_cons_of_mem _ (List.mem_cons_self ..))) (no _ (List.mem_cons_of_mem _ (List.mem_cons_of_mem _ (List.mem_cons_self ..))))
abbrev i14 : Stmt := inClass (top 14) 0
theorem sc14 : FnScope ["self", "most"] ["self", "most"] (defScope i14) := ⟨rfl, rfl, rfl, by decide +kernel, rfl, by decide +kernel, by decide +kernel⟩
theorem ok14 {P : Program} {w : World} {K : PySem.W.Frag} {mg : Str → Option Value} {base : Heap} {C f1 : Addr} (no : ∀ f ∈ (["most"] : List Str), PySem.W.findIn K (.ref C) f = some none) (fd : FuncData) (F : Fun K "__init__" "TooMany.__init__" i14 f1 fd) (T : OexC K C) : FnOk P w K mg base CX0 1 f1 fd ["self", "most"] (spSet C ["most"]) :=
  ok_init1 rfl sc14 (Or.inl rfl) (Or.inl rfl) (by decide) (by decide) F T (no _ (List.mem_cons_self ..))
abbrev i15 : Stmt := inClass (top 15) 0
theorem sc15 : FnScope ["self", "number"] ["self", "number"] (defScope i15) := ⟨rfl, rfl, rfl, by decide +kernel, rfl, by decide +kernel, by decide +kernel⟩
theorem ok15 {P : Program} {w : World} {K : PySem.W.Frag} {mg : Str → Option Value} {base : Heap} {C f1 : Addr} (no : ∀ f ∈ (["number"] : List Str), PySem.W.findIn K (.ref C) f = some none) (fd : FuncData) (F : Fun K "__init__" "TooFar.__init__" i15 f1 fd) (T : OexC K C) : FnOk P w K mg base CX0 1 f1 fd ["self", "number"] (spSet C ["number"]) :=
  ok_init1 rfl sc15 (Or.inl rfl) (Or.inl rfl) (by decide) (by decide) F T (no _ (List.mem_cons_self ..))
abbrev i16 : Stmt := inClass (top 16) 0
theorem sc16 : FnScope ["self", "length"] ["self", "length"] (defScope i16) := ⟨rfl, rfl, rfl, by decide +kernel, rfl, by decide +kernel, by decide +kernel⟩
theorem ok16 {P : Program} {w : World} {K : PySem.W.Frag} {mg : Str → Option Value} {base : Heap} {C f1 : Addr} (no : ∀ f ∈ (["length"] : List Str), PySem.W.findIn K (.ref C) f = some none) (fd : FuncData) (F : Fun K "__init__" "TooLong.__init__" i16 f1 fd) (T : OexC K C) : FnOk P w K mg base CX0 1 f1 fd ["self", "length"] (spSet C ["length"]) :=
  ok_init1 rfl sc16 (Or.inl rfl) (Or.inl rfl) (by decide) (by decide) F T (no _ (List.mem_cons_self ..))
abbrev i18 : Stmt := inClass (top 18) 0
theorem sc18 : FnScope ["self", "value"] ["self", "value"] (defScope i18) := ⟨rfl, rfl, rfl, by decide +kernel, rfl, by decide +kernel, by decide +kernel⟩
theorem ok18 {P : Program} {w : World} {K : PySem.W.Frag} {mg : Str → Option Value} {base : Heap} {C f1 : Addr} (no : ∀ f ∈ (["value"] : List Str), PySem.W.findIn K (.ref C) f = some none) (fd : FuncData) (F : Fun K "__init__" "BadNumber.__init__" i18 f1 fd) (T : OexC K C) : FnOk P w K mg base CX0 1 f1 fd ["self", "value"] (spSet C ["value"]) :=
  ok_init1 rfl sc18 (Or.inl rfl) (Or.inl rfl) (by decide) (by decide) F T (no _ (List.mem_cons_self ..))
abbrev i19 : Stmt := inClass (top 19) 0
theorem sc19 : FnScope ["self", "value"] ["self", "value"] (defScope i19) := ⟨rfl, rfl, rfl, by decide +kernel, rfl, by decide +kernel, by decide +kernel⟩
theorem ok19 {P : Program} {w : World} {K : PySem.W.Frag} {mg : Str → Option Value} {base : Heap} {C f1 : Addr} (no : ∀ f ∈ (["value"] : List Str), PySem.W.findIn K (.ref C) f = some none) (fd : FuncData) (F : Fun K "__init__" "BadWord.__init__" i19 f1 fd) (T : OexC K C) : FnOk P w K mg base CX0 1 f1 fd ["self", "value"] (spSet C ["value"]) :=
  ok_init1 rfl sc19 (Or.inl rfl) (Or.inl rfl) (by decide) (by decide) F T (no _ (List.mem_cons_self ..))
abbrev i20 : Stmt := inClass (top 20) 0
theorem sc20 : FnScope ["self", "index"] ["self", "index"] (defScope i20) := ⟨rfl, rfl, rfl, by decide +kernel, rfl, by decide +kernel, by decide +kernel⟩
theorem ok20 {P : Program} {w : World} {K : PySem.W.Frag} {mg : Str → Option Value} {base : Heap} {C f1 : Addr} (no : ∀ f ∈ (["index"] : List Str), PySem.W.findIn K (.ref C) f = some none) (fd : FuncData) (F : Fun K "__init__" "BadRow.__init__" i20 f1 fd) (T : OexC K C) : FnOk P w K mg base CX0 1 f1 fd ["self", "index"] (spSet C ["index"]) :=
  ok_init1 rfl sc20 (Or.inl rfl) (Or.inl rfl) (by decide) (by decide) F T (no _ (List.mem_cons_self ..))
abbrev i21 : Stmt := inClass (top 21) 0
theorem sc21 : FnScope ["self", "number"] ["self", "number"] (defScope i21) := ⟨rfl, rfl, rfl, by decide +kernel, rfl, by decide +kernel, by decide +kernel⟩
theorem ok21 {P : Program} {w : World} {K : PySem.W.Frag} {mg : Str → Option Value} {base : Heap} {C f1 : Addr} (no : ∀ f ∈ (["number"] : List Str), PySem.W.findIn K (.ref C) f = some none) (fd : FuncData) (F : Fun K "__init__" "OutsideRow.__init__" i21 f1 fd) (T : OexC K C) : FnOk P w K mg base CX0 1 f1 fd ["self", "number"] (spSet C ["number"]) :=
  ok_init1 rfl sc21 (Or.inl rfl) (Or.inl rfl) (by decide) (by decide) F T (no _ (List.mem_cons_self ..))
abbrev i22 : Stmt := inClass (top 22) 0
theorem sc22 : FnScope ["self", "field"] ["self", "field"] (defScope i22) := ⟨rfl, rfl, rfl, by decide +kernel, rfl, by decide +kernel, by decide +kernel⟩
theorem ok22 {P : Program} {w : World} {K : PySem.W.Frag} {mg : Str → Option Value} {base : Heap} {C f1 : Addr} (no : ∀ f ∈ (["field"] : List Str), PySem.W.findIn K (.ref C) f = some none) (fd : FuncData) (F : Fun K "__init__" "BadLoop.__init__" i22 f1 fd) (T : OexC K C) : FnOk P w K mg base CX0 1 f1 fd ["self", "field"] (spSet C ["field"]) :=
  ok_init1 rfl sc22 (Or.inl rfl) (Or.inl rfl) (by decide) (by decide) F T (no _ (List.mem_cons_self ..))
abbrev i23 : Stmt := inClass (top 23) 0
theorem sc23 : FnScope ["self", "kind", "other"] ["self", "kind", "other"] (defScope i23) := ⟨rfl, rfl, rfl, by decide +kernel, rfl, by decide +kernel, by decide +kernel⟩
theorem ok23 {P : Program} {w : World} {K : PySem.W.Frag} {mg : Str → Option Value} {base : Heap} {C f1 : Addr} (no : ∀ f ∈ (["kind", "other"] : List Str), PySem.W.findIn K (.ref C) f = some none) (fd : FuncData) (F : Fun K "__init__" "NotBack.__init__" i23 f1 fd) (T : OexC K C) : FnOk P w K mg base CX0 1 f1 fd ["self", "kind", "other"] (spSet C ["kind", "other"]) :=
  ok_init2 rfl sc23 (Or.inl rfl) (Or.inl rfl) (Or.inl rfl) (by decide) (by decide) (by decide) (by decide) F T (no _ (List.mem_cons_self ..)) (no _ (List.mem_cons_of_mem _ (List.mem_cons_self ..)))
abbrev i24 : Stmt := inClass (top 24) 0
theorem sc24 : FnScope ["self", "field"] ["self", "field"] (defScope i24) := ⟨rfl, rfl, rfl, by decide +kernel, rfl, by decide +kernel, by decide +kernel⟩
theorem ok24 {P : Program} {w : World} {K : PySem.W.Frag} {mg : Str → Option Value} {base : Heap} {C f1 : Addr} (no : ∀ f ∈ (["field"] : List Str), PySem.W.findIn K (.ref C) f = some none) (fd : FuncData) (F : Fun K "__init__" "BadTimes.__init__" i24 f1 fd) (T : OexC K C) : FnOk P w K mg base CX0 1 f1 fd ["self", "field"] (spSet C ["field"]) :=
  ok_init1 rfl sc24 (Or.inl rfl) (Or.inl rfl) (by decide) (by decide) F T (no _ (List.mem_cons_self ..))
abbrev i25 : Stmt := inClass (top 25) 0
theorem sc25 : FnScope ["self", "field"] ["self", "field"] (defScope i25) := ⟨rfl, rfl, rfl, by decide +kernel, rfl, by decide +kernel, by decide +kernel⟩
theorem ok25 {P : Program} {w : World} {K : PySem.W.Frag} {mg : Str → Option Value} {base : Heap} {C f1 : Addr} (no : ∀ f ∈ (["field"] : List Str), PySem.W.findIn K (.ref C) f = some none) (fd : FuncData) (F : Fun K "__init__" "BadTale.__init__" i25 f1 fd) (T : OexC K C) : FnOk P w K mg base CX0 1 f1 fd ["self", "field"] (spSet C ["field"]) :=
  ok_init1 rfl sc25 (Or.inl rfl) (Or.inl rfl) (by decide) (by decide) F T (no _ (List.mem_cons_self ..))
abbrev i27 : Stmt := inClass (top 27) 0
theorem sc27 : FnScope ["self", "number"] ["self", "number"] (defScope i27) := ⟨rfl, rfl, rfl, by decide +kernel, rfl, by decide +kernel, by decide +kernel⟩
theorem ok27 {P : Program} {w : World} {K : PySem.W.Frag} {mg : Str → Option Value} {base : Heap} {C f1 : Addr} (no : ∀ f ∈ (["number"] : List Str), PySem.W.findIn K (.ref C) f = some none) (fd : FuncData) (F : Fun K "__init__" "NoSuch.__init__" i27 f1 fd) (T : OexC K C) : FnOk P w K mg base CX0 1 f1 fd ["self", "number"] (spSet C ["number"]) :=
  ok_init1 rfl sc27 (Or.inl rfl) (Or.inl rfl) (by decide) (by decide) F T (no _ (List.mem_cons_self ..))
abbrev i28 : Stmt := inClass (top 28) 0
theorem sc28 : FnScope ["self", "way"] ["self", "way"] (defScope i28) := ⟨rfl, rfl, rfl, by decide +kernel, rfl, by decide +kernel, by decide +kernel⟩
theorem ok28 {P : Program} {w : World} {K : PySem.W.Frag} {mg : Str → Option Value} {base : Heap} {C f1 : Addr} (no : ∀ f ∈ (["way"] : List Str), PySem.W.findIn K (.ref C) f = some none) (fd : FuncData) (F : Fun K "__init__" "NotShortest.__init__" i28 f1 fd) (T : OexC K C) : FnOk P w K mg base CX0 1 f1 fd ["self", "way"] (spSet C ["way"]) :=
  ok_init1 rfl sc28 (Or.inl rfl) (Or.inl rfl) (by decide) (by decide) F T (no _ (List.mem_cons_self ..))
abbrev i29 : Stmt := inClass (top 29) 0
theorem sc29 : FnScope ["self", "value"] ["self", "value"] (defScope i29) := ⟨rfl, rfl, rfl, by decide +kernel, rfl, by decide +kernel, by decide +kernel⟩
theorem ok29 {P : Program} {w : World} {K : PySem.W.Frag} {mg : Str → Option Value} {base : Heap} {C f1 : Addr} (no : ∀ f ∈ (["value"] : List Str), PySem.W.findIn K (.ref C) f = some none) (fd : FuncData) (F : Fun K "__init__" "NotOnAll.__init__" i29 f1 fd) (T : OexC K C) : FnOk P w K mg base CX0 1 f1 fd ["self", "value"] (spSet C ["value"]) :=
  ok_init1 rfl sc29 (Or.inl rfl) (Or.inl rfl) (by decide) (by decide) F T (no _ (List.mem_cons_self ..))
abbrev i30 : Stmt := inClass (top 30) 0
theorem sc30 : FnScope ["self", "value"] ["self", "value"] (defScope i30) := ⟨rfl, rfl, rfl, by decide +kernel, rfl, by decide +kernel, by decide +kernel⟩
theorem ok30 {P : Program} {w : World} {K : PySem.W.Frag} {mg : Str → Option Value} {base : Heap} {C f1 : Addr} (no : ∀ f ∈ (["value"] : List Str), PySem.W.findIn K (.ref C) f = some none) (fd : FuncData) (F : Fun K "__init__" "BadRule.__init__" i30 f1 fd) (T : OexC K C) : FnOk P w K mg base CX0 1 f1 fd ["self", "value"] (spSet C ["value"]) :=
  ok_init1 rfl sc30 (Or.inl rfl) (Or.inl rfl) (by decide) (by decide) F T (no _ (List.mem_cons_self ..))
abbrev i31 : Stmt := inClass (top 31) 0
theorem sc31 : FnScope ["self", "key"] ["self", "key"] (defScope i31) := ⟨rfl, rfl, rfl, by decide +kernel, rfl, by decide +kernel, by decide +kernel⟩
theorem ok31 {P : Program} {w : World} {K : PySem.W.Frag} {mg : Str → Option Value} {base : Heap} {C f1 : Addr} (no : ∀ f ∈ (["key"] : List Str), PySem.W.findIn K (.ref C) f = some none) (fd : FuncData) (F : Fun K "__init__" "BadTable.__init__" i31 f1 fd) (T : OexC K C) : FnOk P w K mg base CX0 1 f1 fd ["self", "key"] (spSet C ["key"]) :=
  ok_init1 rfl sc31 (Or.inl rfl) (Or.inl rfl) (by decide) (by decide) F T (no _ (List.mem_cons_self ..))
abbrev i33 : Stmt := inClass (top 33) 0
theorem sc33 : FnScope ["self", "value"] ["self", "value"] (defScope i33) := ⟨rfl, rfl, rfl, by decide +kernel, rfl, by decide +kernel, by decide +kernel⟩
theorem ok33 {P : Program} {w : World} {K : PySem.W.Frag} {mg : Str → Option Value} {base : Heap} {C f1 : Addr} (no : ∀ f ∈ (["value"] : List Str), PySem.W.findIn K (.ref C) f = some none) (fd : FuncData) (F : Fun K "__init__" "BadGuard.__init__" i33 f1 fd) (T : OexC K C) : FnOk P w K mg base CX0 1 f1 fd ["self", "value"] (spSet C ["value"]) :=
  ok_init1 rfl sc33 (Or.inl rfl) (Or.inl rfl) (by decide) (by decide) F T (no _ (List.mem_cons_self ..))
abbrev i34 : Stmt := inClass (top 34) 0
theorem sc34 : FnScope ["self", "guard"] ["self", "guard"] (defScope i34) := ⟨rfl, rfl, rfl, by decide +kernel, rfl, by decide +kernel, by decide +kernel⟩
theorem ok34 {P : Program} {w : World} {K : PySem.W.Frag} {mg : Str → Option Value} {base : Heap} {C f1 : Addr} (no : ∀ f ∈ (["guard"] : List Str), PySem.W.findIn K (.ref C) f = some none) (fd : FuncData) (F : Fun K "__init__" "Refused.__init__" i34 f1 fd) (T : OexC K C) : FnOk P w K mg base CX0 1 f1 fd ["self", "guard"] (spSet C ["guard"]) :=
  ok_init1 rfl sc34 (Or.inl rfl) (Or.inl rfl) (by decide) (by decide) F T (no _ (List.mem_cons_self ..))
theorem all_mk {l : PySem.W.OpenLaw} {w : World} {K : PySem.W.Frag} {h : Heap} {mg : Str → Option Value} {fa : Addr} (X : K.In h) (G : h.Ns mainGlobals mg) (hfa : mg "law" = some (.ref fa))
    {W C2 C3 C4 C5 C6 C7 C8 C9 C10 C11 C12 C14 C15 C16 C18 C19 C20 C21 C22 C23 C24 C25 C27 C28 C29 C30 C31 C33 C34 I2 I3 I4 I5 I6 I7 I8 I9 I10 I11 I12 I14 I15 I16 I18 I19 I20 I21 I22 I23 I24 I25 I27 I28 I29 I30 I31 I33 I34 C13 C17 C26 C32 C35 F37 F38 F39 F40 F41 F42 F43 F44 : Addr}
    (aW : PySem.W.nsIn K mainGlobals "WebError" = some (some (.ref W)))
    (sW : PySem.W.subIn K (.ref W) (.type "BaseException") = some true)
    (hW : PySem.W.hasDictIn K W = true)
    (tW : PySem.W.typeIn K (.ref W) = some (.type "type"))
    (E2 : ErrF K W "BadPiece" "BadPiece.__init__" i2 ["field"] C2 I2)
    (E3 : ErrF K W "BadBook" "BadBook.__init__" i3 ["kind"] C3 I3)
    (E4 : ErrF K W "BadBud" "BadBud.__init__" i4 ["kind", "number"] C4 I4)
    (E5 : ErrF K W "HandedOn" "HandedOn.__init__" i5 ["ring"] C5 I5)
    (E6 : ErrF K W "NoKind" "NoKind.__init__" i6 ["kind"] C6 I6)
    (E7 : ErrF K W "NoMouth" "NoMouth.__init__" i7 ["kind", "letter"] C7 I7)
    (E8 : ErrF K W "NoPart" "NoPart.__init__" i8 ["kind", "part"] C8 I8)
    (E9 : ErrF K W "NoPiece" "NoPiece.__init__" i9 ["row"] C9 I9)
    (E10 : ErrF K W "NoPlace" "NoPlace.__init__" i10 ["told"] C10 I10)
    (E11 : ErrF K W "NoBud" "NoBud.__init__" i11 ["kind", "number"] C11 I11)
    (E12 : ErrF K W "NoTie" "NoTie.__init__" i12 ["kind", "one", "other"] C12 I12)
    (E14 : ErrF K W "TooMany" "TooMany.__init__" i14 ["most"] C14 I14)
    (E15 : ErrF K W "TooFar" "TooFar.__init__" i15 ["number"] C15 I15)
    (E16 : ErrF K W "TooLong" "TooLong.__init__" i16 ["length"] C16 I16)
    (E18 : ErrF K W "BadNumber" "BadNumber.__init__" i18 ["value"] C18 I18)
    (E19 : ErrF K W "BadWord" "BadWord.__init__" i19 ["value"] C19 I19)
    (E20 : ErrF K W "BadRow" "BadRow.__init__" i20 ["index"] C20 I20)
    (E21 : ErrF K W "OutsideRow" "OutsideRow.__init__" i21 ["number"] C21 I21)
    (E22 : ErrF K W "BadLoop" "BadLoop.__init__" i22 ["field"] C22 I22)
    (E23 : ErrF K W "NotBack" "NotBack.__init__" i23 ["kind", "other"] C23 I23)
    (E24 : ErrF K W "BadTimes" "BadTimes.__init__" i24 ["field"] C24 I24)
    (E25 : ErrF K W "BadTale" "BadTale.__init__" i25 ["field"] C25 I25)
    (E27 : ErrF K W "NoSuch" "NoSuch.__init__" i27 ["number"] C27 I27)
    (E28 : ErrF K W "NotShortest" "NotShortest.__init__" i28 ["way"] C28 I28)
    (E29 : ErrF K W "NotOnAll" "NotOnAll.__init__" i29 ["value"] C29 I29)
    (E30 : ErrF K W "BadRule" "BadRule.__init__" i30 ["value"] C30 I30)
    (E31 : ErrF K W "BadTable" "BadTable.__init__" i31 ["key"] C31 I31)
    (E33 : ErrF K W "BadGuard" "BadGuard.__init__" i33 ["value"] C33 I33)
    (E34 : ErrF K W "Refused" "Refused.__init__" i34 ["guard"] C34 I34)
    (Z13 : Cls0 K "OtherBook" C13)
    (Z17 : Cls0 K "TooGreat" C17)
    (Z26 : Cls0 K "NotJoined" C26)
    (Z32 : Cls0 K "Endless" C32)
    (Z35 : Cls0 K "NothingToUndo" C35)
    (r13 : PySem.W.subIn K (.ref C13) (.ref W) = some true)
    (r14 : PySem.W.subIn K (.ref C14) (.ref W) = some true)
    (r5 : PySem.W.subIn K (.ref C5) (.ref W) = some true)
    (r12 : PySem.W.subIn K (.ref C12) (.ref W) = some true)
    (r32 : PySem.W.subIn K (.ref C32) (.ref W) = some true)
    (L13 : Is1 K W C13 [.ref C13, .ref C2, .ref C12, .ref C26] true)
    (L17 : Is1 K W C17 [.ref C13, .ref C2, .ref C12, .ref C26] false)
    (L26 : Is1 K W C26 [.ref C13, .ref C2, .ref C12, .ref C26] true)
    (L32 : Is1 K W C32 [.ref C13, .ref C2, .ref C12, .ref C26] false)
    (L35 : Is1 K W C35 [.ref C13, .ref C2, .ref C12, .ref C26] false)
    (L2 : Is1 K W C2 [.ref C13, .ref C2, .ref C12, .ref C26] true)
    (L12 : Is1 K W C12 [.ref C13, .ref C2, .ref C12, .ref C26] true)
    (L6 : Is1 K W C6 [.ref C13, .ref C2, .ref C12, .ref C26] false)
    (hn : PySem.W.specialIn K (.builtin "object.__class__") "__get__" = some (some (.builtin "getset_descriptor.__get__")))
    (ht : PySem.W.takesIn K (.builtin "object.__class__") = some true)
    (D37 : DefF K "_law_pen" sPen F37)
    (D38 : DefF K "_law_draw" sDraw F38)
    (D39 : DefF K "_law_pick" sPick F39)
    (D40 : DefF K "_law_alone" sAlone F40)
    (D41 : DefF K "_law_more" sMore F41)
    (D42 : DefF K "_law_raise" sRaise F42)
    (D43 : DefF K "_law_caught" sCaught F43)
    (D44 : DefF K "law" sLaw F44)
    (b_list : PySem.W.nsIn K mainGlobals "list" = some none)
    (b_int : PySem.W.nsIn K mainGlobals "int" = some none)
    (b_len : PySem.W.nsIn K mainGlobals "len" = some none)
    (b_range : PySem.W.nsIn K mainGlobals "range" = some none)
    (b_min : PySem.W.nsIn K mainGlobals "min" = some none)
    (b_isinstance : PySem.W.nsIn K mainGlobals "isinstance" = some none)
    (b_bool : PySem.W.nsIn K mainGlobals "bool" = some none)
    (b_ValueError : PySem.W.nsIn K mainGlobals "ValueError" = some none)
    (b_sum : PySem.W.nsIn K mainGlobals "sum" = some none)
    (b_all : PySem.W.nsIn K mainGlobals "all" = some none) :
    ∃ fd : FuncData, (∀ (s : Shared) (v : Value), BindsTo s fd ⟨[v], []⟩ [("_law_script", v)]) ∧ ∀ base : Heap, K.In base → base.Ns mainGlobals mg → FnOk l.prog w K mg base CX0 7 fa fd ["_law_script"] (spLaw K) := by
  have e := hfa.symm.trans (PySem.W.mg_of X G D44.a)
  cases e
  obtain ⟨cs, hcs⟩ : ∃ cs : List Addr, cs = [0, W, C2, C3, C4, C5, C6, C7, C8, C9, C10, C11, C12, C13, C14, C15, C16, C17, C18, C19, C20, C21, C22, C23, C24, C25, C26, C27, C28, C29, C30, C31, C32, C33, C34, C35] := ⟨_, rfl⟩
  have q1 : ca cs 1 = W := by rw [hcs]; rfl
  have q2 : ca cs 2 = C2 := by rw [hcs]; rfl
  have q3 : ca cs 3 = C3 := by rw [hcs]; rfl
  have q4 : ca cs 4 = C4 := by rw [hcs]; rfl
  have q5 : ca cs 5 = C5 := by rw [hcs]; rfl
  have q6 : ca cs 6 = C6 := by rw [hcs]; rfl
  have q7 : ca cs 7 = C7 := by rw [hcs]; rfl
  have q8 : ca cs 8 = C8 := by rw [hcs]; rfl
  have q9 : ca cs 9 = C9 := by rw [hcs]; rfl
  have q10 : ca cs 10 = C10 := by rw [hcs]; rfl
  have q11 : ca cs 11 = C11 := by rw [hcs]; rfl
  have q12 : ca cs 12 = C12 := by rw [hcs]; rfl
  have q13 : ca cs 13 = C13 := by rw [hcs]; rfl
  have q14 : ca cs 14 = C14 := by rw [hcs]; rfl
  have q15 : ca cs 15 = C15 := by rw [hcs]; rfl
  have q16 : ca cs 16 = C16 := by rw [hcs]; rfl
  have q17 : ca cs 17 = C17 := by rw [hcs]; rfl
  have q18 : ca cs 18 = C18 := by rw [hcs]; rfl
  have q19 : ca cs 19 = C19 := by rw [hcs]; rfl
  have q20 : ca cs 20 = C20 := by rw [hcs]; rfl
  have q21 : ca cs 21 = C21 := by rw [hcs]; rfl
  have q22 : ca cs 22 = C22 := by rw [hcs]; rfl
  have q23 : ca cs 23 = C23 := by rw [hcs]; rfl
  have q24 : ca cs 24 = C24 := by rw [hcs]; rfl
  have q25 : ca cs 25 = C25 := by rw [hcs]; rfl
  have q26 : ca cs 26 = C26 := by rw [hcs]; rfl
  have q27 : ca cs 27 = C27 := by rw [hcs]; rfl
  have q28 : ca cs 28 = C28 := by rw [hcs]; rfl
  have q29 : ca cs 29 = C29 := by rw [hcs]; rfl
  have q30 : ca cs 30 = C30 := by rw [hcs]; rfl
  have q31 : ca cs 31 = C31 := by rw [hcs]; rfl
  have q32 : ca cs 32 = C32 := by rw [hcs]; rfl
  have q33 : ca cs 33 = C33 := by rw [hcs]; rfl
  have q34 : ca cs 34 = C34 := by rw [hcs]; rfl
  have q35 : ca cs 35 = C35 := by rw [hcs]; rfl
  have T : ∀ base : Heap, Errs l.prog w K mg base cs := fun base => {
    eBadPiece := by rw [q2]; exact E2.err X G (ok2 E2.no) fun _ _ _ _ _ _ us ws h0 hl => match us, ws, h0, hl with | [_], [_], _, _ => rfl | [_, _], [], _, _ => rfl
    eBadBook := by rw [q3]; exact E3.err X G (ok3 E3.no) fun _ _ _ _ _ _ us ws h0 hl => match us, ws, h0, hl with | [_], [_], _, _ => rfl | [_, _], [], _, _ => rfl
    eBadBud := by rw [q4]; exact E4.err X G (ok4 E4.no) fun _ _ _ _ _ _ us ws h0 hl => match us, ws, h0, hl with | [_], [_, _], _, _ => rfl | [_, _], [_], _, _ => rfl | [_, _, _], [], _, _ => rfl
    eHandedOn := by rw [q5]; exact E5.err X G (ok5 E5.no) fun _ _ _ _ _ _ us ws h0 hl => match us, ws, h0, hl with | [_], [_], _, _ => rfl | [_, _], [], _, _ => rfl
    eNoKind := by rw [q6]; exact E6.err X G (ok6 E6.no) fun _ _ _ _ _ _ us ws h0 hl => match us, ws, h0, hl with | [_], [_], _, _ => rfl | [_, _], [], _, _ => rfl
    eNoMouth := by rw [q7]; exact E7.err X G (ok7 E7.no) fun _ _ _ _ _ _ us ws h0 hl => match us, ws, h0, hl with | [_], [_, _], _, _ => rfl | [_, _], [_], _, _ => rfl | [_, _, _], [], _, _ => rfl
    eNoPart := by rw [q8]; exact E8.err X G (ok8 E8.no) fun _ _ _ _ _ _ us ws h0 hl => match us, ws, h0, hl with | [_], [_, _], _, _ => rfl | [_, _], [_], _, _ => rfl | [_, _, _], [], _, _ => rfl
    eNoPiece := by rw [q9]; exact E9.err X G (ok9 E9.no) fun _ _ _ _ _ _ us ws h0 hl => match us, ws, h0, hl with | [_], [_], _, _ => rfl | [_, _], [], _, _ => rfl
    eNoPlace := by rw [q10]; exact E10.err X G (ok10 E10.no) fun _ _ _ _ _ _ us ws h0 hl => match us, ws, h0, hl with | [_], [_], _, _ => rfl | [_, _], [], _, _ => rfl
    eNoBud := by rw [q11]; exact E11.err X G (ok11 E11.no) fun _ _ _ _ _ _ us ws h0 hl => match us, ws, h0, hl with | [_], [_, _], _, _ => rfl | [_, _], [_], _, _ => rfl | [_, _, _], [], _, _ => rfl
    eNoTie := by rw [q12]; exact E12.err X G (ok12 E12.no) fun _ _ _ _ _ _ us ws h0 hl => match us, ws, h0, hl with | [_], [_, _, _], _, _ => rfl | [_, _], [_, _], _, _ => rfl | [_, _, _], [_], _, _ => rfl | [_, _, _, _], [], _, _ => rfl
    eTooMany := by rw [q14]; exact E14.err X G (ok14 E14.no) fun _ _ _ _ _ _ us ws h0 hl => match us, ws, h0, hl with | [_], [_], _, _ => rfl | [_, _], [], _, _ => rfl
    eTooFar := by rw [q15]; exact E15.err X G (ok15 E15.no) fun _ _ _ _ _ _ us ws h0 hl => match us, ws, h0, hl with | [_], [_], _, _ => rfl | [_, _], [], _, _ => rfl
    eTooLong := by rw [q16]; exact E16.err X G (ok16 E16.no) fun _ _ _ _ _ _ us ws h0 hl => match us, ws, h0, hl with | [_], [_], _, _ => rfl | [_, _], [], _, _ => rfl
    eBadNumber := by rw [q18]; exact E18.err X G (ok18 E18.no) fun _ _ _ _ _ _ us ws h0 hl => match us, ws, h0, hl with | [_], [_], _, _ => rfl | [_, _], [], _, _ => rfl
    eBadWord := by rw [q19]; exact E19.err X G (ok19 E19.no) fun _ _ _ _ _ _ us ws h0 hl => match us, ws, h0, hl with | [_], [_], _, _ => rfl | [_, _], [], _, _ => rfl
    eBadRow := by rw [q20]; exact E20.err X G (ok20 E20.no) fun _ _ _ _ _ _ us ws h0 hl => match us, ws, h0, hl with | [_], [_], _, _ => rfl | [_, _], [], _, _ => rfl
    eOutsideRow := by rw [q21]; exact E21.err X G (ok21 E21.no) fun _ _ _ _ _ _ us ws h0 hl => match us, ws, h0, hl with | [_], [_], _, _ => rfl | [_, _], [], _, _ => rfl
    eBadLoop := by rw [q22]; exact E22.err X G (ok22 E22.no) fun _ _ _ _ _ _ us ws h0 hl => match us, ws, h0, hl with | [_], [_], _, _ => rfl | [_, _], [], _, _ => rfl
    eNotBack := by rw [q23]; exact E23.err X G (ok23 E23.no) fun _ _ _ _ _ _ us ws h0 hl => match us, ws, h0, hl with | [_], [_, _], _, _ => rfl | [_, _], [_], _, _ => rfl | [_, _, _], [], _, _ => rfl
    eBadTimes := by rw [q24]; exact E24.err X G (ok24 E24.no) fun _ _ _ _ _ _ us ws h0 hl => match us, ws, h0, hl with | [_], [_], _, _ => rfl | [_, _], [], _, _ => rfl
    eBadTale := by rw [q25]; exact E25.err X G (ok25 E25.no) fun _ _ _ _ _ _ us ws h0 hl => match us, ws, h0, hl with | [_], [_], _, _ => rfl | [_, _], [], _, _ => rfl
    eNoSuch := by rw [q27]; exact E27.err X G (ok27 E27.no) fun _ _ _ _ _ _ us ws h0 hl => match us, ws, h0, hl with | [_], [_], _, _ => rfl | [_, _], [], _, _ => rfl
    eNotShortest := by rw [q28]; exact E28.err X G (ok28 E28.no) fun _ _ _ _ _ _ us ws h0 hl => match us, ws, h0, hl with | [_], [_], _, _ => rfl | [_, _], [], _, _ => rfl
    eNotOnAll := by rw [q29]; exact E29.err X G (ok29 E29.no) fun _ _ _ _ _ _ us ws h0 hl => match us, ws, h0, hl with | [_], [_], _, _ => rfl | [_, _], [], _, _ => rfl
    eBadRule := by rw [q30]; exact E30.err X G (ok30 E30.no) fun _ _ _ _ _ _ us ws h0 hl => match us, ws, h0, hl with | [_], [_], _, _ => rfl | [_, _], [], _, _ => rfl
    eBadTable := by rw [q31]; exact E31.err X G (ok31 E31.no) fun _ _ _ _ _ _ us ws h0 hl => match us, ws, h0, hl with | [_], [_], _, _ => rfl | [_, _], [], _, _ => rfl
    eBadGuard := by rw [q33]; exact E33.err X G (ok33 E33.no) fun _ _ _ _ _ _ us ws h0 hl => match us, ws, h0, hl with | [_], [_], _, _ => rfl | [_, _], [], _, _ => rfl
    eRefused := by rw [q34]; exact E34.err X G (ok34 E34.no) fun _ _ _ _ _ _ us ws h0 hl => match us, ws, h0, hl with | [_], [_], _, _ => rfl | [_, _], [], _, _ => rfl
  }
  have Z : Clss K mg cs := {
    web := by rw [q1]; exact PySem.W.mg_of X G aW
    e13 := by rw [q13]; exact Z13.err X G
    e17 := by rw [q17]; exact Z17.err X G
    e26 := by rw [q26]; exact Z26.err X G
    e32 := by rw [q32]; exact Z32.err X G
    e35 := by rw [q35]; exact Z35.err X G
    exm := fun i hi => by
      simp only [raised, List.mem_cons, List.not_mem_nil, or_false] at hi
      rcases hi with z | z | z | z | z <;> subst z
      · rw [q13, q1]; exact PySem.W.exm_ref sW hW tW r13
      · rw [q14, q1]; exact PySem.W.exm_ref sW hW tW r14
      · rw [q5, q1]; exact PySem.W.exm_ref sW hW tW r5
      · rw [q12, q1]; exact PySem.W.exm_ref sW hW tW r12
      · rw [q32, q1]; exact PySem.W.exm_ref sW hW tW r32
  }
  have J : Isi K cs := {
    ex := fun i hi => by
      simp only [lotI, List.mem_cons, List.not_mem_nil, or_false] at hi
      rcases hi with z | z | z | z | z | z | z | z <;> subst z
      · rw [q13]; exact mkC Z13.is L13 hn ht
      · rw [q17]; exact mkC Z17.is L17 hn ht
      · rw [q26]; exact mkC Z26.is L26 hn ht
      · rw [q32]; exact mkC Z32.is L32 hn ht
      · rw [q35]; exact mkC Z35.is L35 hn ht
      · rw [q2]; exact mkC ⟨E2.ga, E2.gg, E2.eC, E2.hC⟩ L2 hn ht
      · rw [q12]; exact mkC ⟨E12.ga, E12.gg, E12.eC, E12.hC⟩ L12 hn ht
      · rw [q6]; exact mkC ⟨E6.ga, E6.gg, E6.eC, E6.hC⟩ L6 hn ht
    web := fun i hi => by
      simp only [lotI, List.mem_cons, List.not_mem_nil, or_false] at hi
      rcases hi with z | z | z | z | z | z | z | z <;> subst z
      · rw [q13, q1]; exact L13.web
      · rw [q17, q1]; exact L17.web
      · rw [q26, q1]; exact L26.web
      · rw [q32, q1]; exact L32.web
      · rw [q35, q1]; exact L35.web
      · rw [q2, q1]; exact L2.web
      · rw [q12, q1]; exact L12.web
      · rw [q6, q1]; exact L6.web
    ve := fun i hi => by
      simp only [lotI, List.mem_cons, List.not_mem_nil, or_false] at hi
      rcases hi with z | z | z | z | z | z | z | z <;> subst z
      · rw [q13]; exact L13.ve
      · rw [q17]; exact L17.ve
      · rw [q26]; exact L26.ve
      · rw [q32]; exact L32.ve
      · rw [q35]; exact L35.ve
      · rw [q2]; exact L2.ve
      · rw [q12]; exact L12.ve
      · rw [q6]; exact L6.ve
    any := fun j b i hi hb => by
      rw [q13, q2, q12, q26]
      match j, hi, hb with
      | 0, hi, hb => obtain rfl : 13 = i := Option.some.inj hi; obtain rfl : true = b := Option.some.inj hb; rw [q13]; exact L13.any
      | 1, hi, hb => obtain rfl : 17 = i := Option.some.inj hi; obtain rfl : false = b := Option.some.inj hb; rw [q17]; exact L17.any
      | 2, hi, hb => obtain rfl : 26 = i := Option.some.inj hi; obtain rfl : true = b := Option.some.inj hb; rw [q26]; exact L26.any
      | 3, hi, hb => obtain rfl : 32 = i := Option.some.inj hi; obtain rfl : false = b := Option.some.inj hb; rw [q32]; exact L32.any
      | 4, hi, hb => obtain rfl : 35 = i := Option.some.inj hi; obtain rfl : false = b := Option.some.inj hb; rw [q35]; exact L35.any
      | 5, hi, hb => obtain rfl : 2 = i := Option.some.inj hi; obtain rfl : true = b := Option.some.inj hb; rw [q2]; exact L2.any
      | 6, hi, hb => obtain rfl : 12 = i := Option.some.inj hi; obtain rfl : true = b := Option.some.inj hb; rw [q12]; exact L12.any
      | 7, hi, hb => obtain rfl : 6 = i := Option.some.inj hi; obtain rfl : false = b := Option.some.inj hb; rw [q6]; exact L6.any
      | _ + 8, hi, hb => simp [lotI] at hi
  }
  have B : Blt mg := ⟨PySem.W.mg_none_of X G b_list, PySem.W.mg_none_of X G b_int, PySem.W.mg_none_of X G b_len, PySem.W.mg_none_of X G b_range, PySem.W.mg_none_of X G b_min, PySem.W.mg_none_of X G b_isinstance, PySem.W.mg_none_of X G b_bool, PySem.W.mg_none_of X G b_ValueError, PySem.W.mg_none_of X G b_sum, PySem.W.mg_none_of X G b_all⟩
  obtain ⟨oc37, od37, kV37, doc37, pm37, an37, cd37, ct37, sl37, l37, c37⟩ := D37.l
  have F37 := fun_mk (st := sPen) l37 c37 D37.k
  have A37 : At K mg "_law_pen" _ _ ["_law_script"] := ⟨PySem.W.mg_of X G D37.a, D37.k, F37.binds (ps := ["_law_script"]) fun _ _ _ _ _ _ us hl => match us, hl with | [_], _ => rfl⟩
  obtain ⟨oc38, od38, kV38, doc38, pm38, an38, cd38, ct38, sl38, l38, c38⟩ := D38.l
  have F38 := fun_mk (st := sDraw) l38 c38 D38.k
  have A38 : At K mg "_law_draw" _ _ ["_law_pen_here", "_law_many"] := ⟨PySem.W.mg_of X G D38.a, D38.k, F38.binds (ps := ["_law_pen_here", "_law_many"]) fun _ _ _ _ _ _ us hl => match us, hl with | [_, _], _ => rfl⟩
  obtain ⟨oc39, od39, kV39, doc39, pm39, an39, cd39, ct39, sl39, l39, c39⟩ := D39.l
  have F39 := fun_mk (st := sPick) l39 c39 D39.k
  have A39 : At K mg "_law_pick" _ _ nmPick := ⟨PySem.W.mg_of X G D39.a, D39.k, F39.binds (ps := nmPick) fun _ _ _ _ _ _ us hl => match us, hl with | [_, _], _ => rfl⟩
  obtain ⟨oc40, od40, kV40, doc40, pm40, an40, cd40, ct40, sl40, l40, c40⟩ := D40.l
  have F40 := fun_mk (st := sAlone) l40 c40 D40.k
  have A40 : At K mg "_law_alone" _ _ ["_law_a"] := ⟨PySem.W.mg_of X G D40.a, D40.k, F40.binds (ps := ["_law_a"]) fun _ _ _ _ _ _ us hl => match us, hl with | [_], _ => rfl⟩
  obtain ⟨oc41, od41, kV41, doc41, pm41, an41, cd41, ct41, sl41, l41, c41⟩ := D41.l
  have F41 := fun_mk (st := sMore) l41 c41 D41.k
  have A41 : At K mg "_law_more" _ _ ["_law_a", "_law_b"] := ⟨PySem.W.mg_of X G D41.a, D41.k, F41.binds (ps := ["_law_a", "_law_b"]) fun _ _ _ _ _ _ us hl => match us, hl with | [_, _], _ => rfl⟩
  obtain ⟨oc42, od42, kV42, doc42, pm42, an42, cd42, ct42, sl42, l42, c42⟩ := D42.l
  have F42 := fun_mk (st := sRaise) l42 c42 D42.k
  have A42 : At K mg "_law_raise" _ _ ["_law_which", "_law_a"] := ⟨PySem.W.mg_of X G D42.a, D42.k, F42.binds (ps := ["_law_which", "_law_a"]) fun _ _ _ _ _ _ us hl => match us, hl with | [_, _], _ => rfl⟩
  obtain ⟨oc43, od43, kV43, doc43, pm43, an43, cd43, ct43, sl43, l43, c43⟩ := D43.l
  have F43 := fun_mk (st := sCaught) l43 c43 D43.k
  have A43 : At K mg "_law_caught" _ _ ["_law_which", "_law_a"] := ⟨PySem.W.mg_of X G D43.a, D43.k, F43.binds (ps := ["_law_which", "_law_a"]) fun _ _ _ _ _ _ us hl => match us, hl with | [_, _], _ => rfl⟩
  obtain ⟨oc44, od44, kV44, doc44, pm44, an44, cd44, ct44, sl44, l44, c44⟩ := D44.l
  have F44 := fun_mk (st := sLaw) l44 c44 D44.k
  refine ⟨PySem.W.fnOf "law" "law" (defArgs sLaw) (defBody sLaw) (defScope sLaw) .none kV44 doc44 pm44 an44 cd44 ct44, fun s v => .of_eq rfl, fun base _ _ => ?_⟩
  have GD := ok_draw (P := l.prog) (w := w) (mg := mg) (base := base) F38 B.zInt B.zLen
  exact ok_law F44 (T base) Z J B (ok_pen F37 B.zList) A37 (ok_pick F39 B.zLen GD A38) A39 (ok_alone F40 (T base)) A40 (ok_more F41 (T base)) A41 (ok_caught F43 Z (ok_raise F42 (T base) Z) A42) A43
theorem walk {l : PySem.W.OpenLaw} {q : Program} {loose : List Str} {XP : (Str → Option Value) → Heap → Prop} {YP : World → Heap → Prop} {d : DefRec} {K : Params → PySem.W.Frag} (hn : l.most = some 63) (hdf : d.params.defaults = [])
    (hY : ∀ (w : World) (h : Heap), YP w h → (K w.params).In h)
    (F : ∀ (w : World) (mg : Str → Option Value) (fa : Addr) (h : Heap), (K w.params).In h → h.Ns mainGlobals mg → mg d.name = some (.ref fa) →
      ∃ fd : FuncData, (∀ (s : Shared) (u : Value), BindsTo s fd ⟨[u], []⟩ [("_law_script", u)]) ∧ ∀ base : Heap, (K w.params).In base → base.Ns mainGlobals mg → FnOk l.prog w (K w.params) mg base CX0 7 fa fd ["_law_script"] (spLaw (K w.params))) :
    PySem.W.WalkO q loose XP YP l.row.toRowW d [] (fun f vs => PySem.call f vs) :=
  L2.walk_of (n := 63) (k := 7) (x := "_law_script") (CX := fun _ => CX0) (sp := fun w => spLaw (K w.params)) hn (by decide) hdf ⟨rfl, by decide, by decide⟩ hY F (fun _ _ a ns hl _ hS => ⟨a, ns, rfl, hS, hl, fun _ => rfl⟩) fun _ _ _ _ _ z => z
end K00
open PySem PySem.W PyProof.Rows
set_option maxRecDepth 100000 in
set_option maxHeartbeats 0 in
theorem PySem.Challenge.cw_growwebs_k00_errors_made_by_hand_holds : PySem.Challenge.rw_growwebs_k00_errors_made_by_hand.Holds := by
  w_on; o_law; k_headL; (case hw => w_witness2)
  k_fill
  refine K00.walk (l := PySem.Challenge.rw_growwebs_k00_errors_made_by_hand) rfl rfl (fun w h Y => PySem.W.kIn_of Y) ?F
  case F =>
    intro w mg fa h KX G hmg
    refine' K00.all_mk KX G hmg ?aW ?sW ?hW ?tW ?E2 ?E3 ?E4 ?E5 ?E6 ?E7 ?E8 ?E9 ?E10 ?E11 ?E12 ?E14 ?E15 ?E16 ?E18 ?E19 ?E20 ?E21 ?E22 ?E23 ?E24 ?E25 ?E27 ?E28 ?E29 ?E30 ?E31 ?E33 ?E34 ?Z13 ?Z17 ?Z26 ?Z32 ?Z35 ?r13 ?r14 ?r5 ?r12 ?r32 ?L13 ?L17 ?L26 ?L32 ?L35 ?L2 ?L12 ?L6 ?hn ?ht ?D37 ?D38 ?D39 ?D40 ?D41 ?D42 ?D43 ?D44 ?b_list ?b_int ?b_len ?b_range ?b_min ?b_isinstance ?b_bool ?b_ValueError ?b_sum ?b_all
    (case aW => k_is)
    (case sW => k_is)
    (case hW => k_is)
    (case tW => k_is)
    (case E2 => (refine' K00.ErrF.mk ?aC (K00.xl_mk ?xL) ?sa ?ga ?gg (K00.all1 ?n1) ?a1 ?t1 (K00.l_mk ?l1 ?c1) ?k1 ?kC ?eC ?tC ?hC; (case aC => k_is); (case xL => k_is); (case sa => k_is); (case ga => k_is); (case gg => k_is); (case n1 => k_is); (case a1 => k_is); (case t1 => k_is); (case l1 => k_is); (case c1 => k_is); (case k1 => k_is); (case kC => k_is); (case eC => k_is); (case tC => k_is); (case hC => k_is)))
    (case E3 => (refine' K00.ErrF.mk ?aC (K00.xl_mk ?xL) ?sa ?ga ?gg (K00.all1 ?n1) ?a1 ?t1 (K00.l_mk ?l1 ?c1) ?k1 ?kC ?eC ?tC ?hC; (case aC => k_is); (case xL => k_is); (case sa => k_is); (case ga => k_is); (case gg => k_is); (case n1 => k_is); (case a1 => k_is); (case t1 => k_is); (case l1 => k_is); (case c1 => k_is); (case k1 => k_is); (case kC => k_is); (case eC => k_is); (case tC => k_is); (case hC => k_is)))
    (case E4 => (refine' K00.ErrF.mk ?aC (K00.xl_mk ?xL) ?sa ?ga ?gg (K00.all2 ?n1 ?n2) ?a1 ?t1 (K00.l_mk ?l1 ?c1) ?k1 ?kC ?eC ?tC ?hC; (case aC => k_is); (case xL => k_is); (case sa => k_is); (case ga => k_is); (case gg => k_is); (case n1 => k_is); (case n2 => k_is); (case a1 => k_is); (case t1 => k_is); (case l1 => k_is); (case c1 => k_is); (case k1 => k_is); (case kC => k_is); (case eC => k_is); (case tC => k_is); (case hC => k_is)))
    (case E5 => (refine' K00.ErrF.mk ?aC (K00.xl_mk ?xL) ?sa ?ga ?gg (K00.all1 ?n1) ?a1 ?t1 (K00.l_mk ?l1 ?c1) ?k1 ?kC ?eC ?tC ?hC; (case aC => k_is); (case xL => k_is); (case sa => k_is); (case ga => k_is); (case gg => k_is); (case n1 => k_is); (case a1 => k_is); (case t1 => k_is); (case l1 => k_is); (case c1 => k_is); (case k1 => k_is); (case kC => k_is); (case eC => k_is); (case tC => k_is); (case hC => k_is)))
    (case E6 => (refine' K00.ErrF.mk ?aC (K00.xl_mk ?xL) ?sa ?ga ?gg (K00.all1 ?n1) ?a1 ?t1 (K00.l_mk ?l1 ?c1) ?k1 ?kC ?eC ?tC ?hC; (case aC => k_is); (case xL => k_is); (case sa => k_is); (case ga => k_is); (case gg => k_is); (case n1 => k_is); (case a1 => k_is); (case t1 => k_is); (case l1 => k_is); (case c1 => k_is); (case k1 => k_is); (case kC => k_is); (case eC => k_is); (case tC => k_is); (case hC => k_is)))
    (case E7 => (refine' K00.ErrF.mk ?aC (K00.xl_mk ?xL) ?sa ?ga ?gg (K00.all2 ?n1 ?n2) ?a1 ?t1 (K00.l_mk ?l1 ?c1) ?k1 ?kC ?eC ?tC ?hC; (case aC => k_is); (case xL => k_is); (case sa => k_is); (case ga => k_is); (case gg => k_is); (case n1 => k_is); (case n2 => k_is); (case a1 => k_is); (case t1 => k_is); (case l1 => k_is); (case c1 => k_is); (case k1 => k_is); (case kC => k_is); (case eC => k_is); (case tC => k_is); (case hC => k_is)))
    (case E8 => (refine' K00.ErrF.mk ?aC (K00.xl_mk ?xL) ?sa ?ga ?gg (K00.all2 ?n1 ?n2) ?a1 ?t1 (K00.l_mk ?l1 ?c1) ?k1 ?kC ?eC ?tC ?hC; (case aC => k_is); (case xL => k_is); (case sa => k_is); (case ga => k_is); (case gg => k_is); (case n1 => k_is); (case n2 => k_is); (case a1 => k_is); (case t1 => k_is); (case l1 => k_is); (case c1 => k_is); (case k1 => k_is); (case kC => k_is); (case eC => k_is); (case tC => k_is); (case hC => k_is)))
    (case E9 => (refine' K00.ErrF.mk ?aC (K00.xl_mk ?xL) ?sa ?ga ?gg (K00.all1 ?n1) ?a1 ?t1 (K00.l_mk ?l1 ?c1) ?k1 ?kC ?eC ?tC ?hC; (case aC => k_is); (case xL => k_is); (case sa => k_is); (case ga => k_is); (case gg => k_is); (case n1 => k_is); (case a1 => k_is); (case t1 => k_is); (case l1 => k_is); (case c1 => k_is); (case k1 => k_is); (case kC => k_is); (case eC => k_is); (case tC => k_is); (case hC => k_is)))
    (case E10 => (refine' K00.ErrF.mk ?aC (K00.xl_mk ?xL) ?sa ?ga ?gg (K00.all1 ?n1) ?a1 ?t1 (K00.l_mk ?l1 ?c1) ?k1 ?kC ?eC ?tC ?hC; (case aC => k_is); (case xL => k_is); (case sa => k_is); (case ga => k_is); (case gg => k_is); (case n1 => k_is); (case a1 => k_is); (case t1 => k_is); (case l1 => k_is); (case c1 => k_is); (case k1 => k_is); (case kC => k_is); (case eC => k_is); (case tC => k_is); (case hC => k_is)))
    (case E11 => (refine' K00.ErrF.mk ?aC (K00.xl_mk ?xL) ?sa ?ga ?gg (K00.all2 ?n1 ?n2) ?a1 ?t1 (K00.l_mk ?l1 ?c1) ?k1 ?kC ?eC ?tC ?hC; (case aC => k_is); (case xL => k_is); (case sa => k_is); (case ga => k_is); (case gg => k_is); (case n1 => k_is); (case n2 => k_is); (case a1 => k_is); (case t1 => k_is); (case l1 => k_is); (case c1 => k_is); (case k1 => k_is); (case kC => k_is); (case eC => k_is); (case tC => k_is); (case hC => k_is)))
    (case E12 => (refine' K00.ErrF.mk ?aC (K00.xl_mk ?xL) ?sa ?ga ?gg (K00.all3 ?n1 ?n2 ?n3) ?a1 ?t1 (K00.l_mk ?l1 ?c1) ?k1 ?kC ?eC ?tC ?hC; (case aC => k_is); (case xL => k_is); (case sa => k_is); (case ga => k_is); (case gg => k_is); (case n1 => k_is); (case n2 => k_is); (case n3 => k_is); (case a1 => k_is); (case t1 => k_is); (case l1 => k_is); (case c1 => k_is); (case k1 => k_is); (case kC => k_is); (case eC => k_is); (case tC => k_is); (case hC => k_is)))
    (case E14 => (refine' K00.ErrF.mk ?aC (K00.xl_mk ?xL) ?sa ?ga ?gg (K00.all1 ?n1) ?a1 ?t1 (K00.l_mk ?l1 ?c1) ?k1 ?kC ?eC ?tC ?hC; (case aC => k_is); (case xL => k_is); (case sa => k_is); (case ga => k_is); (case gg => k_is); (case n1 => k_is); (case a1 => k_is); (case t1 => k_is); (case l1 => k_is); (case c1 => k_is); (case k1 => k_is); (case kC => k_is); (case eC => k_is); (case tC => k_is); (case hC => k_is)))
    (case E15 => (refine' K00.ErrF.mk ?aC (K00.xl_mk ?xL) ?sa ?ga ?gg (K00.all1 ?n1) ?a1 ?t1 (K00.l_mk ?l1 ?c1) ?k1 ?kC ?eC ?tC ?hC; (case aC => k_is); (case xL => k_is); (case sa => k_is); (case ga => k_is); (case gg => k_is); (case n1 => k_is); (case a1 => k_is); (case t1 => k_is); (case l1 => k_is); (case c1 => k_is); (case k1 => k_is); (case kC => k_is); (case eC => k_is); (case tC => k_is); (case hC => k_is)))
    (case E16 => (refine' K00.ErrF.mk ?aC (K00.xl_mk ?xL) ?sa ?ga ?gg (K00.all1 ?n1) ?a1 ?t1 (K00.l_mk ?l1 ?c1) ?k1 ?kC ?eC ?tC ?hC; (case aC => k_is); (case xL => k_is); (case sa => k_is); (case ga => k_is); (case gg => k_is); (case n1 => k_is); (case a1 => k_is); (case t1 => k_is); (case l1 => k_is); (case c1 => k_is); (case k1 => k_is); (case kC => k_is); (case eC => k_is); (case tC => k_is); (case hC => k_is)))
    (case E18 => (refine' K00.ErrF.mk ?aC (K00.xl_mk ?xL) ?sa ?ga ?gg (K00.all1 ?n1) ?a1 ?t1 (K00.l_mk ?l1 ?c1) ?k1 ?kC ?eC ?tC ?hC; (case aC => k_is); (case xL => k_is); (case sa => k_is); (case ga => k_is); (case gg => k_is); (case n1 => k_is); (case a1 => k_is); (case t1 => k_is); (case l1 => k_is); (case c1 => k_is); (case k1 => k_is); (case kC => k_is); (case eC => k_is); (case tC => k_is); (case hC => k_is)))
    (case E19 => (refine' K00.ErrF.mk ?aC (K00.xl_mk ?xL) ?sa ?ga ?gg (K00.all1 ?n1) ?a1 ?t1 (K00.l_mk ?l1 ?c1) ?k1 ?kC ?eC ?tC ?hC; (case aC => k_is); (case xL => k_is); (case sa => k_is); (case ga => k_is); (case gg => k_is); (case n1 => k_is); (case a1 => k_is); (case t1 => k_is); (case l1 => k_is); (case c1 => k_is); (case k1 => k_is); (case kC => k_is); (case eC => k_is); (case tC => k_is); (case hC => k_is)))
    (case E20 => (refine' K00.ErrF.mk ?aC (K00.xl_mk ?xL) ?sa ?ga ?gg (K00.all1 ?n1) ?a1 ?t1 (K00.l_mk ?l1 ?c1) ?k1 ?kC ?eC ?tC ?hC; (case aC => k_is); (case xL => k_is); (case sa => k_is); (case ga => k_is); (case gg => k_is); (case n1 => k_is); (case a1 => k_is); (case t1 => k_is); (case l1 => k_is); (case c1 => k_is); (case k1 => k_is); (case kC => k_is); (case eC => k_is); (case tC => k_is); (case hC => k_is)))
    (case E21 => (refine' K00.ErrF.mk ?aC (K00.xl_mk ?xL) ?sa ?ga ?gg (K00.all1 ?n1) ?a1 ?t1 (K00.l_mk ?l1 ?c1) ?k1 ?kC ?eC ?tC ?hC; (case aC => k_is); (case xL => k_is); (case sa => k_is); (case ga => k_is); (case gg => k_is); (case n1 => k_is); (case a1 => k_is); (case t1 => k_is); (case l1 => k_is); (case c1 => k_is); (case k1 => k_is); (case kC => k_is); (case eC => k_is); (case tC => k_is); (case hC => k_is)))
    (case E22 => (refine' K00.ErrF.mk ?aC (K00.xl_mk ?xL) ?sa ?ga ?gg (K00.all1 ?n1) ?a1 ?t1 (K00.l_mk ?l1 ?c1) ?k1 ?kC ?eC ?tC ?hC; (case aC => k_is); (case xL => k_is); (case sa => k_is); (case ga => k_is); (case gg => k_is); (case n1 => k_is); (case a1 => k_is); (case t1 => k_is); (case l1 => k_is); (case c1 => k_is); (case k1 => k_is); (case kC => k_is); (case eC => k_is); (case tC => k_is); (case hC => k_is)))
    (case E23 => (refine' K00.ErrF.mk ?aC (K00.xl_mk ?xL) ?sa ?ga ?gg (K00.all2 ?n1 ?n2) ?a1 ?t1 (K00.l_mk ?l1 ?c1) ?k1 ?kC ?eC ?tC ?hC; (case aC => k_is); (case xL => k_is); (case sa => k_is); (case ga => k_is); (case gg => k_is); (case n1 => k_is); (case n2 => k_is); (case a1 => k_is); (case t1 => k_is); (case l1 => k_is); (case c1 => k_is); (case k1 => k_is); (case kC => k_is); (case eC => k_is); (case tC => k_is); (case hC => k_is)))
    (case E24 => (refine' K00.ErrF.mk ?aC (K00.xl_mk ?xL) ?sa ?ga ?gg (K00.all1 ?n1) ?a1 ?t1 (K00.l_mk ?l1 ?c1) ?k1 ?kC ?eC ?tC ?hC; (case aC => k_is); (case xL => k_is); (case sa => k_is); (case ga => k_is); (case gg => k_is); (case n1 => k_is); (case a1 => k_is); (case t1 => k_is); (case l1 => k_is); (case c1 => k_is); (case k1 => k_is); (case kC => k_is); (case eC => k_is); (case tC => k_is); (case hC => k_is)))
    (case E25 => (refine' K00.ErrF.mk ?aC (K00.xl_mk ?xL) ?sa ?ga ?gg (K00.all1 ?n1) ?a1 ?t1 (K00.l_mk ?l1 ?c1) ?k1 ?kC ?eC ?tC ?hC; (case aC => k_is); (case xL => k_is); (case sa => k_is); (case ga => k_is); (case gg => k_is); (case n1 => k_is); (case a1 => k_is); (case t1 => k_is); (case l1 => k_is); (case c1 => k_is); (case k1 => k_is); (case kC => k_is); (case eC => k_is); (case tC => k_is); (case hC => k_is)))
    (case E27 => (refine' K00.ErrF.mk ?aC (K00.xl_mk ?xL) ?sa ?ga ?gg (K00.all1 ?n1) ?a1 ?t1 (K00.l_mk ?l1 ?c1) ?k1 ?kC ?eC ?tC ?hC; (case aC => k_is); (case xL => k_is); (case sa => k_is); (case ga => k_is); (case gg => k_is); (case n1 => k_is); (case a1 => k_is); (case t1 => k_is); (case l1 => k_is); (case c1 => k_is); (case k1 => k_is); (case kC => k_is); (case eC => k_is); (case tC => k_is); (case hC => k_is)))
    (case E28 => (refine' K00.ErrF.mk ?aC (K00.xl_mk ?xL) ?sa ?ga ?gg (K00.all1 ?n1) ?a1 ?t1 (K00.l_mk ?l1 ?c1) ?k1 ?kC ?eC ?tC ?hC; (case aC => k_is); (case xL => k_is); (case sa => k_is); (case ga => k_is); (case gg => k_is); (case n1 => k_is); (case a1 => k_is); (case t1 => k_is); (case l1 => k_is); (case c1 => k_is); (case k1 => k_is); (case kC => k_is); (case eC => k_is); (case tC => k_is); (case hC => k_is)))
    (case E29 => (refine' K00.ErrF.mk ?aC (K00.xl_mk ?xL) ?sa ?ga ?gg (K00.all1 ?n1) ?a1 ?t1 (K00.l_mk ?l1 ?c1) ?k1 ?kC ?eC ?tC ?hC; (case aC => k_is); (case xL => k_is); (case sa => k_is); (case ga => k_is); (case gg => k_is); (case n1 => k_is); (case a1 => k_is); (case t1 => k_is); (case l1 => k_is); (case c1 => k_is); (case k1 => k_is); (case kC => k_is); (case eC => k_is); (case tC => k_is); (case hC => k_is)))
    (case E30 => (refine' K00.ErrF.mk ?aC (K00.xl_mk ?xL) ?sa ?ga ?gg (K00.all1 ?n1) ?a1 ?t1 (K00.l_mk ?l1 ?c1) ?k1 ?kC ?eC ?tC ?hC; (case aC => k_is); (case xL => k_is); (case sa => k_is); (case ga => k_is); (case gg => k_is); (case n1 => k_is); (case a1 => k_is); (case t1 => k_is); (case l1 => k_is); (case c1 => k_is); (case k1 => k_is); (case kC => k_is); (case eC => k_is); (case tC => k_is); (case hC => k_is)))
    (case E31 => (refine' K00.ErrF.mk ?aC (K00.xl_mk ?xL) ?sa ?ga ?gg (K00.all1 ?n1) ?a1 ?t1 (K00.l_mk ?l1 ?c1) ?k1 ?kC ?eC ?tC ?hC; (case aC => k_is); (case xL => k_is); (case sa => k_is); (case ga => k_is); (case gg => k_is); (case n1 => k_is); (case a1 => k_is); (case t1 => k_is); (case l1 => k_is); (case c1 => k_is); (case k1 => k_is); (case kC => k_is); (case eC => k_is); (case tC => k_is); (case hC => k_is)))
    (case E33 => (refine' K00.ErrF.mk ?aC (K00.xl_mk ?xL) ?sa ?ga ?gg (K00.all1 ?n1) ?a1 ?t1 (K00.l_mk ?l1 ?c1) ?k1 ?kC ?eC ?tC ?hC; (case aC => k_is); (case xL => k_is); (case sa => k_is); (case ga => k_is); (case gg => k_is); (case n1 => k_is); (case a1 => k_is); (case t1 => k_is); (case l1 => k_is); (case c1 => k_is); (case k1 => k_is); (case kC => k_is); (case eC => k_is); (case tC => k_is); (case hC => k_is)))
    (case E34 => (refine' K00.ErrF.mk ?aC (K00.xl_mk ?xL) ?sa ?ga ?gg (K00.all1 ?n1) ?a1 ?t1 (K00.l_mk ?l1 ?c1) ?k1 ?kC ?eC ?tC ?hC; (case aC => k_is); (case xL => k_is); (case sa => k_is); (case ga => k_is); (case gg => k_is); (case n1 => k_is); (case a1 => k_is); (case t1 => k_is); (case l1 => k_is); (case c1 => k_is); (case k1 => k_is); (case kC => k_is); (case eC => k_is); (case tC => k_is); (case hC => k_is)))
    (case Z13 => (refine' K00.Cls0.mk ?aC ?ex ?kC ?tC ⟨?ga, ?gg, ?eC, ?hC⟩; (case aC => k_is); (case ex => k_exc); (case kC => k_is); (case tC => k_is); (case ga => k_is); (case gg => k_is); (case eC => k_is); (case hC => k_is)))
    (case Z17 => (refine' K00.Cls0.mk ?aC ?ex ?kC ?tC ⟨?ga, ?gg, ?eC, ?hC⟩; (case aC => k_is); (case ex => k_exc); (case kC => k_is); (case tC => k_is); (case ga => k_is); (case gg => k_is); (case eC => k_is); (case hC => k_is)))
    (case Z26 => (refine' K00.Cls0.mk ?aC ?ex ?kC ?tC ⟨?ga, ?gg, ?eC, ?hC⟩; (case aC => k_is); (case ex => k_exc); (case kC => k_is); (case tC => k_is); (case ga => k_is); (case gg => k_is); (case eC => k_is); (case hC => k_is)))
    (case Z32 => (refine' K00.Cls0.mk ?aC ?ex ?kC ?tC ⟨?ga, ?gg, ?eC, ?hC⟩; (case aC => k_is); (case ex => k_exc); (case kC => k_is); (case tC => k_is); (case ga => k_is); (case gg => k_is); (case eC => k_is); (case hC => k_is)))
    (case Z35 => (refine' K00.Cls0.mk ?aC ?ex ?kC ?tC ⟨?ga, ?gg, ?eC, ?hC⟩; (case aC => k_is); (case ex => k_exc); (case kC => k_is); (case tC => k_is); (case ga => k_is); (case gg => k_is); (case eC => k_is); (case hC => k_is)))
    (case r13 => k_is)
    (case r14 => k_is)
    (case r5 => k_is)
    (case r12 => k_is)
    (case r32 => k_is)
    (case L13 => (refine' ⟨?ha, ?hm, ?web, ?ve, ?any⟩; (case ha => k_is); (case hm => k_is); (case web => kit_is); (case ve => kit_is); (case any => kit_is)))
    (case L17 => (refine' ⟨?ha, ?hm, ?web, ?ve, ?any⟩; (case ha => k_is); (case hm => k_is); (case web => kit_is); (case ve => kit_is); (case any => kit_is)))
    (case L26 => (refine' ⟨?ha, ?hm, ?web, ?ve, ?any⟩; (case ha => k_is); (case hm => k_is); (case web => kit_is); (case ve => kit_is); (case any => kit_is)))
    (case L32 => (refine' ⟨?ha, ?hm, ?web, ?ve, ?any⟩; (case ha => k_is); (case hm => k_is); (case web => kit_is); (case ve => kit_is); (case any => kit_is)))
    (case L35 => (refine' ⟨?ha, ?hm, ?web, ?ve, ?any⟩; (case ha => k_is); (case hm => k_is); (case web => kit_is); (case ve => kit_is); (case any => kit_is)))
    (case L2 => (refine' ⟨?ha, ?hm, ?web, ?ve, ?any⟩; (case ha => k_is); (case hm => k_is); (case web => kit_is); (case ve => kit_is); (case any => kit_is)))
    (case L12 => (refine' ⟨?ha, ?hm, ?web, ?ve, ?any⟩; (case ha => k_is); (case hm => k_is); (case web => kit_is); (case ve => kit_is); (case any => kit_is)))
    (case L6 => (refine' ⟨?ha, ?hm, ?web, ?ve, ?any⟩; (case ha => k_is); (case hm => k_is); (case web => kit_is); (case ve => kit_is); (case any => kit_is)))
    (case hn => k_is); (case ht => k_is)
    (case D37 => (refine' ⟨?a, K00.l_mk ?l ?c, ?k⟩; (case a => k_is); (case l => k_is); (case c => k_is); (case k => k_is)))
    (case D38 => (refine' ⟨?a, K00.l_mk ?l ?c, ?k⟩; (case a => k_is); (case l => k_is); (case c => k_is); (case k => k_is)))
    (case D39 => (refine' ⟨?a, K00.l_mk ?l ?c, ?k⟩; (case a => k_is); (case l => k_is); (case c => k_is); (case k => k_is)))
    (case D40 => (refine' ⟨?a, K00.l_mk ?l ?c, ?k⟩; (case a => k_is); (case l => k_is); (case c => k_is); (case k => k_is)))
    (case D41 => (refine' ⟨?a, K00.l_mk ?l ?c, ?k⟩; (case a => k_is); (case l => k_is); (case c => k_is); (case k => k_is)))
    (case D42 => (refine' ⟨?a, K00.l_mk ?l ?c, ?k⟩; (case a => k_is); (case l => k_is); (case c => k_is); (case k => k_is)))
    (case D43 => (refine' ⟨?a, K00.l_mk ?l ?c, ?k⟩; (case a => k_is); (case l => k_is); (case c => k_is); (case k => k_is)))
    (case D44 => (refine' ⟨?a, K00.l_mk ?l ?c, ?k⟩; (case a => k_is); (case l => k_is); (case c => k_is); (case k => k_is)))
    (case b_list => k_is)
    (case b_int => k_is)
    (case b_len => k_is)
    (case b_range => k_is)
    (case b_min => k_is)
    (case b_isinstance => k_is)
    (case b_bool => k_is)
    (case b_ValueError => k_is)
    (case b_sum => k_is)
    (case b_all => k_is)
