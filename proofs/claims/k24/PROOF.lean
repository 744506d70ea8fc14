import PyProof.Rows.All
import Wide.All
import OpenK.AllK
import Wide.FinOn
import HandS.ForMost
import HandS.ForExc
import HandS.Conv
import HandS.Wide
import HandS.Codes
import HandS.Walk
import HandS.TupAny
import HandS.Flow
import HandS.IsInst
import HandS.Iter
import KE.GoesMore
import PyProof.EnumMake
import HandS.Base
import HandS.Call
import HandS.List
import HandS.Exc
import HandS.ExcOwn
import HandS.ExcInit
import HandS.ExcIs
import HandS.ExcValue
import HandS.Defaults
import HandS.MakeKw
import HandS.Words
import HandS.WordsExc
import HandS.WordsList
import HandS.Small
import HandS.ExcField
import HandS.TryMany
import KE.KExcIs
import HandS.RaiseMore
import HandS.Lambda
import HandS.TupMul
import HandS.SlotsOwn
import HandS.OwnEq
import KE.KOpsOwn
import PyProof.InstEq
import HandS.EndBits
import HandS.MakeKwOnly
import KE.OsRunLaw
import PySem.Challenge.RW_growwebs_k24_whole_far_rows
set_option Elab.async false
set_option linter.all false
set_option maxRecDepth 100000
set_option maxHeartbeats 4000000
/-! Rows by stretches: the mathematics, in plain Lean. -/
namespace RwM
abbrev PS := List (List Int × Int)
/-- a word written t times -/
def rep (w : List Int) (t : Int) : List Int := (List.replicate t.toNat w).flatten
def flat (ps : PS) : List Int := ps.flatMap fun p => rep p.1 p.2
theorem repN_length (w : List Int) : ∀ n : Nat, (List.replicate n w).flatten.length = n * w.length
  | 0 => by simp
  | n + 1 => by rw [List.replicate_succ, List.flatten_cons, List.length_append, repN_length w n, Nat.succ_mul, Nat.add_comm]
theorem rep_length (w : List Int) (t : Int) : (rep w t).length = t.toNat * w.length := repN_length w _
theorem rep_zero (w : List Int) {t : Int} (h : t ≤ 0) : rep w t = [] := by
  have e : t.toNat = 0 := by omega
  unfold rep
  rw [e]
  rfl
theorem rep_nil (t : Int) : rep [] t = [] := by
  apply List.eq_nil_of_length_eq_zero
  rw [rep_length]
  simp
theorem repN_add (w : List Int) (m n : Nat) : (List.replicate (m + n) w).flatten = (List.replicate m w).flatten ++ (List.replicate n w).flatten := by
  rw [← List.replicate_append_replicate, List.flatten_append]
theorem rep_add (w : List Int) {s t : Int} (hs : 0 ≤ s) (ht : 0 ≤ t) : rep w (s + t) = rep w s ++ rep w t := by
  unfold rep
  have e : (s + t).toNat = s.toNat + t.toNat := by omega
  rw [e, repN_add]
theorem rep_one (w : List Int) : rep w 1 = w := by
  unfold rep
  simp
theorem flat_nil : flat [] = [] := rfl
theorem flat_cons (p : List Int × Int) (ps : PS) : flat (p :: ps) = rep p.1 p.2 ++ flat ps := by
  unfold flat
  rw [List.flatMap_cons]
theorem flat_append (ps qs : PS) : flat (ps ++ qs) = flat ps ++ flat qs := by
  unfold flat
  rw [List.flatMap_append]
theorem flat_one (p : List Int × Int) : flat [p] = rep p.1 p.2 := by
  rw [flat_cons, flat_nil, List.append_nil]
/-- a number of a word written again and again -/
theorem repN_get (w : List Int) : ∀ (n i : Nat), i < n * w.length → (List.replicate n w).flatten[i]? = w[i % w.length]?
  | 0, i, h => by simp at h
  | n + 1, i, h => by
    rw [List.replicate_succ, List.flatten_cons]
    by_cases c : i < w.length
    · rw [List.getElem?_append_left c, Nat.mod_eq_of_lt c]
    · have c2 : w.length ≤ i := Nat.le_of_not_lt c
      rw [List.getElem?_append_right c2, repN_get w n (i - w.length) (by rw [Nat.succ_mul] at h; omega)]
      rw [Nat.mod_eq_sub_mod c2]
theorem rep_get (w : List Int) (t : Int) (i : Nat) (h : i < t.toNat * w.length) : (rep w t)[i]? = w[i % w.length]? := repN_get w _ i h
theorem takeApp {A B : List Int} {m r : Nat} (h : m = A.length + r) : (A ++ B).take m = A ++ B.take r := by
  subst h
  rw [List.take_append, List.take_of_length_le (Nat.le_add_right _ _), Nat.add_sub_cancel_left]
theorem dropApp {A B : List Int} {m r : Nat} (h : m = A.length + r) : (A ++ B).drop m = B.drop r := by
  subst h
  rw [List.drop_append, List.drop_of_length_le (Nat.le_add_right _ _), List.nil_append, Nat.add_sub_cancel_left]
/-- the first numbers of a repeated word -/
theorem rep_take (w : List Int) (t : Int) (m : Nat) (hw : 0 < w.length) (h : m < t.toNat * w.length) : (rep w t).take m = rep w ((m / w.length : Nat) : Int) ++ rep (w.take (m % w.length)) 1 := by
  rw [rep_one]
  have hq : m / w.length < t.toNat := Nat.div_lt_of_lt_mul (by rw [Nat.mul_comm]; exact h)
  have e : t.toNat = m / w.length + (t.toNat - m / w.length) := by omega
  have e2 : rep w t = rep w ((m / w.length : Nat) : Int) ++ (List.replicate (t.toNat - m / w.length) w).flatten := by
    unfold rep
    rw [Int.toNat_natCast, ← repN_add, ← e]
  have l : (rep w ((m / w.length : Nat) : Int)).length = m / w.length * w.length := by rw [rep_length, Int.toNat_natCast]
  have dm := Nat.div_add_mod m w.length
  have hm : m = (rep w ((m / w.length : Nat) : Int)).length + m % w.length := by rw [l, Nat.mul_comm]; omega
  have e3 : t.toNat - m / w.length = (t.toNat - m / w.length - 1) + 1 := by omega
  rw [e2, takeApp hm, e3, List.replicate_succ, List.flatten_cons]
  rw [List.take_append_of_le_length (Nat.le_of_lt (Nat.mod_lt _ hw))]
/-- the numbers behind the first ones -/
theorem rep_drop (w : List Int) (t : Int) (m : Nat) (hw : 0 < w.length) (h : m < t.toNat * w.length) :
    (rep w t).drop m = (if m % w.length = 0 then [] else w.drop (m % w.length)) ++ rep w (t - (((m + w.length - 1) / w.length : Nat) : Int)) := by
  have hq : m / w.length < t.toNat := Nat.div_lt_of_lt_mul (by rw [Nat.mul_comm]; exact h)
  have e : t.toNat = m / w.length + (t.toNat - m / w.length) := by omega
  have e2 : rep w t = rep w ((m / w.length : Nat) : Int) ++ (List.replicate (t.toNat - m / w.length) w).flatten := by
    unfold rep
    rw [Int.toNat_natCast, ← repN_add, ← e]
  have l : (rep w ((m / w.length : Nat) : Int)).length = m / w.length * w.length := by rw [rep_length, Int.toNat_natCast]
  have dm := Nat.div_add_mod m w.length
  have hm : m = (rep w ((m / w.length : Nat) : Int)).length + m % w.length := by rw [l, Nat.mul_comm]; omega
  have hlt := Nat.mod_lt m hw
  rw [e2, dropApp hm]
  have sub : ∀ q : Nat, q < t.toNat → t.toNat - q = (t - (q : Int)).toNat := fun q _ => by omega
  by_cases c : m % w.length = 0
  · rw [if_pos c, c, List.drop_zero, List.nil_append]
    have e4 : (m + w.length - 1) / w.length = m / w.length := by
      have z : m + w.length - 1 = w.length * (m / w.length) + (w.length - 1) := by omega
      rw [z, Nat.mul_add_div hw, Nat.div_eq_of_lt (show w.length - 1 < w.length by omega), Nat.add_zero]
    rw [e4]
    unfold rep
    rw [sub _ hq]
  · rw [if_neg c]
    have e3 : t.toNat - m / w.length = (t.toNat - (m / w.length + 1)) + 1 := by omega
    have e4 : (m + w.length - 1) / w.length = m / w.length + 1 := by
      have z : m + w.length - 1 = w.length * (m / w.length + 1) + (m % w.length - 1) := by
        rw [Nat.mul_add, Nat.mul_one]
        omega
      rw [z, Nat.mul_add_div hw, Nat.div_eq_of_lt (show m % w.length - 1 < w.length by omega), Nat.add_zero]
    rw [e3, List.replicate_succ, List.flatten_cons, List.drop_append_of_le_length (Nat.le_of_lt hlt), e4]
    unfold rep
    have e5 : t.toNat - (m / w.length + 1) = (t - ((m / w.length + 1 : Nat) : Int)).toNat := by
      generalize m / w.length + 1 = q
      omega
    rw [e5]
end RwM
namespace RwM
/-- how many numbers of both are the same, from the first one on -/
def cp : List Int → List Int → Nat
  | a :: as, b :: bs => if a = b then cp as bs + 1 else 0
  | _, _ => 0
theorem cp_nil_left (v : List Int) : cp [] v = 0 := by cases v <;> rfl
theorem cp_nil_right (u : List Int) : cp u [] = 0 := by cases u <;> rfl
theorem cp_cons (a b : Int) (as bs : List Int) : cp (a :: as) (b :: bs) = if a = b then cp as bs + 1 else 0 := rfl
/-- two rows that are the same for k numbers -/
theorem cp_go : ∀ (k : Nat) (u v : List Int), k ≤ u.length → k ≤ v.length → (∀ i, i < k → u[i]? = v[i]?) → cp u v = k + cp (u.drop k) (v.drop k)
  | 0, u, v, _, _, _ => by simp
  | k + 1, [], v, h, _, _ => by simp at h
  | k + 1, a :: as, [], _, h, _ => by simp at h
  | k + 1, a :: as, b :: bs, h1, h2, e => by
    have e0 := e 0 (Nat.succ_pos _)
    simp only [List.getElem?_cons_zero, Option.some.injEq] at e0
    rw [cp_cons, if_pos e0, List.drop_succ_cons, List.drop_succ_cons]
    rw [cp_go k as bs (by simpa using h1) (by simpa using h2) fun i hi => by
      have z := e (i + 1) (by omega)
      simpa using z]
    omega
/-- .. and part there -/
theorem cp_at (k : Nat) (u v : List Int) (x y : Int) (hu : u[k]? = some x) (hv : v[k]? = some y) (hne : x ≠ y) (e : ∀ i, i < k → u[i]? = v[i]?) : cp u v = k := by
  have l1 := (List.getElem?_eq_some_iff.mp hu).1
  have l2 := (List.getElem?_eq_some_iff.mp hv).1
  rw [cp_go k u v (Nat.le_of_lt l1) (Nat.le_of_lt l2) e]
  have d1 : u.drop k = x :: u.drop (k + 1) := by
    rw [List.drop_eq_getElem_cons l1]
    rw [List.getElem?_eq_getElem l1] at hu
    rw [Option.some.inj hu]
  have d2 : v.drop k = y :: v.drop (k + 1) := by
    rw [List.drop_eq_getElem_cons l2]
    rw [List.getElem?_eq_getElem l2] at hv
    rw [Option.some.inj hv]
  rw [d1, d2, cp_cons, if_neg hne]
  rfl
theorem cp_le_left : ∀ u v : List Int, cp u v ≤ u.length
  | [], v => by rw [cp_nil_left]; exact Nat.zero_le _
  | a :: as, [] => by rw [cp_nil_right]; exact Nat.zero_le _
  | a :: as, b :: bs => by
    rw [cp_cons, List.length_cons]
    split
    · have := cp_le_left as bs; omega
    · omega
theorem cp_le_right : ∀ u v : List Int, cp u v ≤ v.length
  | [], v => by rw [cp_nil_left]; exact Nat.zero_le _
  | a :: as, [] => by rw [cp_nil_right]; exact Nat.zero_le _
  | a :: as, b :: bs => by
    rw [cp_cons, List.length_cons]
    split
    · have := cp_le_right as bs; omega
    · omega
theorem cp_same : ∀ (u v : List Int) (i : Nat), i < cp u v → u[i]? = v[i]?
  | [], v, i, h => by rw [cp_nil_left] at h; omega
  | a :: as, [], i, h => by rw [cp_nil_right] at h; omega
  | a :: as, b :: bs, i, h => by
    rw [cp_cons] at h
    split at h
    · rename_i e
      cases i with
      | zero => simp [e]
      | succ i => simpa using cp_same as bs i (by omega)
    · omega
theorem cp_self : ∀ u : List Int, cp u u = u.length
  | [] => rfl
  | a :: as => by rw [cp_cons, if_pos rfl, cp_self as, List.length_cons]
/-- rows as long as what they have in common are the same -/
theorem cp_full {u v : List Int} (h1 : cp u v = u.length) (h2 : u.length = v.length) : u = v := by
  apply List.ext_getElem?
  intro i
  by_cases c : i < cp u v
  · exact cp_same u v i c
  · rw [List.getElem?_eq_none (by omega), List.getElem?_eq_none (by omega)]
/-- two periodic sequences that are alike for as long as both periods together are alike for ever -/
theorem periods (f g : Nat → Int) (p q : Nat) (hp : 0 < p) (hq : 0 < q) (pf : ∀ i, f (i + p) = f i) (pg : ∀ i, g (i + q) = g i) (h : ∀ i, i < p + q → f i = g i) : ∀ i, f i = g i := by
  intro i
  induction i using Nat.strongRecOn with
  | _ i ih =>
    by_cases c : i < p + q
    · exact h i c
    · have e1 : f i = f (i - p) := by
        have z := pf (i - p)
        rwa [show i - p + p = i by omega] at z
      have e2 : g i = g (i - q) := by
        have z := pg (i - q)
        rwa [show i - q + q = i by omega] at z
      have e3 : g (i - p) = g (i - p - q) := by
        have z := pg (i - p - q)
        rwa [show i - p - q + q = i - p by omega] at z
      have e4 : f (i - q) = f (i - p - q) := by
        have z := pf (i - p - q)
        rwa [show i - p - q + p = i - q by omega] at z
      rw [e1, ih (i - p) (by omega), e3, e2, ← ih (i - q) (by omega), e4, ih (i - p - q) (by omega)]
/-- the number with the index i of a word again and again, begun at b -/
def per (w : List Int) (b i : Nat) : Int := w.getD ((b + i) % w.length) 0
theorem per_period (w : List Int) (b i : Nat) : per w b (i + w.length) = per w b i := by
  unfold per
  rw [← Nat.add_assoc, Nat.add_mod_right]
theorem rep_drop_get (w : List Int) (t : Int) (b i : Nat) (hw : 0 < w.length) (h : b + i < t.toNat * w.length) : ((rep w t).drop b)[i]? = some (per w b i) := by
  rw [List.getElem?_drop, rep_get w t (b + i) h]
  unfold per
  have hl : (b + i) % w.length < w.length := Nat.mod_lt _ hw
  rw [List.getElem?_eq_getElem hl]
  congr 1
  rw [List.getD_eq_getElem?_getD, List.getElem?_eq_getElem hl]
  rfl
/-- near numbers that are alike: all are -/
theorem per_all (w o : List Int) (b c span : Nat) (hw : 0 < w.length) (ho : 0 < o.length) (h : ∀ i, i < min span (w.length + o.length) → per w b i = per o c i) : ∀ i, i < span → per w b i = per o c i := by
  intro i hi
  by_cases k : span ≤ w.length + o.length
  · exact h i (by omega)
  · exact periods (per w b) (per o c) w.length o.length hw ho (per_period w b) (per_period o c) (fun j hj => h j (by omega)) i
end RwM
namespace Rw
open PySem PySem.Spec PyProof.Rows L2 RwM
/-- a list or a tuple of these values, tracked -/
def SqA (H : Hp) (a : Addr) (vs : List V) : Prop := H a = some (.lst vs) ∨ H a = some (.tup vs)
theorem SqA.same {H H' : Hp} {a : Addr} {vs : List V} (h : SqA H a vs) (s : ∀ o, H a = some o → H' a = some o) : SqA H' a vs := by
  rcases h with h | h
  · exact .inl (s _ h)
  · exact .inr (s _ h)
/-- v: a pair of a word and a number, as tuples -/
def PairAt (H : Hp) (v : V) (p : List Int × Int) : Prop := ∃ q a : Addr, v = .ref q ∧ H q = some (.tup [.ref a, .int p.2]) ∧ H a = some (.tup (p.1.map V.int))
/-- a row of pairs -/
def Prs (H : Hp) (vs : List V) (ps : PS) : Prop := Paired (PairAt H) vs ps
/-- only what is a list at k may change -/
def But (k : Addr) (H H' : Hp) : Prop := ∀ b o, b ≠ k → H b = some o → H' b = some o
theorem But.refl (k : Addr) (H : Hp) : But k H H := fun _ _ _ e => e
theorem But.trans {k : Addr} {H H1 H2 : Hp} (a : But k H H1) (b : But k H1 H2) : But k H H2 := fun c o n e => b c o n (a c o n e)
theorem But.of {k : Addr} {H H' : Hp} (s : Same H H') : But k H H' := fun b o _ e => s b o e
theorem But.put {k : Addr} {H : Hp} {o : HO} : But k H (upd H k o) := fun b u n e => by
  rw [upd_ne n]
  exact e
theorem sameNew {H : Hp} {t : Addr} {o : HO} (h : H t = none) : Same H (upd H t o) := fun b u e => by
  rw [upd_ne (ne_of_none e h)]
  exact e
theorem PairAt.but {k : Addr} {xs : List V} {H H' : Hp} {v : V} {p : List Int × Int} (h : PairAt H v p) (hk : H k = some (.lst xs)) (s : But k H H') : PairAt H' v p := by
  obtain ⟨q, a, e, h1, h2⟩ := h
  exact ⟨q, a, e, s _ _ (ne_of h1 hk (by intro z; cases z)) h1, s _ _ (ne_of h2 hk (by intro z; cases z)) h2⟩
theorem PairAt.same {H H' : Hp} {v : V} {p : List Int × Int} (h : PairAt H v p) (s : Same H H') : PairAt H' v p := by
  obtain ⟨q, a, e, h1, h2⟩ := h
  exact ⟨q, a, e, s _ _ h1, s _ _ h2⟩
theorem Prs.but {k : Addr} {xs : List V} {H H' : Hp} {vs : List V} {ps : PS} (h : Prs H vs ps) (hk : H k = some (.lst xs)) (s : But k H H') : Prs H' vs ps := L2.Paired.mapP h fun _ _ z => z.but hk s
theorem Prs.same {H H' : Hp} {vs : List V} {ps : PS} (h : Prs H vs ps) (s : Same H H') : Prs H' vs ps := L2.Paired.mapP h fun _ _ z => z.same s
theorem Prs.len : ∀ {H : Hp} {vs : List V} {ps : PS}, Prs H vs ps → vs.length = ps.length
  | _, _, _, .nil => rfl
  | _, _, _, .cons _ t => congrArg Nat.succ (Prs.len t)
theorem Prs.get : ∀ {H : Hp} {vs : List V} {ps : PS} {j : Nat} {v : V}, Prs H vs ps → vs[j]? = some v → ∃ p, ps[j]? = some p ∧ PairAt H v p
  | _, _, _, _, _, .nil, e => by simp at e
  | _, _, _, 0, _, .cons r _, e => by simp at e; subst e; exact ⟨_, rfl, r⟩
  | _, _, _, j + 1, _, .cons _ t, e => by
    simp only [List.getElem?_cons_succ] at e ⊢
    exact Prs.get t e
theorem Prs.get' : ∀ {H : Hp} {vs : List V} {ps : PS} {j : Nat} {p : List Int × Int}, Prs H vs ps → ps[j]? = some p → ∃ v, vs[j]? = some v ∧ PairAt H v p
  | _, _, _, _, _, .nil, e => by simp at e
  | _, _, _, 0, _, .cons r _, e => by simp at e; subst e; exact ⟨_, rfl, r⟩
  | _, _, _, j + 1, _, .cons _ t, e => by
    simp only [List.getElem?_cons_succ] at e ⊢
    exact Prs.get' t e
theorem Prs.snoc {H : Hp} {v : V} {p : List Int × Int} : ∀ {vs : List V} {ps : PS}, Prs H vs ps → PairAt H v p → Prs H (vs ++ [v]) (ps ++ [p])
  | _, _, .nil, h => .cons h .nil
  | _, _, .cons r t, h => .cons r (Prs.snoc t h)
theorem Prs.append {H : Hp} : ∀ {vs ws : List V} {ps qs : PS}, Prs H vs ps → Prs H ws qs → Prs H (vs ++ ws) (ps ++ qs)
  | _, _, _, _, .nil, h => h
  | _, _, _, _, .cons r t, h => .cons r (Prs.append t h)
/-- a for over a name that holds a list or a tuple -/
def iSeqV (i : Nat) : TI := fun σ H R => ∃ (a : Addr) (vs : List V), σ[i]? = some (some (.ref a)) ∧ SqA H a vs ∧ ∀ J, Walk J vs.length (fun H' => ∀ o, H a = some o → H' a = some o) (YAt vs) → R J H
theorem pi_seqV {X : Cx} {tg l : Expr} {i : Nat} (hl : PE X l (tVar i)) : PI X tg l (iSeqV i) := by
  refine ⟨fun pins s σ H R I ⟨a, vs, hi, hq, k⟩ => ?_⟩
  rcases hq with h | h
  · have w : Walk (Itl X.K a) vs.length (fun H' => ∀ o, H a = some o → H' a = some o) (YAt vs) :=
      have q : ∀ H' : Hp, (∀ o, H a = some o → H' a = some o) → SqL X.K H' a vs := fun H' z => SqL.of (z _ h)
      ⟨fun i H' hi z => walk_list.goes i H' hi (q H' z), fun H' z => walk_list.stops H' (q H' z), fun i H' x H'' hi z y => walk_list.yields i H' x H'' hi (q H' z) y⟩
    exact (pi_list hl).run pins s σ H R I ⟨_, hi, a, rfl, ⟨vs, SqL.of h⟩, k _ w⟩
  · have w : Walk (Itt X.K a) vs.length (fun H' => ∀ o, H a = some o → H' a = some o) (YAt vs) :=
      have q : ∀ H' : Hp, (∀ o, H a = some o → H' a = some o) → SqT X.K H' a vs := fun H' z => SqT.of (z _ h)
      ⟨fun i H' hi z => walk_tup.goes i H' hi (q H' z), fun H' z => walk_tup.stops H' (q H' z), fun i H' x H'' hi z y => walk_tup.yields i H' x H'' hi (q H' z) y⟩
    exact (pi_tup hl).run pins s σ H R I ⟨_, hi, a, rfl, ⟨vs, SqT.of h⟩, k _ w⟩
end Rw
namespace Rw
open PySem PySem.Spec PyProof.Rows L2 RwM
def rSlN : V → Option Int → Option Int → Hp → VK → Prop := fun x lo hi H Q => ∃ a xs, x = .ref a ∧ H a = some (.tup xs) ∧ ∀ (q : Addr) (H' : Hp), Same H H' → H' q = some (.tup (cutV xs lo hi)) → Q (.ref q) H'
theorem sl_tupN {X : Cx} : SlR X rSlN := by
  intro pins s σ H x v vl vu lo hi sl Q I rx hs pl pu ⟨a, xs, e, ha, k⟩
  refine sl_tupA pins s σ H x v vl vu lo hi sl Q I rx hs pl pu ⟨a, xs, e, SqT.of ha, fun hz => ?_, fun hz p hp => k p _ (sameNew hp) upd_same⟩
  refine k a H (Same.refl H) ?_
  have e1 : cutV xs lo hi = xs := by
    unfold cutV
    rw [hz.1, hz.2, List.drop_zero, Nat.sub_zero, List.take_length]
  rw [e1]
  exact ha
theorem cut_take (ns : List Int) (k : Nat) : cutV (ns.map V.int) none (some (k : Int)) = (ns.take k).map V.int := by
  unfold cutV
  rw [HT.sIx_nat, HT.sIx_none, List.drop_zero, Nat.sub_zero, List.map_take]
  by_cases c : k ≤ (ns.map V.int).length
  · rw [Nat.min_eq_left c]
  · rw [Nat.min_eq_right (by omega), List.take_length, List.take_of_length_le (by omega)]
theorem cut_drop (ns : List Int) (k : Nat) : cutV (ns.map V.int) (some (k : Int)) none = (ns.drop k).map V.int := by
  unfold cutV
  rw [HT.sIx_nat, HT.sIx_none, List.map_drop]
  by_cases c : k ≤ (ns.map V.int).length
  · rw [Nat.min_eq_left c, List.take_of_length_le (by rw [List.length_drop]; omega)]
  · rw [Nat.min_eq_right (by omega), List.drop_of_length_le (by omega), List.drop_of_length_le (by omega), List.take_nil]
theorem cut_both (ns : List Int) (j k : Nat) (h : j ≤ k) : cutV (ns.map V.int) (some (j : Int)) (some (k : Int)) = ((ns.drop j).take (k - j)).map V.int := by
  unfold cutV
  rw [HT.sIx_nat, HT.sIx_nat, List.map_take, List.map_drop]
  by_cases c : k ≤ (ns.map V.int).length
  · rw [Nat.min_eq_left c, Nat.min_eq_left (by omega)]
  · rw [Nat.min_eq_right (show (ns.map V.int).length ≤ k by omega)]
    by_cases d : j ≤ (ns.map V.int).length
    · rw [Nat.min_eq_left d, List.take_of_length_le (by rw [List.length_drop]; omega), List.take_of_length_le (by rw [List.length_drop]; omega)]
    · rw [Nat.min_eq_right (by omega), List.drop_of_length_le (by omega), List.drop_of_length_le (by omega), List.take_nil, List.take_nil]
/-- len of a tuple or list, the part of the top said -/
def rLenS (K : PySem.W.Frag) : List V → Hp → VK → Prop := fun xs H Q => ∃ p ys, xs = [.ref p] ∧ (SqL K H p ys ∨ SqT K H p ys) ∧ Q (.int ys.length) H
theorem call_lenS {X : Cx} : CallR X (.builtin "len") (rLenS X.K) := call_len_seq
end Rw
namespace K23
open PySem PySem.Spec PyProof.Rows L2 RwM Rw
def top (i : Nat) : Stmt := PySem.Challenge.pw_growwebs_k24_whole_far_rows.main.body.getD i (.Pass ⟨0, 0, 0, 0⟩)
abbrev sMerged : Stmt := top 16
theorem hu64_of {A : Around} {k : Nat} (hr : Room k A) : A.units + 64 < cLine := by
  have := hr.un
  omega
/-- a tuple of pairs, at most n, none of which tells nothing -/
structure Gd (H : Hp) (t : Addr) (qs : PS) (n : Nat) : Prop where
  ex : ∃ us, H t = some (.tup us) ∧ Prs H us qs
  le : qs.length ≤ n
  ok : ∀ q ∈ qs, 0 < q.1.length ∧ 0 < q.2 ∧ q.1.length ≤ 100000
theorem Gd.same {H H' : Hp} {t : Addr} {qs : PS} {n : Nat} (h : Gd H t qs n) (s : Same H H') : Gd H' t qs n := by
  obtain ⟨⟨us, h1, h2⟩, h3, h4⟩ := h
  exact ⟨⟨us, s _ _ h1, h2.same s⟩, h3, h4⟩
theorem Gd.more {H : Hp} {t : Addr} {qs : PS} {n m : Nat} (h : Gd H t qs n) (k : n ≤ m) : Gd H t qs m := ⟨h.ex, Nat.le_trans h.le k, h.ok⟩
def spMerged : Sp := fun vs H Q _ => ∃ (a : Addr) (ws : List V) (ps : PS), vs = [.ref a] ∧ SqA H a ws ∧ Prs H ws ps ∧ ps.length ≤ 100000 ∧ (∀ p ∈ ps, 0 ≤ p.2 ∧ p.1.length ≤ 100000) ∧
  ∀ (t : Addr) (qs : PS) (H' : Hp), Same H H' → H t = none → Gd H' t qs ps.length → flat qs = flat ps → Q (.ref t) H'
theorem shaped_tup (ns : List Int) : SeqAt.shaped (.tuple (ns.map PyData.int)) = true := by
  have h1 : ∀ l : List Int, PyData.canLayAll0 (l.map PyData.int) = true := fun l => by
    induction l with
    | nil => rfl
    | cons x r ih => show (true && PyData.canLayAll0 (r.map PyData.int)) = true; rw [ih]; rfl
  have h2 : ∀ l : List Int, PyData.depthAll (l.map PyData.int) = 0 := fun l => by
    induction l with
    | nil => rfl
    | cons x r ih => show max 0 (PyData.depthAll (r.map PyData.int)) = 0; rw [ih]; rfl
  unfold SeqAt.shaped
  have e1 : PyData.canLay0 (.tuple (ns.map PyData.int)) = true := h1 ns
  have e2 : PyData.depth (.tuple (ns.map PyData.int)) = 1 := by show PyData.depthAll (ns.map PyData.int) + 1 = 1; rw [h2]
  rw [e1, e2]
  rfl
theorem dp_all {K : PySem.W.Frag} {H : Hp} : ∀ ns : List Int, DpAll K H (ns.map V.int) (ns.map PyData.int)
  | [] => .nil
  | x :: r => .cons (.int x) (dp_all r)
theorem eqv_tup : ∀ a b : List Int, PyData.eqv (.tuple (a.map PyData.int)) (.tuple (b.map PyData.int)) = decide (a = b) := fun a b => by
  show PyData.eqvAll (a.map PyData.int) (b.map PyData.int) = decide (a = b)
  induction a generalizing b with
  | nil => cases b with
    | nil => rfl
    | cons y ys => simp [PyData.eqvAll]
  | cons x xs ih => cases b with
    | nil => simp [PyData.eqvAll]
    | cons y ys =>
      show (x == y && PyData.eqvAll (xs.map PyData.int) (ys.map PyData.int)) = decide (x :: xs = y :: ys)
      rw [ih]
      by_cases h : x = y
      · subst h; simp
      · simp [h]
theorem ixN_last (n : Nat) : ixN (n + 1) (-1) = some n := by
  unfold ixN
  simp
  omega
theorem flat_take {ps : PS} {i : Nat} {p : List Int × Int} (h : ps[i]? = some p) : flat (ps.take (i + 1)) = flat (ps.take i) ++ rep p.1 p.2 := by
  rw [List.take_succ, h, flat_append]
  show flat (ps.take i) ++ flat [p] = _
  rw [flat_one]
theorem snoc_inv {H : Hp} {v : V} : ∀ {us : List V} {qs : PS}, Prs H (us ++ [v]) qs → ∃ qs' p, qs = qs' ++ [p] ∧ Prs H us qs' ∧ PairAt H v p
  | [], _, .cons r .nil => ⟨[], _, rfl, .nil, r⟩
  | _ :: _, _, .cons r t => by
    obtain ⟨qs', p, e, h1, h2⟩ := snoc_inv t
    subst e
    exact ⟨_ :: qs', p, rfl, .cons r h1, h2⟩
section
variable {P : Program} {w : World} {K : PySem.W.Frag} {mg : Str → Option Value} {base : Heap}
abbrev nmMerged : List Str := ["pairs", "kept", "word", "times"]
theorem scMerged : FnScope nmMerged ["pairs"] (defScope sMerged) := ⟨rfl, rfl, rfl, by decide +kernel, rfl, by decide +kernel, by decide +kernel⟩
theorem ok_merged {f : Addr} {fd : FuncData} {M : Int} {tk : Tok} (F : Fun K "merged" "merged" sMerged f fd) (zT : mg "tuple" = none) (mM : mg "MOST_TIMES" = some (.int M tk)) : FnOk P w K mg base CX0 1 f fd ["pairs"] spMerged := by
  refine F.ok scMerged (fun vs H Q E h => ?_) (fun cdv A outer s H vs Q E hr h => ?_)
  · obtain ⟨a, ws, ps, rfl, _⟩ := h
    rfl
  · obtain ⟨a, ws, ps, rfl, hA, hP, hl, h0, k⟩ := h
    have nd := scMerged.nd
    have hu := hu_of hr
    have hu64 := hu64_of hr
    have bt : bootBuiltins "tuple" = some (.type "tuple") := by decide +kernel
    refine ⟨_, (pss_cons (ps_set (i := 1) nd rfl (Or.inl rfl) (pe_lst pa_nil))
(pss_cons (ps_for PassesOwn.never rfl (pi_seqV (pv 0)) (pg_tup rfl (pgs_cons (pg_name (i := 2) nd rfl (Or.inl rfl)) (pgs_cons (pg_name (i := 3) nd rfl (Or.inl rfl)) pgs_nil)))
(pss_cons (ps_if (PW.pt (pw_or (pt_not (pt_truth (pv 2) (fun _ => rfl))) (pw_or1 (pt_cmpR op_eq (pv 3) pe_int (nomark _)))))
(pss_one ps_continue)
pss_nil)
(pss_one (ps_if (PW.pt (pw_and (pt_truth (pv 1) (fun _ => rfl)) (pw_and (pt_cmpR (op_eqD hu64) (pe_ix ix_tup (pe_ix ix_list (pv 1) (pe_un un_neg pe_int) (fun _ _ => rfl)) pe_int (fun _ _ => rfl)) (pv 2) (nomark _)) (pw_and1 (pt_cmpR op_le (pe_op op_add (pe_ix ix_tup (pe_ix ix_list (pv 1) (pe_un un_neg pe_int) (fun _ _ => rfl)) pe_int (fun _ _ => rfl)) (pv 3)) (pe_glob (v := .int M) rfl mM ⟨_, rfl⟩) (nomark _))))))
(pss_one (ps_asg (pe_tup (pa_cons (pv 2) (pa_cons (pe_op op_add (pe_ix ix_tup (pe_ix ix_list (pv 1) (pe_un un_neg pe_int) (fun _ _ => rfl)) pe_int (fun _ _ => rfl)) (pv 3)) pa_nil))) (pg_sub (pv 1) (pe_un un_neg pe_int) set_list)))
(pss_one (ps_expr (pe_bm PySem.F.plainAttrs_list PySem.F.slot_list_append PySem.F.type_list_append mt_append (pv 1) (pa_cons (pe_tup (pa_cons (pv 2) (pa_cons (pv 3) pa_nil))) pa_nil))))))))
(pss_one (ps_ret (pe_callTy call_tuple_of (by rfl) zT bt (pa_cons (pv 1) pa_nil)))))), ?_⟩
    refine ⟨Nat.zero_le _, fun kk nk => ?_⟩
    have sm := sameNew (o := .lst []) nk
    have lw := hP.len
    refine ⟨a, ws, rfl, hA.same fun o e => sm _ _ e, fun J wk => for_it wk
      (fun i σ H' => ∃ (x2 x3 : Option V) (us : List V) (qs : PS), σ = [some (.ref a), some (.ref kk), x2, x3] ∧ H' kk = some (.lst us) ∧ Prs H' us qs ∧ flat qs = flat (ps.take i) ∧ qs.length ≤ i ∧ (∀ q ∈ qs, 0 < q.1.length ∧ 0 < q.2 ∧ q.1.length ≤ 100000) ∧ Same H H')
      ⟨none, none, [], [], rfl, upd_same, .nil, rfl, Nat.le_refl _, by simp, sm⟩ ?_ ?_ ?_⟩
    · rintro i σ H' hi ⟨x2, x3, us, qs, rfl, hk, hq, hf, hn, hpos, sH⟩ o ho
      have na : a ≠ kk := by
        rcases hA with z | z
        · exact ne_of_none z nk
        · exact ne_of_none z nk
      rw [upd_ne na] at ho
      exact sH _ _ ho
    · rintro i y σ H' H'' hi ⟨x2, x3, us, qs, rfl, hk, hq, hf, hn, hpos, sH⟩ ⟨rfl, hy⟩
      obtain ⟨⟨pw, pt⟩, hp, q, aw, rfl, hqq, haw⟩ := (hP.same sH).get hy
      have ft := flat_take hp
      have hi9 : i < 100000 := by omega
      refine ⟨q, [.ref aw, .int pt], rfl, SqT.of hqq, rfl, .ref aw, [.int pt], rfl, .int pt, [], rfl, rfl, ?_⟩
      -- the pair is appended
      have app : pw ≠ [] → pt ≠ 0 → ∀ t, H'' t = none → ∃ (x2 x3 : Option V) (us2 : List V) (qs2 : PS), [some (V.ref a), some (V.ref kk), some (V.ref aw), some (V.int pt)] = [some (.ref a), some (.ref kk), x2, x3] ∧
          (upd (upd H'' t (.tup [.ref aw, .int pt])) kk (.lst (us ++ [.ref t]))) kk = some (.lst us2) ∧ Prs (upd (upd H'' t (.tup [.ref aw, .int pt])) kk (.lst (us ++ [.ref t]))) us2 qs2 ∧
          flat qs2 = flat (ps.take (i + 1)) ∧ qs2.length ≤ i + 1 ∧ (∀ q ∈ qs2, 0 < q.1.length ∧ 0 < q.2 ∧ q.1.length ≤ 100000) ∧ Same H (upd (upd H'' t (.tup [.ref aw, .int pt])) kk (.lst (us ++ [.ref t]))) := by
        intro hne1 hne2 t nt
        have st := sameNew (o := .tup [.ref aw, .int pt]) nt
        have hk3 := st _ _ hk
        have bt := But.put (k := kk) (H := upd H'' t (.tup [.ref aw, .int pt])) (o := .lst (us ++ [.ref t]))
        have hpt0 : 0 ≤ pt := (h0 (pw, pt) (List.mem_of_getElem? hp)).1
        have hpw9 : pw.length ≤ 100000 := (h0 (pw, pt) (List.mem_of_getElem? hp)).2
        refine ⟨_, _, us ++ [.ref t], qs ++ [(pw, pt)], rfl, upd_same, ((hq.same st).but hk3 bt).snoc ?_, ?_, ?_, ?_, fun b o e => ?_⟩
        · exact PairAt.but ⟨t, aw, rfl, upd_same, st _ _ haw⟩ hk3 bt
        · rw [flat_append, flat_one, hf, ft]
        · rw [List.length_append]; show qs.length + 1 ≤ i + 1; omega
        · intro z hz
          rcases List.mem_append.mp hz with z1 | z1
          · exact hpos z z1
          · rw [List.mem_singleton.mp z1]
            exact ⟨List.length_pos_iff.mpr hne1, by omega, hpw9⟩
        · rw [upd_ne (ne_of_none e nk)]
          exact st _ _ (sH _ _ e)
      have lus : us.length < sizeLine := by
        rw [hq.len, sizeLine_eq]
        omega
      cases pw with
      | nil =>
        refine ⟨_, rfl, _, .inr (.inl ⟨_, SqT.of haw, rfl⟩), iteT (iteT ?_)⟩
        exact ⟨_, _, us, qs, rfl, hk, hq, by rw [ft, rep_nil, List.append_nil]; exact hf, by omega, hpos, sH⟩
      | cons z zs =>
        refine ⟨_, rfl, _, .inr (.inl ⟨_, SqT.of haw, rfl⟩), iteF ?_⟩
        refine ⟨_, rfl, rfl, _, rfl, ite2 (fun hz => ?_) (fun hz => ?_)⟩
        · have hz0 : pt = 0 := by simpa using hz
          exact ⟨_, _, us, qs, rfl, hk, hq, by rw [ft, hz0, rep_zero _ (Int.le_refl 0), List.append_nil]; exact hf, by omega, hpos, sH⟩
        · have hz0 : pt ≠ 0 := by simpa using hz
          rcases List.eq_nil_or_concat us with hus | ⟨us', v, hus⟩
          · subst hus
            refine ⟨_, rfl, _, .inl ⟨_, SqL.of hk, rfl⟩, iteF (iteF ?_)⟩
            refine ⟨_, rfl, .inl ⟨rfl, _, SqL.of hk⟩, _, rfl, _, rfl, by show 2 ≤ sizeLine; decide, fun t nt => ⟨kk, _, _, rfl, rfl, sameNew nt _ _ hk, lus, ?_⟩⟩
            exact app (by simp) hz0 t nt
          · rw [List.concat_eq_append] at hus
            subst hus
            obtain ⟨qs', ⟨lw2, lt⟩, rfl, hq', hv⟩ := snoc_inv hq
            obtain ⟨q2, a2, rfl, hq2, ha2⟩ := hv
            refine ⟨_, rfl, true, .inl ⟨_, SqL.of hk, by simp⟩, iteT ?_⟩
            refine ⟨_, rfl, 1, rfl, kk, _, -1, .ref q2, rfl, rfl, SqL.of hk, atI_last _ _, q2, _, 0, .ref a2, rfl, rfl, SqT.of hq2, rfl, _, rfl, _, _, .tup (SqT.of ha2) (dp_all lw2), .tup (SqT.of haw) (dp_all (z :: zs)), shaped_tup _, shaped_tup _, _, rfl, ?_⟩
            rw [eqv_tup]
            refine ite2 (fun he => ?_) (fun he => ?_)
            · have he2 : lw2 = z :: zs := by simpa using he
              refine ⟨_, rfl, 1, rfl, kk, _, -1, .ref q2, rfl, rfl, SqL.of hk, atI_last _ _, q2, _, 1, .int lt, rfl, rfl, SqT.of hq2, rfl, _, rfl, lt, pt, rfl, rfl, _, M, rfl, rfl, _, rfl, ite2 (fun hm => ?_) (fun hm => ?_)⟩
              · refine ⟨_, rfl, _, rfl, 1, rfl, kk, _, -1, .ref q2, rfl, rfl, SqL.of hk, atI_last _ _, q2, _, 1, .int lt, rfl, rfl, SqT.of hq2, rfl, _, rfl, lt, pt, rfl, rfl, by show 2 ≤ sizeLine; decide, fun t nt => ?_⟩
                have st := sameNew (o := .tup [.ref aw, .int (lt + pt)]) nt
                refine ⟨_, rfl, 1, rfl, kk, _, -1, us'.length, rfl, rfl, st _ _ hk, by rw [List.length_append]; exact ixN_last _, ?_⟩
                have es : (us' ++ [V.ref q2]).set us'.length (.ref t) = us' ++ [.ref t] := by simp
                rw [es]
                have hk3 := st _ _ hk
                have bt := But.put (k := kk) (H := upd H'' t (.tup [.ref aw, .int (lt + pt)])) (o := .lst (us' ++ [.ref t]))
                have hpt0 : 0 ≤ pt := (h0 (z :: zs, pt) (List.mem_of_getElem? hp)).1
                have hpw9 : (z :: zs).length ≤ 100000 := (h0 (z :: zs, pt) (List.mem_of_getElem? hp)).2
                have hlt := hpos (lw2, lt) (List.mem_append.mpr (.inr (List.mem_cons_self ..)))
                refine ⟨_, _, us' ++ [.ref t], qs' ++ [(z :: zs, lt + pt)], rfl, upd_same, ((hq'.same st).but hk3 bt).snoc (PairAt.but ⟨t, aw, rfl, upd_same, st _ _ haw⟩ hk3 bt), ?_, ?_, ?_, fun b o e => ?_⟩
                · rw [ft, ← hf, flat_append, flat_append, flat_one, flat_one, List.append_assoc, he2]
                  show flat qs' ++ rep (z :: zs) (lt + pt) = flat qs' ++ (rep (z :: zs) lt ++ rep (z :: zs) pt)
                  rw [rep_add _ (Int.le_of_lt hlt.2.1) hpt0]
                · rw [List.length_append] at hn ⊢
                  exact Nat.le_succ_of_le hn
                · intro y hy2
                  rcases List.mem_append.mp hy2 with z1 | z1
                  · exact hpos y (List.mem_append.mpr (.inl z1))
                  · rw [List.mem_singleton.mp z1]
                    refine ⟨Nat.succ_pos _, ?_, hpw9⟩
                    show 0 < lt + pt
                    have h5 : 0 < lt := hlt.2.1
                    omega
                · rw [upd_ne (ne_of_none e nk)]
                  exact st _ _ (sH _ _ e)
              · refine ⟨_, rfl, .inl ⟨rfl, _, SqL.of hk⟩, _, rfl, _, rfl, by show 2 ≤ sizeLine; decide, fun t nt => ⟨kk, _, _, rfl, rfl, sameNew nt _ _ hk, lus, ?_⟩⟩
                exact app (by simp) hz0 t nt
            · refine iteF ?_
              refine ⟨_, rfl, .inl ⟨rfl, _, SqL.of hk⟩, _, rfl, _, rfl, by show 2 ≤ sizeLine; decide, fun t nt => ⟨kk, _, _, rfl, rfl, sameNew nt _ _ hk, lus, ?_⟩⟩
              exact app (by simp) hz0 t nt
    · rintro σ H' ⟨x2, x3, us, qs, rfl, hk, hq, hf, hn, hpos, sH⟩
      have e1 : ps.take ws.length = ps := by rw [lw, List.take_length]
      rw [e1] at hf
      refine ⟨_, rfl, kk, us, rfl, .inl ⟨SqL.of hk, fun t nt => ?_⟩⟩
      exact k t qs _ (sH.trans (sameNew nt)) (sH.free nt) ⟨⟨us, upd_same, hq.same (sameNew nt)⟩, by omega, hpos⟩ hf
end
end K23
namespace K23
open PySem PySem.Spec PyProof.Rows L2 RwM Rw
abbrev sCount : Stmt := top 15
abbrev sFirst : Stmt := top 17
abbrev sBehind : Stmt := top 18
abbrev sNumAt : Stmt := top 19
abbrev sSpelled : Stmt := top 20
/-- a def of the program as a callee -/
structure At (K : PySem.W.Frag) (mg : Str → Option Value) (x : Str) (f : Addr) (fd : FuncData) (ps : List Str) : Prop where
  mg : mg x = some (.ref f)
  kp : PySem.W.keepIn K (.ref f) = true
  bd : Binds K fd ps []
/-- a row as it is handed about: pairs with good numbers -/
structure RowAt (H : Hp) (a : Addr) (ps : PS) : Prop where
  ex : ∃ ws, SqA H a ws ∧ Prs H ws ps
  le : ps.length ≤ 10000
  nn : ∀ p ∈ ps, 0 ≤ p.2
  wl : ∀ p ∈ ps, 0 < p.1.length ∧ p.1.length ≤ 100000
theorem RowAt.same {H H' : Hp} {a : Addr} {ps : PS} (h : RowAt H a ps) (s : Same H H') : RowAt H' a ps := by
  obtain ⟨⟨ws, h1, h2⟩, h3, h4, h5⟩ := h
  exact ⟨⟨ws, h1.same fun o e => s _ _ e, h2.same s⟩, h3, h4, h5⟩
/-- how many numbers, as the sum over the pairs -/
def cnt (ps : PS) : Int := (ps.map fun p => (p.1.length : Int) * p.2).sum
theorem cnt_flat : ∀ ps : PS, (∀ p ∈ ps, 0 ≤ p.2) → cnt ps = ((flat ps).length : Int)
  | [], _ => rfl
  | p :: ps, h => by
    have ih := cnt_flat ps fun q hq => h q (List.mem_cons_of_mem _ hq)
    have hp := h p (List.mem_cons_self ..)
    unfold cnt at ih ⊢
    rw [List.map_cons, List.sum_cons, ih, flat_cons, List.length_append, rep_length]
    have e : ((p.2.toNat * p.1.length : Nat) : Int) = p.2 * (p.1.length : Int) := by
      rw [Int.natCast_mul, Int.toNat_of_nonneg hp]
    rw [Int.natCast_add, e, Int.mul_comm]
def spCount : Sp := fun vs H Q _ => ∃ (a : Addr) (ps : PS), vs = [.ref a] ∧ RowAt H a ps ∧ ∀ H', Same H H' → Q (.int ((flat ps).length : Int)) H'
section
variable {P : Program} {w : World} {K : PySem.W.Frag} {mg : Str → Option Value} {base : Heap}
abbrev nmCount : List Str := ["pairs", "word", "times"]
theorem scCount : FnScope nmCount ["pairs"] (defScope sCount) := ⟨rfl, rfl, rfl, by decide +kernel, rfl, by decide +kernel, by decide +kernel⟩
theorem ok_count {f : Addr} {fd : FuncData} (F : Fun K "count_numbers" "count_numbers" sCount f fd) (zS : mg "sum" = none) (zN : mg "len" = none) : FnOk P w K mg base CX0 1 f fd ["pairs"] spCount := by
  refine F.ok scCount (fun vs H Q E h => ?_) (fun cdv A outer s H vs Q E hr h => ?_)
  · obtain ⟨a, ps, rfl, _⟩ := h
    rfl
  · obtain ⟨a, ps, rfl, ⟨⟨ws, hA, hP⟩, hl, h0, h9⟩, k⟩ := h
    have nd := scCount.nd
    have bs : bootBuiltins "sum" = some (.builtin "sum") := by decide +kernel
    refine ⟨_, (pss_one (ps_ret (pe_callB (cr_sum rfl) (by rfl) zS bs (pa_cons (pe_lc (own := [("word", 1), ("times", 2)]) (g := gTup K 2 (gCons (gName 1) (gCons (gName 2) gNil))) (tt := tYes) rfl nd (pi_seqV (pv 0)) (blkOk_by (N := nmCount) (sc := defScope sCount) (by decide +kernel)) (fun _ _ _ _ _ => pg_tup rfl (pgs_cons (pg_name (i := 1) nd rfl (Or.inl rfl)) (pgs_cons (pg_name (i := 2) nd rfl (Or.inl rfl)) pgs_nil))) (fun _ _ _ _ _ => pts_nil) (fun _ _ _ _ _ => (pe_op op_mul (pe_callB (r := rLenS K) call_lenS (by rfl) zN PySem.boot_len (pa_cons (pv 1) pa_nil)) (pv 2)))) pa_nil)))), ?_⟩
    have lw := hP.len
    refine ⟨a, ws, rfl, hA, fun J wk D hD => lc_it wk (fun i H' => Same H H' ∧ H' D = some (.lst (((ps.take i).map fun p => (p.1.length : Int) * p.2).map V.int))) ⟨sameNew hD, upd_same⟩ (fun i H' _ h o e => h.1 _ _ e) ?_ ?_⟩
    · rintro i x H' H'' hi ⟨s', hD'⟩ ⟨rfl, hx⟩
      obtain ⟨⟨pw, pt⟩, hp, q, aw, rfl, hqq, haw⟩ := (hP.same s').get hx
      have hpl := (h9 _ (List.mem_of_getElem? hp)).2
      have hpl2 : pw.length ≤ 100000 := hpl
      refine ⟨q, [.ref aw, .int pt], rfl, SqT.of hqq, rfl, .ref aw, [.int pt], rfl, .int pt, [], rfl, rfl, ?_⟩
      refine ⟨rfl, ?_⟩
      refine ⟨_, rfl, aw, _, rfl, .inr (SqT.of haw), _, rfl, _, pt, rfl, rfl, .inl ?_, _, hD', ?_, ?_, ?_⟩
      · rw [List.length_map]; constructor <;> omega
      · rw [List.length_map, List.length_map, List.length_take, sizeLine_eq]; omega
      · exact fun b o e => by rw [upd_ne (ne_of_none e hD)]; exact s' b o e
      · rw [upd_same, List.take_succ, hp, List.map_append, List.map_append, List.length_map]
        rfl
    · rintro H' ⟨s', hD'⟩
      have e1 : ps.take ws.length = ps := by rw [lw, List.take_length]
      rw [e1] at hD'
      refine ⟨D, _, rfl, SqL.of hD', ?_⟩
      have e2 := cnt_flat ps h0
      unfold cnt at e2
      rw [e2]
      exact k H' s'
end
end K23
namespace K23
open PySem PySem.Spec PyProof.Rows L2 RwM Rw
theorem Gd.row {H : Hp} {t : Addr} {qs : PS} {n : Nat} (h : Gd H t qs n) (k : n ≤ 10000) : RowAt H t qs := by
  obtain ⟨⟨us, h1, h2⟩, h3, h4⟩ := h
  exact ⟨⟨us, .inr h1, h2⟩, by omega, fun p hp => Int.le_of_lt (h4 p hp).2.1, fun p hp => ⟨(h4 p hp).1, (h4 p hp).2.2⟩⟩
/-- the pairs of the first m numbers -/
def spFirst : Sp := fun vs H Q _ => ∃ (a : Addr) (ps : PS) (m : Nat), vs = [.ref a, .int m] ∧ RowAt H a ps ∧ m ≤ (flat ps).length ∧
  ∀ (t : Addr) (qs : PS) (H' : Hp), Same H H' → H t = none → Gd H' t qs (ps.length + 1) → flat qs = (flat ps).take m → Q (.ref t) H'
theorem flat_split {ps : PS} {i : Nat} {p : List Int × Int} (h : ps[i]? = some p) : flat ps = flat (ps.take i) ++ (rep p.1 p.2 ++ flat (ps.drop (i + 1))) := by
  conv => lhs; rw [← List.take_append_drop (i + 1) ps]
  rw [flat_append, flat_take h, List.append_assoc]
theorem divN (a b : Nat) : (a : Int) / (b : Int) = ((a / b : Nat) : Int) := rfl
theorem modN (a b : Nat) : (a : Int) % (b : Int) = ((a % b : Nat) : Int) := rfl
section
variable {P : Program} {w : World} {K : PySem.W.Frag} {mg : Str → Option Value} {base : Heap}
abbrev nmFirst : List Str := ["pairs", "many", "kept", "left", "word", "times"]
theorem scFirst : FnScope nmFirst ["pairs", "many"] (defScope sFirst) := ⟨rfl, rfl, rfl, by decide +kernel, rfl, by decide +kernel, by decide +kernel⟩
theorem ok_first {f fM : Addr} {fd fdM : FuncData} (F : Fun K "first_numbers" "first_numbers" sFirst f fd) (zN : mg "len" = none) (GM : FnOk P w K mg base CX0 1 fM fdM ["pairs"] spMerged) (AM : At K mg "merged" fM fdM ["pairs"]) :
    FnOk P w K mg base CX0 2 f fd ["pairs", "many"] spFirst := by
  refine F.ok scFirst (fun vs H Q E h => ?_) (fun cdv A outer s H vs Q E hr h => ?_)
  · obtain ⟨a, ps, m, rfl, _⟩ := h
    rfl
  · obtain ⟨a, ps, m, rfl, ⟨⟨ws, hA, hP⟩, hl, h0, h9⟩, hm, k⟩ := h
    have nd := scFirst.nd
    refine ⟨_, (pss_cons (ps_set (i := 2) nd rfl (Or.inl rfl) (pe_lst pa_nil))
(pss_cons (ps_set (i := 3) nd rfl (Or.inl rfl) (pv 1))
(pss_cons (ps_for PassesOwn.never rfl (pi_seqV (pv 0)) (pg_tup rfl (pgs_cons (pg_name (i := 4) nd rfl (Or.inl rfl)) (pgs_cons (pg_name (i := 5) nd rfl (Or.inl rfl)) pgs_nil)))
(pss_one (ps_if (pt_cmpR op_le (pe_op op_mul (pe_callB (r := rLenS K) call_lenS (by rfl) zN PySem.boot_len (pa_cons (pv 4) pa_nil)) (pv 5)) (pv 3) (nomark _))
(pss_cons (ps_expr (pe_bm PySem.F.plainAttrs_list PySem.F.slot_list_append PySem.F.type_list_append mt_append (pv 2) (pa_cons (pe_tup (pa_cons (pv 4) (pa_cons (pv 5) pa_nil))) pa_nil)))
(pss_one (ps_set (i := 3) nd rfl (Or.inl rfl) (pe_op op_sub (pv 3) (pe_op op_mul (pe_callB (r := rLenS K) call_lenS (by rfl) zN PySem.boot_len (pa_cons (pv 4) pa_nil)) (pv 5))))))
(pss_cons (ps_expr (pe_bm PySem.F.plainAttrs_list PySem.F.slot_list_append PySem.F.type_list_append mt_append (pv 2) (pa_cons (pe_tup (pa_cons (pv 4) (pa_cons (pe_op op_fdiv (pv 3) (pe_callB (r := rLenS K) call_lenS (by rfl) zN PySem.boot_len (pa_cons (pv 4) pa_nil))) pa_nil))) pa_nil)))
(pss_cons (ps_expr (pe_bm PySem.F.plainAttrs_list PySem.F.slot_list_append PySem.F.type_list_append mt_append (pv 2) (pa_cons (pe_tup (pa_cons (pe_slice sl_tupN (pv 4) po_none (po_some (pe_op op_mod (pv 3) (pe_callB (r := rLenS K) call_lenS (by rfl) zN PySem.boot_len (pa_cons (pv 4) pa_nil))))) (pa_cons pe_int pa_nil))) pa_nil)))
(pss_one ps_break))))))
(pss_one (ps_ret (pe_call GM hr rfl AM.mg AM.kp AM.bd .nil pass0 (pa_cons (pv 2) pa_nil))))))), ?_⟩
    refine ⟨Nat.zero_le _, fun kk nk => ?_⟩
    have sm := sameNew (o := .lst []) nk
    have lw := hP.len
    -- what merged gives
    have fin : ∀ (H' : Hp) (us : List V) (qs : PS), Same H H' → H' kk = some (.lst us) → Prs H' us qs → qs.length ≤ ps.length + 1 → (∀ q ∈ qs, 0 ≤ q.2 ∧ q.1.length ≤ 100000) → flat qs = (flat ps).take m → spMerged [.ref kk] H' Q E0 := fun H' us qs s' hk hq hn hok hf =>
      ⟨kk, us, qs, rfl, .inl hk, hq, by omega, hok, fun t rs H2 s2 nt gd hf2 => k t rs H2 (s'.trans s2) (s'.free nt) (gd.more hn) (by rw [hf2, hf])⟩
    refine ⟨_, rfl, a, ws, rfl, hA.same fun o e => sm _ _ e, fun J wk => for_it wk
      (fun i σ H' => ∃ (x4 x5 : Option V) (us : List V) (lf : Nat), σ = [some (.ref a), some (.int m), some (.ref kk), some (.int lf), x4, x5] ∧ H' kk = some (.lst us) ∧ Prs H' us (ps.take i) ∧ (flat (ps.take i)).length + lf = m ∧ Same H H')
      ⟨none, none, [], m, rfl, upd_same, .nil, by rw [List.take_zero, flat_nil]; simp, sm⟩ ?_ ?_ ?_⟩
    · rintro i σ H' hi ⟨x4, x5, us, lf, rfl, hk, hq, hf, sH⟩ o ho
      have na : a ≠ kk := by
        rcases hA with z | z
        · exact ne_of_none z nk
        · exact ne_of_none z nk
      rw [upd_ne na] at ho
      exact sH _ _ ho
    · rintro i y σ H' H'' hi ⟨x4, x5, us, lf, rfl, hk, hq, hf, sH⟩ ⟨rfl, hy⟩
      obtain ⟨⟨pw, pt⟩, hp, q, aw, rfl, hqq, haw⟩ := (hP.same sH).get hy
      have ft := flat_take hp
      have hpt0 : 0 ≤ pt := h0 (pw, pt) (List.mem_of_getElem? hp)
      have hpw9 : pw.length ≤ 100000 := (h9 (pw, pt) (List.mem_of_getElem? hp)).2
      have hrl : ((rep pw pt).length : Int) = (pw.length : Int) * pt := by
        rw [rep_length, Int.natCast_mul, Int.toNat_of_nonneg hpt0, Int.mul_comm]
      have lus : us.length < sizeLine := by
        rw [hq.len, List.length_take, sizeLine_eq]
        omega
      have hb : -(2 ^ 64) < ((pw.map V.int).length : Int) ∧ ((pw.map V.int).length : Int) < 2 ^ 64 := by rw [List.length_map]; constructor <;> omega
      refine ⟨q, [.ref aw, .int pt], rfl, SqT.of hqq, rfl, .ref aw, [.int pt], rfl, .int pt, [], rfl, rfl, ?_⟩
      refine ⟨_, rfl, aw, _, rfl, .inr (SqT.of haw), _, rfl, _, pt, rfl, rfl, .inl hb, _, rfl, _, lf, rfl, rfl, _, rfl, ?_⟩
      rw [List.length_map]
      refine ite2 (fun hle => ?_) (fun hle => ?_)
      · have hle2 : (rep pw pt).length ≤ lf := by
          have z : (pw.length : Int) * pt ≤ (lf : Int) := by simpa using hle
          rw [← hrl] at z
          omega
        refine ⟨_, rfl, .inl ⟨rfl, _, SqL.of hk⟩, _, rfl, _, rfl, by show 2 ≤ sizeLine; decide, fun t nt => ⟨kk, _, _, rfl, rfl, sameNew nt _ _ hk, lus, ?_⟩⟩
        have st := sameNew (o := .tup [.ref aw, .int pt]) nt
        have hk3 := st _ _ hk
        have bt := But.put (k := kk) (H := upd H'' t (.tup [.ref aw, .int pt])) (o := .lst (us ++ [.ref t]))
        have haw3 : (upd (upd H'' t (.tup [.ref aw, .int pt])) kk (.lst (us ++ [.ref t]))) aw = some (.tup (pw.map V.int)) := bt _ _ (ne_of (st _ _ haw) hk3 (by intro z; cases z)) (st _ _ haw)
        refine ⟨_, rfl, _, rfl, aw, _, rfl, .inr (SqT.of haw3), _, rfl, _, pt, rfl, rfl, .inl hb, lf, _, rfl, rfl, ?_⟩
        refine ⟨some (.ref aw), some (.int pt), us ++ [.ref t], lf - (rep pw pt).length, ?_, upd_same, ?_, ?_, fun b o e => ?_⟩
        · rw [List.length_map, ← hrl]
          have e1 : (lf : Int) - ((rep pw pt).length : Int) = ((lf - (rep pw pt).length : Nat) : Int) := by omega
          show [_, _, _, some (V.int ((lf : Int) - ((rep pw pt).length : Int))), _, _] = _
          rw [e1]
        · have e2 : ps.take (i + 1) = ps.take i ++ [(pw, pt)] := by rw [List.take_succ, hp]; rfl
          rw [e2]
          exact ((hq.same st).but hk3 bt).snoc (PairAt.but ⟨t, aw, rfl, upd_same, st _ _ haw⟩ hk3 bt)
        · rw [ft, List.length_append]
          change (flat (ps.take i)).length + (rep pw pt).length + (lf - (rep pw pt).length) = m
          omega
        · rw [upd_ne (ne_of_none e nk)]
          exact st _ _ (sH _ _ e)
      · have hlt : lf < pt.toNat * pw.length := by
          have z : ¬ ((pw.length : Int) * pt ≤ (lf : Int)) := by simpa using hle
          rw [← hrl, rep_length] at z
          omega
        have hw0 : 0 < pw.length := by
          rcases Nat.eq_zero_or_pos pw.length with z | z
          · rw [z, Nat.mul_zero] at hlt; omega
          · exact z
        have hcd : CDiv (lf : Int) ((pw.map V.int).length : Int) := by rw [List.length_map]; constructor <;> omega
        have hcm : (0 : Int) < ((pw.map V.int).length : Int) := by rw [List.length_map]; omega
        refine ⟨_, rfl, .inl ⟨rfl, _, SqL.of hk⟩, _, rfl, _, rfl, _, rfl, aw, _, rfl, .inr (SqT.of haw), lf, _, rfl, rfl, hcd, by show 2 ≤ sizeLine; decide, fun t nt => ⟨kk, _, _, rfl, rfl, sameNew nt _ _ hk, lus, ?_⟩⟩
        dsimp only
        rw [List.length_map, divN]
        have st := sameNew (o := .tup [.ref aw, .int ((lf / pw.length : Nat) : Int)]) nt
        have hk3 := st _ _ hk
        have bt := But.put (k := kk) (H := upd H'' t (.tup [.ref aw, .int ((lf / pw.length : Nat) : Int)])) (o := .lst (us ++ [.ref t]))
        have haw3 := bt _ _ (ne_of (st _ _ haw) hk3 (by intro z; cases z)) (st _ _ haw)
        have hq3 : Prs (upd (upd H'' t (.tup [.ref aw, .int ((lf / pw.length : Nat) : Int)])) kk (.lst (us ++ [.ref t]))) (us ++ [.ref t]) (ps.take i ++ [(pw, ((lf / pw.length : Nat) : Int))]) :=
          ((hq.same st).but hk3 bt).snoc (PairAt.but ⟨t, aw, rfl, upd_same, st _ _ haw⟩ hk3 bt)
        have sH3 : Same H (upd (upd H'' t (.tup [.ref aw, .int ((lf / pw.length : Nat) : Int)])) kk (.lst (us ++ [.ref t]))) := fun b o e => by
          rw [upd_ne (ne_of_none e nk)]
          exact st _ _ (sH _ _ e)
        have hk4 : (upd (upd H'' t (.tup [.ref aw, .int ((lf / pw.length : Nat) : Int)])) kk (.lst (us ++ [.ref t]))) kk = some (.lst (us ++ [.ref t])) := upd_same
        generalize upd (upd H'' t (.tup [.ref aw, .int ((lf / pw.length : Nat) : Int)])) kk (.lst (us ++ [.ref t])) = H3 at haw3 hq3 sH3 hk4 ⊢
        have hlim : (ps.take i).length + 2 ≤ ps.length + 1 := by
          have := (List.getElem?_eq_some_iff.mp hp).1
          rw [List.length_take]; omega
        refine ⟨_, rfl, .inl ⟨rfl, _, SqL.of hk4⟩, _, rfl, _, rfl, _, rfl, aw, _, rfl, .inr (SqT.of haw3), lf, _, rfl, rfl, hcm, _, rfl, aw, _, rfl, haw3, fun q5 H5 s5 hq5 => ⟨by show 2 ≤ sizeLine; decide, fun t6 nt6 => ⟨kk, _, _, rfl, rfl, sameNew nt6 _ _ (s5 _ _ hk4), ?_, ?_⟩⟩⟩
        · rw [List.length_append, hq.len, List.length_take, sizeLine_eq]
          show min i ps.length + 1 < _
          omega
        · have st6 := sameNew (o := .tup [.ref q5, .int 1]) nt6
          have hk6 := st6 _ _ (s5 _ _ hk4)
          have bt6 := But.put (k := kk) (H := upd H5 t6 (.tup [.ref q5, .int 1])) (o := .lst (us ++ [.ref t] ++ [.ref t6]))
          rw [List.length_map, modN, cut_take] at hq5
          refine ⟨_, rfl, fin _ (us ++ [.ref t] ++ [.ref t6]) (ps.take i ++ [(pw, ((lf / pw.length : Nat) : Int))] ++ [(pw.take (lf % pw.length), 1)]) (fun b o e => ?_) upd_same ((((hq3.same s5).same st6).but hk6 bt6).snoc (PairAt.but ⟨t6, q5, rfl, upd_same, st6 _ _ hq5⟩ hk6 bt6)) ?_ ?_ ?_⟩
          · rw [upd_ne (ne_of_none e nk)]
            exact st6 _ _ (s5 _ _ (sH3 _ _ e))
          · rw [List.length_append, List.length_append]
            exact hlim
          · intro z hz
            rcases List.mem_append.mp hz with z1 | z1
            · rcases List.mem_append.mp z1 with z2 | z2
              · exact ⟨h0 z (List.mem_of_mem_take z2), (h9 z (List.mem_of_mem_take z2)).2⟩
              · rw [List.mem_singleton.mp z2]
                exact ⟨Int.natCast_nonneg _, hpw9⟩
            · rw [List.mem_singleton.mp z1]
              exact ⟨by show (0 : Int) ≤ 1; decide, by show (pw.take _).length ≤ _; rw [List.length_take]; omega⟩
          · rw [flat_append, flat_append, flat_one, flat_one, flat_split hp, List.append_assoc]
            show flat (ps.take i) ++ (rep pw ((lf / pw.length : Nat) : Int) ++ rep (pw.take (lf % pw.length)) 1) = _
            rw [← rep_take pw pt lf hw0 hlt, takeApp hf.symm, List.take_append_of_le_length (by show lf ≤ (rep pw pt).length; rw [rep_length]; omega)]
    · rintro σ H' ⟨x4, x5, us, lf, rfl, hk, hq, hf, sH⟩
      have e1 : ps.take ws.length = ps := by rw [lw, List.take_length]
      rw [e1] at hf hq
      exact ⟨_, rfl, fin H' us ps sH hk hq (Nat.le_succ _) (fun p hp => ⟨h0 p hp, (h9 p hp).2⟩) (by rw [List.take_of_length_le (by omega)])⟩
end
end K23
namespace K23
open PySem PySem.Spec PyProof.Rows L2 RwM Rw
/-- the pairs behind the first m numbers -/
def spBehind : Sp := fun vs H Q _ => ∃ (a : Addr) (ps : PS) (m : Nat), vs = [.ref a, .int m] ∧ RowAt H a ps ∧ m ≤ (flat ps).length ∧
  ∀ (t : Addr) (qs : PS) (H' : Hp), Same H H' → H t = none → Gd H' t qs (ps.length + 1) → flat qs = (flat ps).drop m → Q (.ref t) H'
/-- the number with an index -/
def spNumAt : Sp := fun vs H Q _ => ∃ (a : Addr) (ps : PS) (m : Nat) (x : Int), vs = [.ref a, .int m] ∧ RowAt H a ps ∧ (flat ps)[m]? = some x ∧ ∀ H', Same H H' → Q (.int x) H'
/-- all numbers -/
def spSpelled : Sp := fun vs H Q _ => ∃ (a : Addr) (ps : PS), vs = [.ref a] ∧ RowAt H a ps ∧ (flat ps).length ≤ 100000 ∧ ∀ (t : Addr) (H' : Hp), Same H H' → H t = none → H' t = some (.tup ((flat ps).map V.int)) → Q (.ref t) H'
theorem ceil_le {l n T : Nat} (hn : 0 < n) (h : l < T * n) : (l + n - 1) / n ≤ T := by
  apply Nat.le_of_lt_succ
  apply Nat.div_lt_of_lt_mul
  rw [Nat.mul_comm n, Nat.succ_mul]
  omega
theorem ite_mid {c A : Prop} [Decidable c] {k : Ends} {σ : List (Option V)} {H : Hp} (Pre : Hp → Prop) (tail : ∀ H1, Pre H1 → k.nx σ H1)
    (h1 : c → (∀ H1, Pre H1 → k.nx σ H1) → A) (h2 : ¬ c → (∀ H1, Pre H1 → k.nx σ H1) → k.nx σ H) : if c then A else tNext k σ H := by
  split
  · exact h1 ‹_› tail
  · exact h2 ‹_› tail
section
variable {P : Program} {w : World} {K : PySem.W.Frag} {mg : Str → Option Value} {base : Heap}
abbrev nmBehind : List Str := ["pairs", "many", "kept", "left", "word", "times", "size"]
theorem scBehind : FnScope nmBehind ["pairs", "many"] (defScope sBehind) := ⟨rfl, rfl, rfl, by decide +kernel, rfl, by decide +kernel, by decide +kernel⟩
theorem ok_behind {f fM : Addr} {fd fdM : FuncData} (F : Fun K "numbers_behind" "numbers_behind" sBehind f fd) (zN : mg "len" = none) (GM : FnOk P w K mg base CX0 1 fM fdM ["pairs"] spMerged) (AM : At K mg "merged" fM fdM ["pairs"]) :
    FnOk P w K mg base CX0 2 f fd ["pairs", "many"] spBehind := by
  refine F.ok scBehind (fun vs H Q E h => ?_) (fun cdv A outer s H vs Q E hr h => ?_)
  · obtain ⟨a, ps, m, rfl, _⟩ := h
    rfl
  · obtain ⟨a, ps, m, rfl, ⟨⟨ws, hA, hP⟩, hl, h0, h9⟩, hm, k⟩ := h
    have nd := scBehind.nd
    refine ⟨_, (pss_cons (ps_set (i := 2) nd rfl (Or.inl rfl) (pe_lst pa_nil))
(pss_cons (ps_set (i := 3) nd rfl (Or.inl rfl) (pv 1))
(pss_cons (ps_for PassesOwn.never rfl (pi_seqV (pv 0)) (pg_tup rfl (pgs_cons (pg_name (i := 4) nd rfl (Or.inl rfl)) (pgs_cons (pg_name (i := 5) nd rfl (Or.inl rfl)) pgs_nil)))
(pss_cons (ps_set (i := 6) nd rfl (Or.inl rfl) (pe_op op_mul (pe_callB (r := rLenS K) call_lenS (by rfl) zN PySem.boot_len (pa_cons (pv 4) pa_nil)) (pv 5)))
(pss_cons (ps_if (pt_cmpR op_le (pv 6) (pv 3) (nomark _))
(pss_cons (ps_set (i := 3) nd rfl (Or.inl rfl) (pe_op op_sub (pv 3) (pv 6)))
(pss_one ps_continue))
pss_nil)
(pss_cons (ps_if (pt_truth (pe_op op_mod (pv 3) (pe_callB (r := rLenS K) call_lenS (by rfl) zN PySem.boot_len (pa_cons (pv 4) pa_nil))) (fun _ => rfl))
(pss_one (ps_expr (pe_bm PySem.F.plainAttrs_list PySem.F.slot_list_append PySem.F.type_list_append mt_append (pv 2) (pa_cons (pe_tup (pa_cons (pe_slice sl_tupN (pv 4) (po_some (pe_op op_mod (pv 3) (pe_callB (r := rLenS K) call_lenS (by rfl) zN PySem.boot_len (pa_cons (pv 4) pa_nil)))) po_none) (pa_cons pe_int pa_nil))) pa_nil))))
pss_nil)
(pss_cons (ps_expr (pe_bm PySem.F.plainAttrs_list PySem.F.slot_list_append PySem.F.type_list_append mt_append (pv 2) (pa_cons (pe_tup (pa_cons (pv 4) (pa_cons (pe_op op_sub (pv 5) (pe_op op_fdiv (pe_op op_sub (pe_op op_add (pv 3) (pe_callB (r := rLenS K) call_lenS (by rfl) zN PySem.boot_len (pa_cons (pv 4) pa_nil))) pe_int) (pe_callB (r := rLenS K) call_lenS (by rfl) zN PySem.boot_len (pa_cons (pv 4) pa_nil)))) pa_nil))) pa_nil)))
(pss_one (ps_set (i := 3) nd rfl (Or.inl rfl) pe_int)))))))
(pss_one (ps_ret (pe_call GM hr rfl AM.mg AM.kp AM.bd .nil pass0 (pa_cons (pv 2) pa_nil))))))), ?_⟩
    refine ⟨Nat.zero_le _, fun kk nk => ?_⟩
    have sm := sameNew (o := .lst []) nk
    have lw := hP.len
    refine ⟨_, rfl, a, ws, rfl, hA.same fun o e => sm _ _ e, fun J wk => for_it wk
      (fun i σ H' => ∃ (x4 x5 x6 : Option V) (us : List V) (qs : PS), σ = [some (.ref a), some (.int m), some (.ref kk), some (.int ((m - (flat (ps.take i)).length : Nat) : Int)), x4, x5, x6] ∧ H' kk = some (.lst us) ∧ Prs H' us qs ∧ flat qs = (flat (ps.take i)).drop m ∧
        qs.length ≤ i + (if (flat (ps.take i)).length ≤ m then 0 else 1) ∧ (∀ q ∈ qs, 0 ≤ q.2 ∧ q.1.length ≤ 100000) ∧ ((flat (ps.take i)).length ≤ m → qs = []) ∧ Same H H')
      ⟨none, none, none, [], [], rfl, upd_same, .nil, by rw [List.take_zero, flat_nil]; simp, by simp, by simp, fun _ => rfl, sm⟩ ?_ ?_ ?_⟩
    · rintro i σ H' hi ⟨x4, x5, x6, us, qs, rfl, hk, hq, hf, hn, hok, hz, sH⟩ o ho
      have na : a ≠ kk := by
        rcases hA with z | z
        · exact ne_of_none z nk
        · exact ne_of_none z nk
      rw [upd_ne na] at ho
      exact sH _ _ ho
    · rintro i y σ H' H'' hi ⟨x4, x5, x6, us, qs, rfl, hk, hq, hf, hn, hok, hz, sH⟩ ⟨rfl, hy⟩
      obtain ⟨⟨pw, pt⟩, hp, q, aw, rfl, hqq, haw⟩ := (hP.same sH).get hy
      have ft : flat (ps.take (i + 1)) = flat (ps.take i) ++ rep pw pt := flat_take hp
      have hpt0 : 0 ≤ pt := h0 (pw, pt) (List.mem_of_getElem? hp)
      have hpw0 : 0 < pw.length := (h9 (pw, pt) (List.mem_of_getElem? hp)).1
      have hpw9 : pw.length ≤ 100000 := (h9 (pw, pt) (List.mem_of_getElem? hp)).2
      have hrl : ((rep pw pt).length : Int) = (pw.length : Int) * pt := by
        rw [rep_length, Int.natCast_mul, Int.toNat_of_nonneg hpt0, Int.mul_comm]
      obtain ⟨lf, hlf⟩ : ∃ lf : Nat, lf = m - (flat (ps.take i)).length := ⟨_, rfl⟩
      rw [← hlf]
      have il := (List.getElem?_eq_some_iff.mp hp).1
      have fd2 : (flat (ps.take (i + 1))).drop m = (flat (ps.take i)).drop m ++ (rep pw pt).drop lf := by rw [ft, List.drop_append, ← hlf]
      have ql : qs.length ≤ i + 1 := by split at hn <;> omega
      have lus : us.length + 2 < sizeLine := by
        rw [hq.len, sizeLine_eq]
        omega
      have hb : -(2 ^ 64) < ((pw.map V.int).length : Int) ∧ ((pw.map V.int).length : Int) < 2 ^ 64 := by rw [List.length_map]; constructor <;> omega
      refine ⟨q, [.ref aw, .int pt], rfl, SqT.of hqq, rfl, .ref aw, [.int pt], rfl, .int pt, [], rfl, rfl, ?_⟩
      refine ⟨_, rfl, aw, _, rfl, .inr (SqT.of haw), _, rfl, _, pt, rfl, rfl, .inl hb, ?_⟩
      refine ⟨_, rfl, _, rfl, _, lf, rfl, rfl, _, rfl, ?_⟩
      rw [List.length_map]
      refine ite2 (fun hle => ?_) (fun hle => ?_)
      · have hle2 : (rep pw pt).length ≤ lf := by
          have z : (pw.length : Int) * pt ≤ (lf : Int) := by simpa using hle
          rw [← hrl] at z
          omega
        refine ⟨_, rfl, _, rfl, lf, _, rfl, rfl, ?_⟩
        refine ⟨some (.ref aw), some (.int pt), some (.int ((pw.length : Int) * pt)), us, qs, ?_, hk, hq, ?_, ?_, hok, fun hz2 => ?_, sH⟩
        · have e1 : (lf : Int) - (pw.length : Int) * pt = ((m - (flat (ps.take (i + 1))).length : Nat) : Int) := by
            rw [← hrl, ft, List.length_append]
            omega
          show [_, _, _, some (V.int ((lf : Int) - (pw.length : Int) * pt)), _, _, _] = _
          rw [e1]
        · rw [fd2, List.drop_of_length_le hle2, List.append_nil]
          exact hf
        · refine Nat.le_trans hn ?_
          rw [ft, List.length_append]
          split <;> split <;> omega
        · refine hz ?_
          rw [ft, List.length_append] at hz2
          omega
      · have hlt : lf < pt.toNat * pw.length := by
          have z : ¬ ((pw.length : Int) * pt ≤ (lf : Int)) := by simpa using hle
          rw [← hrl, rep_length] at z
          omega
        have hw0 : 0 < pw.length := by
          rcases Nat.eq_zero_or_pos pw.length with z | z
          · rw [z, Nat.mul_zero] at hlt; omega
          · exact z
        have hcd : CDiv (((lf : Int) + ((pw.map V.int).length : Int)) - 1) ((pw.map V.int).length : Int) := by rw [List.length_map]; constructor <;> omega
        have hcm : (0 : Int) < ((pw.map V.int).length : Int) := by rw [List.length_map]; omega
        have hceil := ceil_le hw0 hlt
        have fd3 : (flat (ps.take (i + 1))).drop m = (flat (ps.take i)).drop m ++ (rep (pw.drop (lf % pw.length)) (if lf % pw.length = 0 then 0 else 1) ++ rep pw (pt - (((lf + pw.length - 1) / pw.length : Nat) : Int))) := by
          rw [fd2, rep_drop pw pt lf hw0 hlt]
          by_cases z : lf % pw.length = 0
          · rw [if_pos z, if_pos z, rep_zero _ (Int.le_refl 0)]
          · rw [if_neg z, if_neg z, rep_one]
        refine ⟨_, rfl, _, rfl, aw, _, rfl, .inr (SqT.of haw), lf, _, rfl, rfl, hcm, _, rfl, ?_⟩
        dsimp only
        rw [List.length_map, modN]
        refine ite_mid (fun H1 => ∃ (us1 : List V) (qs1 : PS), H1 kk = some (.lst us1) ∧ Prs H1 us1 qs1 ∧ flat qs1 = (flat (ps.take i)).drop m ++ rep (pw.drop (lf % pw.length)) (if lf % pw.length = 0 then 0 else 1) ∧
          qs1.length ≤ i + 1 ∧ (∀ q ∈ qs1, 0 ≤ q.2 ∧ q.1.length ≤ 100000) ∧ Same H H1 ∧ H1 aw = some (.tup (pw.map V.int))) (fun H1 h1 => ?_) (fun hc tail => ?_) (fun hc tail => ?_)
        · obtain ⟨us1, qs1, hk1, hq1, hf1, hn1, hok1, sH1, haw1⟩ := h1
          refine ⟨_, rfl, .inl ⟨rfl, _, SqL.of hk1⟩, _, rfl, _, rfl, _, rfl, _, rfl, aw, _, rfl, .inr (SqT.of haw1), lf, _, rfl, rfl, _, _, rfl, rfl, _, rfl, aw, _, rfl, .inr (SqT.of haw1), _, _, rfl, rfl, hcd, pt, _, rfl, rfl, by show 2 ≤ sizeLine; decide, fun t nt => ⟨kk, _, _, rfl, rfl, sameNew nt _ _ hk1, ?_, ?_⟩⟩
          · rw [hq1.len, sizeLine_eq]
            omega
          · have e0 : (((lf : Int) + ((pw.map V.int).length : Int)) - 1) / ((pw.map V.int).length : Int) = (((lf + pw.length - 1) / pw.length : Nat) : Int) := by
              rw [List.length_map, ← divN]
              congr 1
              omega
            dsimp only
            rw [e0]
            have st := sameNew (o := .tup [.ref aw, .int (pt - (((lf + pw.length - 1) / pw.length : Nat) : Int))]) nt
            have hk3 := st _ _ hk1
            have bt := But.put (k := kk) (H := upd H1 t (.tup [.ref aw, .int (pt - (((lf + pw.length - 1) / pw.length : Nat) : Int))])) (o := .lst (us1 ++ [.ref t]))
            refine ⟨some (.ref aw), some (.int pt), some (.int ((pw.length : Int) * pt)), us1 ++ [.ref t], qs1 ++ [(pw, pt - (((lf + pw.length - 1) / pw.length : Nat) : Int))], ?_, upd_same, ((hq1.same st).but hk3 bt).snoc (PairAt.but ⟨t, aw, rfl, upd_same, st _ _ haw1⟩ hk3 bt), ?_, ?_, ?_, fun hz2 => ?_, fun b o e => ?_⟩
            · have e1 : (0 : Int) = ((m - (flat (ps.take (i + 1))).length : Nat) : Int) := by
                rw [ft, List.length_append, rep_length]
                omega
              rw [← e1]
              rfl
            · rw [flat_append, flat_one, hf1, fd3, List.append_assoc]
            · rw [List.length_append]
              show qs1.length + 1 ≤ _
              rw [ft, List.length_append, rep_length, if_neg (by omega)]
              omega
            · intro z hz
              rcases List.mem_append.mp hz with z1 | z1
              · exact hok1 z z1
              · rw [List.mem_singleton.mp z1]
                exact ⟨by show (0 : Int) ≤ pt - _; omega, hpw9⟩
            · exfalso
              rw [ft, List.length_append, rep_length] at hz2
              omega
            · rw [upd_ne (ne_of_none e nk)]
              exact st _ _ (sH1 _ _ e)
        · have hc2 : lf % pw.length ≠ 0 := fun z => by rw [z] at hc; exact absurd hc (by decide)
          refine ⟨_, rfl, .inl ⟨rfl, _, SqL.of hk⟩, _, rfl, _, rfl, _, rfl, aw, _, rfl, .inr (SqT.of haw), lf, _, rfl, rfl, hcm, _, rfl, aw, _, rfl, haw, fun q5 H5 s5 hq5 => ⟨by show 2 ≤ sizeLine; decide, fun t6 nt6 => ⟨kk, _, _, rfl, rfl, sameNew nt6 _ _ (s5 _ _ hk), by omega, ?_⟩⟩⟩
          rw [List.length_map, modN, cut_drop] at hq5
          have st6 := sameNew (o := .tup [.ref q5, .int 1]) nt6
          have hk6 := st6 _ _ (s5 _ _ hk)
          have bt6 := But.put (k := kk) (H := upd H5 t6 (.tup [.ref q5, .int 1])) (o := .lst (us ++ [.ref t6]))
          have qz : qs = [] := hz (by
            refine Nat.le_of_lt (Classical.byContradiction fun z => hc2 ?_)
            have : lf = 0 := by omega
            rw [this, Nat.zero_mod])
          refine tail _ ⟨us ++ [.ref t6], qs ++ [(pw.drop (lf % pw.length), 1)], upd_same, (((hq.same s5).same st6).but hk6 bt6).snoc (PairAt.but ⟨t6, q5, rfl, upd_same, st6 _ _ hq5⟩ hk6 bt6), ?_, ?_, ?_, ?_, ?_⟩
          · rw [flat_append, flat_one, hf, if_neg hc2]
          · rw [qz]; show 1 ≤ i + 1; omega
          · intro z hz
            rcases List.mem_append.mp hz with z1 | z1
            · exact hok z z1
            · rw [List.mem_singleton.mp z1]
              exact ⟨by show (0 : Int) ≤ 1; decide, by show (pw.drop _).length ≤ _; rw [List.length_drop]; omega⟩
          · intro b o e
            rw [upd_ne (ne_of_none e nk)]
            exact st6 _ _ (s5 _ _ (sH _ _ e))
          · exact bt6 _ _ (ne_of (st6 _ _ (s5 _ _ haw)) hk6 (by intro z; cases z)) (st6 _ _ (s5 _ _ haw))
        · have hc2 : lf % pw.length = 0 := Classical.byContradiction fun z => hc (bne_iff_ne.mpr (by omega))
          refine tail _ ⟨us, qs, hk, hq, ?_, ql, hok, sH, haw⟩
          rw [if_pos hc2, rep_zero _ (Int.le_refl 0), List.append_nil]
          exact hf
    · rintro σ H' ⟨x4, x5, x6, us, qs, rfl, hk, hq, hf, hn, hok, hz, sH⟩
      have e1 : ps.take ws.length = ps := by rw [lw, List.take_length]
      rw [e1] at hf hn
      have ql : qs.length ≤ ps.length + 1 := by split at hn <;> omega
      exact ⟨_, rfl, kk, us, qs, rfl, .inl hk, hq, by omega, hok, fun t rs H2 s2 nt gd hf2 => k t rs H2 (sH.trans s2) (sH.free nt) (gd.more ql) (by rw [hf2, hf])⟩
end
end K23
namespace K23
open PySem PySem.Spec PyProof.Rows L2 RwM Rw
section
variable {P : Program} {w : World} {K : PySem.W.Frag} {mg : Str → Option Value} {base : Heap}
abbrev nmNumAt : List Str := ["pairs", "index", "left", "word", "times"]
theorem scNumAt : FnScope nmNumAt ["pairs", "index"] (defScope sNumAt) := ⟨rfl, rfl, rfl, by decide +kernel, rfl, by decide +kernel, by decide +kernel⟩
theorem ok_numAt {f : Addr} {fd : FuncData} (F : Fun K "number_at" "number_at" sNumAt f fd) (zN : mg "len" = none) :
    FnOk P w K mg base CX0 1 f fd ["pairs", "index"] spNumAt := by
  refine F.ok scNumAt (fun vs H Q E h => ?_) (fun cdv A outer s H vs Q E hr h => ?_)
  · obtain ⟨a, ps, m, x, rfl, _⟩ := h
    rfl
  · obtain ⟨a, ps, m, x, rfl, ⟨⟨ws, hA, hP⟩, hl, h0, h9⟩, hm, k⟩ := h
    have nd := scNumAt.nd
    refine ⟨_, (pss_cons (ps_set (i := 2) nd rfl (Or.inl rfl) (pv 1))
(pss_cons (ps_for PassesOwn.never rfl (pi_seqV (pv 0)) (pg_tup rfl (pgs_cons (pg_name (i := 3) nd rfl (Or.inl rfl)) (pgs_cons (pg_name (i := 4) nd rfl (Or.inl rfl)) pgs_nil)))
(pss_cons (ps_if (pt_cmpR op_lt (pv 2) (pe_op op_mul (pe_callB (r := rLenS K) call_lenS (by rfl) zN PySem.boot_len (pa_cons (pv 3) pa_nil)) (pv 4)) (nomark _))
(pss_one (ps_ret (pe_ix ix_tup (pv 3) (pe_op op_mod (pv 2) (pe_callB (r := rLenS K) call_lenS (by rfl) zN PySem.boot_len (pa_cons (pv 3) pa_nil))) (fun _ _ => rfl))))
pss_nil)
(pss_one (ps_set (i := 2) nd rfl (Or.inl rfl) (pe_op op_sub (pv 2) (pe_op op_mul (pe_callB (r := rLenS K) call_lenS (by rfl) zN PySem.boot_len (pa_cons (pv 3) pa_nil)) (pv 4)))))))
(pss_one (ps_ret pe_non)))), ?_⟩
    have lw := hP.len
    refine ⟨_, rfl, a, ws, rfl, hA, fun J wk => for_it wk
      (fun i σ H' => ∃ (x3 x4 : Option V), σ = [some (.ref a), some (.int m), some (.int ((m - (flat (ps.take i)).length : Nat) : Int)), x3, x4] ∧ (flat (ps.take i)).length ≤ m ∧ Same H H')
      ⟨none, none, rfl, Nat.zero_le _, .refl _⟩ ?_ ?_ ?_⟩
    · rintro i σ H' hi ⟨x3, x4, rfl, hf, sH⟩ o ho
      exact sH _ _ ho
    · rintro i y σ H' H'' hi ⟨x3, x4, rfl, hf, sH⟩ ⟨rfl, hy⟩
      obtain ⟨⟨pw, pt⟩, hp, q, aw, rfl, hqq, haw⟩ := (hP.same sH).get hy
      have ft : flat (ps.take (i + 1)) = flat (ps.take i) ++ rep pw pt := flat_take hp
      have hpt0 : 0 ≤ pt := h0 (pw, pt) (List.mem_of_getElem? hp)
      have hpw0 : 0 < pw.length := (h9 (pw, pt) (List.mem_of_getElem? hp)).1
      have hpw9 : pw.length ≤ 100000 := (h9 (pw, pt) (List.mem_of_getElem? hp)).2
      have hrl : ((rep pw pt).length : Int) = (pw.length : Int) * pt := by
        rw [rep_length, Int.natCast_mul, Int.toNat_of_nonneg hpt0, Int.mul_comm]
      obtain ⟨lf, hlf⟩ : ∃ lf : Nat, lf = m - (flat (ps.take i)).length := ⟨_, rfl⟩
      rw [← hlf]
      have hb : -(2 ^ 64) < ((pw.map V.int).length : Int) ∧ ((pw.map V.int).length : Int) < 2 ^ 64 := by rw [List.length_map]; constructor <;> omega
      have hcm : (0 : Int) < ((pw.map V.int).length : Int) := by rw [List.length_map]; omega
      refine ⟨q, [.ref aw, .int pt], rfl, SqT.of hqq, rfl, .ref aw, [.int pt], rfl, .int pt, [], rfl, rfl, ?_⟩
      refine ⟨_, rfl, _, rfl, aw, _, rfl, .inr (SqT.of haw), _, rfl, _, pt, rfl, rfl, .inl hb, lf, _, rfl, rfl, _, rfl, ?_⟩
      dsimp only
      rw [List.length_map]
      refine ite2 (fun hlt => ?_) (fun hge => ?_)
      · have hlt2 : lf < pt.toNat * pw.length := by
          have z : (lf : Int) < (pw.length : Int) * pt := by simpa using hlt
          rw [← hrl, rep_length] at z
          omega
        refine ⟨_, rfl, _, rfl, _, rfl, aw, _, rfl, .inr (SqT.of haw), lf, _, rfl, rfl, hcm, ?_⟩
        dsimp only
        rw [List.length_map, modN]
        have hmod : lf % pw.length < pw.length := Nat.mod_lt _ hpw0
        have hx : pw[lf % pw.length]? = some x := by
          rw [← rep_get pw pt lf hlt2, ← hm, flat_split hp, List.getElem?_append_right hf, ← hlf, List.getElem?_append_left (by rw [rep_length]; exact hlt2)]
        refine ⟨aw, _, _, .int x, rfl, rfl, SqT.of haw, ?_, k _ sH⟩
        exact atI_nat (by rw [List.getElem?_map, hx]; rfl)
      · have hge2 : (rep pw pt).length ≤ lf := by
          have z : ¬ ((lf : Int) < (pw.length : Int) * pt) := by simpa using hge
          rw [← hrl] at z
          omega
        refine ⟨_, rfl, _, rfl, aw, _, rfl, .inr (SqT.of haw), _, rfl, _, pt, rfl, rfl, .inl hb, lf, _, rfl, rfl, ?_⟩
        dsimp only
        rw [List.length_map]
        refine ⟨some (.ref aw), some (.int pt), ?_, ?_, sH⟩
        · have e1 : (lf : Int) - (pw.length : Int) * pt = ((m - (flat (ps.take (i + 1))).length : Nat) : Int) := by
            rw [← hrl, ft, List.length_append]
            omega
          show [_, _, some (V.int ((lf : Int) - (pw.length : Int) * pt)), _, _] = _
          rw [e1]
        · rw [ft, List.length_append]
          omega
    · rintro σ H' ⟨x3, x4, rfl, hf, sH⟩
      exfalso
      rw [lw, List.take_length] at hf
      rw [List.getElem?_eq_none hf] at hm
      cases hm
end
end K23
namespace K23
open PySem PySem.Spec PyProof.Rows L2 RwM Rw
section
variable {P : Program} {w : World} {K : PySem.W.Frag} {mg : Str → Option Value} {base : Heap}
abbrev nmSpelled : List Str := ["pairs", "numbers", "word", "times"]
theorem scSpelled : FnScope nmSpelled ["pairs"] (defScope sSpelled) := ⟨rfl, rfl, rfl, by decide +kernel, rfl, by decide +kernel, by decide +kernel⟩
theorem ok_spelled {f : Addr} {fd : FuncData} (F : Fun K "spelled" "spelled" sSpelled f fd) (zL : mg "list" = none) (zT : mg "tuple" = none) :
    FnOk P w K mg base CX0 1 f fd ["pairs"] spSpelled := by
  refine F.ok scSpelled (fun vs H Q E h => ?_) (fun cdv A outer s H vs Q E hr h => ?_)
  · obtain ⟨a, ps, rfl, _⟩ := h
    rfl
  · obtain ⟨a, ps, rfl, ⟨⟨ws, hA, hP⟩, hl, h0, h9⟩, hm, k⟩ := h
    have nd := scSpelled.nd
    have bt : bootBuiltins "tuple" = some (.type "tuple") := by decide +kernel
    have bl : bootBuiltins "list" = some (.type "list") := by decide +kernel
    refine ⟨_, (pss_cons (ps_set (i := 1) nd rfl (Or.inl rfl) (pe_lst pa_nil))
(pss_cons (ps_for PassesOwn.never rfl (pi_seqV (pv 0)) (pg_tup rfl (pgs_cons (pg_name (i := 2) nd rfl (Or.inl rfl)) (pgs_cons (pg_name (i := 3) nd rfl (Or.inl rfl)) pgs_nil)))
(pss_one (ps_expr (pe_bm PySem.F.plainAttrs_list PySem.F.slot_list_extend PySem.F.type_list_extend mt_extend (pv 1) (pa_cons (pe_op op_rep (pe_callTy call_list_of (by rfl) zL bl (pa_cons (pv 2) pa_nil)) (pv 3)) pa_nil)))))
(pss_one (ps_ret (pe_callTy call_tuple_of (by rfl) zT bt (pa_cons (pv 1) pa_nil)))))), ?_⟩
    have lw := hP.len
    refine ⟨Nat.zero_le _, fun kk nk => ?_⟩
    have sm := sameNew (o := .lst []) nk
    refine ⟨a, ws, rfl, hA.same fun o e => sm _ _ e, fun J wk => for_it wk
      (fun i σ H' => ∃ (x3 x4 : Option V), σ = [some (.ref a), some (.ref kk), x3, x4] ∧ H' kk = some (.lst ((flat (ps.take i)).map V.int)) ∧ Same H H')
      ⟨none, none, rfl, upd_same, sm⟩ ?_ ?_ ?_⟩
    · rintro i σ H' hi ⟨x3, x4, rfl, hk, sH⟩ o ho
      have na : a ≠ kk := by
        rcases hA with z | z
        · exact ne_of_none z nk
        · exact ne_of_none z nk
      rw [upd_ne na] at ho
      exact sH _ _ ho
    · rintro i y σ H' H'' hi ⟨x3, x4, rfl, hk, sH⟩ ⟨rfl, hy⟩
      obtain ⟨⟨pw, pt⟩, hp, q, aw, rfl, hqq, haw⟩ := (hP.same sH).get hy
      have ft : flat (ps.take (i + 1)) = flat (ps.take i) ++ rep pw pt := flat_take hp
      have hpt0 : 0 ≤ pt := h0 (pw, pt) (List.mem_of_getElem? hp)
      have hpw0 : 0 < pw.length := (h9 (pw, pt) (List.mem_of_getElem? hp)).1
      have hfl : (flat (ps.take i)).length + pt.toNat * pw.length ≤ 100000 := by
        have e := flat_split hp
        rw [e, List.length_append, List.length_append, rep_length] at hm
        have hm2 : (flat (ps.take i)).length + (pt.toNat * pw.length + (flat (ps.drop (i + 1))).length) ≤ 100000 := hm
        omega
      have ht9 : pt.toNat ≤ 100000 := Nat.le_trans (Nat.le_mul_of_pos_right _ hpw0) (by omega)
      refine ⟨q, [.ref aw, .int pt], rfl, SqT.of hqq, rfl, .ref aw, [.int pt], rfl, .int pt, [], rfl, rfl, ?_⟩
      refine ⟨_, rfl, .inl ⟨rfl, _, SqL.of hk⟩, _, rfl, aw, _, rfl, .inr (SqT.of haw), fun l nl => ?_⟩
      have sl := sameNew (o := .lst (pw.map V.int)) nl
      have e0 : (List.replicate pt.toNat (pw.map V.int)).flatten = (rep pw pt).map V.int := by
        unfold rep
        rw [List.map_flatten, List.map_replicate]
      refine ⟨_, rfl, l, pt, _, rfl, rfl, upd_same, by omega, by omega, ?_, fun l2 nl2 => ?_⟩
      · have e9 : pt.toNat * pw.length ≤ 100000 := by omega
        rw [List.length_map, Nat.mul_comm, sizeLine_eq]
        exact Nat.le_trans e9 (by decide)
      · rw [e0]
        have sl2 := sameNew (o := .lst ((rep pw pt).map V.int)) nl2
        have hk2 := sl2 _ _ (sl _ _ hk)
        refine ⟨kk, l2, _, _, rfl, rfl, hk2, upd_same, ?_, some (.ref aw), some (.int pt), rfl, ?_, fun b o e => ?_⟩
        · rw [List.length_map, List.length_map, rep_length, sizeLine_eq]
          omega
        · rw [upd_same, ft, List.map_append]
        · rw [upd_ne (ne_of_none e nk)]
          exact sl2 _ _ (sl _ _ (sH _ _ e))
    · rintro σ H' ⟨x3, x4, rfl, hk, sH⟩
      rw [lw, List.take_length] at hk
      exact ⟨_, rfl, kk, _, rfl, .inl ⟨SqL.of hk, fun l nl => k l _ (sH.trans (sameNew nl)) (sH.free nl) upd_same⟩⟩
end
end K23
namespace K23
open PySem PySem.Spec PyProof.Rows L2 RwM Rw
abbrev sAgree : Stmt := top 21
section
variable {X : Cx} {e : Expr} {te : TE} {pos : Pos}
def tAsg5 (te : TE) (g1 g2 g3 g4 g5 : TG) : TS := fun D σ H => te σ H fun x H1 => g1 x σ H1 fun σ1 H2 => g2 x σ1 H2 fun σ2 H3 => g3 x σ2 H3 fun σ3 H4 => g4 x σ3 H4 fun σ4 H5 => g5 x σ4 H5 D.nx
theorem wpAny_Assign_five {M : Model} {A : Around} {env : Env} {E : Value → Shared → Prop} {s : Shared} {t1 t2 t3 t4 t5 value : Expr} {pos : Pos} {Q : Flow → Shared → Prop}
    (h : wpAny M A (eval value env) (fun v s1 => wpAny M A (assign t1 env v) (fun _ s2 => wpAny M A (assign t2 env v) (fun _ s3 => wpAny M A (assign t3 env v) (fun _ s4 => wpAny M A (assign t4 env v) (fun _ s5 => wpAny M A (assign t5 env v) (fun _ => Q .next) E s5) E s4) E s3) E s2) E s1) E s)
    (he : (assignEach [t1, t2, t3, t4, t5] env).map (·.2) = [assign t1 env, assign t2 env, assign t3 env, assign t4 env, assign t5 env] := by rfl)
    (hw : swappedStores [t1, t2, t3, t4, t5] value env = pure none := by rfl) :
    wpAny M A (exec (.Assign [t1, t2, t3, t4, t5] value pos) env) Q E s := by
  refine wpAny_Assign_stores (wpAny_mono h (fun v s1 h1 => ?_) fun _ _ x => x) rfl hw
  rw [he]
  exact wpAny_bind (wpAny_holding (wpAny_mono h1 (fun _ s2 h2 => wpAny_bind (wpAny_holding (wpAny_mono h2 (fun _ s3 h3 => wpAny_bind (wpAny_holding (wpAny_mono h3 (fun _ s4 h4 => wpAny_bind (wpAny_holding h4)) fun _ _ x => x))) fun _ _ x => x))) fun _ _ x => x))
theorem ps_asg5 {t1 t2 t3 t4 t5 : Expr} {g1 g2 g3 g4 g5 : TG} (he : PE X e te) (h1 : PG X t1 g1) (h2 : PG X t2 g2) (h3 : PG X t3 g3) (h4 : PG X t4 g4) (h5 : PG X t5 g5)
    (ha : (assignEach [t1, t2, t3, t4, t5] X.env).map (·.2) = [assign t1 X.env, assign t2 X.env, assign t3 X.env, assign t4 X.env, assign t5 X.env] := by rfl) (hw : swappedStores [t1, t2, t3, t4, t5] e X.env = pure none := by rfl) :
    PS X (.Assign [t1, t2, t3, t4, t5] e pos) (tAsg5 te g1 g2 g3 g4 g5) := by
  refine ⟨fun pins s σ H D I h => ?_⟩
  refine wpAny_Assign_five (thn (he.run pins s σ H _ I h) fun v s1 ⟨x, H1, I1, r1, q1⟩ => ?_) ha hw
  refine thn (h1.run pins s1 σ H1 x v _ I1 r1 q1) fun _ s2 ⟨σ2, H2, I2, q2⟩ => ?_
  refine thn (h2.run pins s2 σ2 H2 x v _ I2 r1 q2) fun _ s3 ⟨σ3, H3, I3, q3⟩ => ?_
  refine thn (h3.run pins s3 σ3 H3 x v _ I3 r1 q3) fun _ s4 ⟨σ4, H4, I4, q4⟩ => ?_
  refine thn (h4.run pins s4 σ4 H4 x v _ I4 r1 q4) fun _ s5 ⟨σ5, H5, I5, q5⟩ => ?_
  exact thn (h5.run pins s5 σ5 H5 x v _ I5 r1 q5) fun _ s6 q => q
end
/-- how far two turning words agree -/
def spAgree : Sp := fun vs H Q _ => ∃ (a o : Addr) (wd od : List Int) (b c n : Nat), vs = [.ref a, .int b, .ref o, .int c, .int n] ∧ H a = some (.tup (wd.map V.int)) ∧ H o = some (.tup (od.map V.int)) ∧
  0 < wd.length ∧ 0 < od.length ∧ n ≤ 1000000 ∧
  ∀ (r : Nat) (H' : Hp), Same H H' → r ≤ n → (∀ i, i < r → per wd b i = per od c i) → (r < n → per wd b r ≠ per od c r) → Q (.int r) H'
section
variable {P : Program} {w : World} {K : PySem.W.Frag} {mg : Str → Option Value} {base : Heap}
abbrev nmAgree : List Str := ["word", "begun", "other", "other_begun", "most", "index"]
theorem scAgree : FnScope nmAgree ["word", "begun", "other", "other_begun", "most"] (defScope sAgree) := ⟨rfl, rfl, rfl, by decide +kernel, rfl, by decide +kernel, by decide +kernel⟩
theorem per_get {wd : List Int} (b i : Nat) (h : 0 < wd.length) : atI (wd.map V.int) (((b : Int) + (0 + (i : Int))) % (wd.length : Int)) = some (.int (per wd b i)) := by
  have e : ((b : Int) + (0 + (i : Int))) % (wd.length : Int) = (((b + i) % wd.length : Nat) : Int) := by
    rw [← modN]; congr 1; omega
  have hl : (b + i) % wd.length < wd.length := Nat.mod_lt _ h
  rw [e]
  refine atI_nat ?_
  unfold per
  rw [List.getElem?_map, List.getElem?_eq_getElem hl, List.getD_eq_getElem?_getD, List.getElem?_eq_getElem hl]
  rfl
theorem ok_agree {f : Addr} {fd : FuncData} (F : Fun K "agreeing" "agreeing" sAgree f fd) (zN : mg "len" = none) (zR : mg "range" = none) :
    FnOk P w K mg base CX0 1 f fd ["word", "begun", "other", "other_begun", "most"] spAgree := by
  refine F.ok scAgree (fun vs H Q E h => ?_) (fun cdv A outer s H vs Q E hr h => ?_)
  · obtain ⟨a, o, wd, od, b, c, n, rfl, _⟩ := h
    rfl
  · obtain ⟨a, o, wd, od, b, c, n, rfl, ha, ho, hw0, ho0, hn, k⟩ := h
    have nd := scAgree.nd
    refine ⟨_, (pss_cons (ps_for PassesOwn.never rfl (pi_range1 rfl zR (pa_cons (pv 4) pa_nil)) (pg_name (i := 5) nd rfl (Or.inl rfl))
(pss_one (ps_if (pt_cmpR op_ne (pe_ix ix_tup (pv 0) (pe_op op_mod (pe_op op_add (pv 1) (pv 5)) (pe_callB (r := rLenS K) call_lenS (by rfl) zN PySem.boot_len (pa_cons (pv 0) pa_nil))) (fun _ _ => rfl)) (pe_ix ix_tup (pv 2) (pe_op op_mod (pe_op op_add (pv 3) (pv 5)) (pe_callB (r := rLenS K) call_lenS (by rfl) zN PySem.boot_len (pa_cons (pv 2) pa_nil))) (fun _ _ => rfl)) (nomark _))
(pss_one (ps_ret (pv 5)))
pss_nil)))
(pss_one (ps_ret (pv 4)))), ?_⟩
    refine ⟨_, rfl, n, rfl, by omega, by omega, for_range
      (fun i σ H' => ∃ (x5 : Option V), σ = [some (.ref a), some (.int b), some (.ref o), some (.int c), some (.int n), x5] ∧ (∀ j, j < i → per wd b j = per od c j) ∧ Same H H')
      ⟨none, rfl, fun j hj => absurd hj (Nat.not_lt_zero _), .refl _⟩ ?_ ?_⟩
    · rintro i σ H' hi ⟨x5, rfl, hj, sH⟩
      have hm1 : (0 : Int) < ((wd.map V.int).length : Int) := by rw [List.length_map]; omega
      have hm2 : (0 : Int) < ((od.map V.int).length : Int) := by rw [List.length_map]; omega
      have g1 := per_get b i hw0
      have g2 := per_get c i ho0
      have l1 : (wd.map V.int).length = wd.length := List.length_map ..
      have l2 : (od.map V.int).length = od.length := List.length_map ..
      refine ⟨_, rfl, _, rfl, _, rfl, b, _, rfl, rfl, _, rfl, a, _, rfl, .inr (SqT.of (sH _ _ ha)), _, _, rfl, rfl, hm1, a, _, _, _, rfl, rfl, SqT.of (sH _ _ ha), by rw [l1]; exact g1, ?_⟩
      refine ⟨_, rfl, _, rfl, _, rfl, c, _, rfl, rfl, _, rfl, o, _, rfl, .inr (SqT.of (sH _ _ ho)), _, _, rfl, rfl, hm2, o, _, _, _, rfl, rfl, SqT.of (sH _ _ ho), by rw [l2]; exact g2, rfl, _, rfl, ?_⟩
      refine ite2 (fun hne => ?_) (fun heq => ?_)
      · refine ⟨_, rfl, ?_⟩
        have e0 : (0 : Int) + (i : Int) = (i : Int) := by omega
        rw [e0]
        refine k i _ sH (Nat.le_of_lt hi) hj fun _ e => ?_
        rw [e] at hne
        simp at hne
      · refine ⟨_, rfl, fun j hj2 => ?_, sH⟩
        rcases Nat.lt_succ_iff_lt_or_eq.mp hj2 with z | z
        · exact hj j z
        · subst z
          simpa using heq
    · rintro σ H' ⟨x5, rfl, hj, sH⟩
      exact ⟨_, rfl, k n _ sH (Nat.le_refl _) (fun i hi => hj i (by simpa using hi)) (fun z => absurd z (Nat.lt_irrefl _))⟩
end
end K23
namespace K23
open PySem PySem.Spec PyProof.Rows L2 RwM Rw
abbrev sCommon : Stmt := top 22
/-- a row whose pairs are a tuple -/
structure TupAt (H : Hp) (a : Addr) (ps : PS) : Prop where
  ex : ∃ ws, H a = some (.tup ws) ∧ Prs H ws ps
  le : ps.length ≤ 10000
  nn : ∀ p ∈ ps, 0 ≤ p.2
  wl : ∀ p ∈ ps, 0 < p.1.length ∧ p.1.length ≤ 100000
theorem TupAt.row {H : Hp} {a : Addr} {ps : PS} (h : TupAt H a ps) : RowAt H a ps := by
  obtain ⟨⟨ws, h1, h2⟩, h3, h4, h5⟩ := h
  exact ⟨⟨ws, .inr h1, h2⟩, h3, h4, h5⟩
theorem TupAt.same {H H' : Hp} {a : Addr} {ps : PS} (h : TupAt H a ps) (s : Same H H') : TupAt H' a ps := by
  obtain ⟨⟨ws, h1, h2⟩, h3, h4, h5⟩ := h
  exact ⟨⟨ws, s _ _ h1, h2.same s⟩, h3, h4, h5⟩
theorem Gd.tup {H : Hp} {t : Addr} {qs : PS} {n : Nat} (h : Gd H t qs n) (k : n ≤ 10000) : TupAt H t qs := by
  obtain ⟨⟨us, h1, h2⟩, h3, h4⟩ := h
  exact ⟨⟨us, h1, h2⟩, by omega, fun p hp => Int.le_of_lt (h4 p hp).2.1, fun p hp => ⟨(h4 p hp).1, (h4 p hp).2.2⟩⟩
/-- a place in a row: the pair, the numbers of it that are behind, all that are behind -/
def Plc (ps : PS) (i u T : Nat) : Prop := i ≤ ps.length ∧ T = (flat (ps.take i)).length + u ∧ (i = ps.length → u = 0) ∧ (∀ p, ps[i]? = some p → u ≤ p.2.toNat * p.1.length)
theorem Plc.start (ps : PS) : Plc ps 0 0 0 := ⟨Nat.zero_le _, rfl, fun _ => rfl, fun _ _ => Nat.zero_le _⟩
theorem Plc.next {ps : PS} {i u T s : Nat} {p : List Int × Int} (h : Plc ps i u T) (hp : ps[i]? = some p) (e : u + s = p.2.toNat * p.1.length) : Plc ps (i + 1) 0 (T + s) := by
  obtain ⟨h1, h2, h3, h4⟩ := h
  have hi := (List.getElem?_eq_some_iff.mp hp).1
  refine ⟨hi, ?_, fun _ => rfl, fun _ _ => Nat.zero_le _⟩
  rw [flat_take hp, List.length_append, rep_length]
  omega
theorem Plc.stay {ps : PS} {i u T s : Nat} {p : List Int × Int} (h : Plc ps i u T) (hp : ps[i]? = some p) (e : u + s ≤ p.2.toNat * p.1.length) : Plc ps i (u + s) (T + s) := by
  obtain ⟨h1, h2, h3, h4⟩ := h
  have hi := (List.getElem?_eq_some_iff.mp hp).1
  refine ⟨h1, by omega, fun z => by omega, fun q hq => ?_⟩
  rw [hp] at hq
  cases hq
  exact e
theorem Plc.le {ps : PS} {i u T : Nat} (h : Plc ps i u T) : T ≤ (flat ps).length := by
  obtain ⟨h1, h2, h3, h4⟩ := h
  rcases Nat.lt_or_eq_of_le h1 with z | z
  · have hp : ps[i]? = some ps[i] := List.getElem?_eq_getElem z
    have := h4 _ hp
    rw [flat_split hp, List.length_append, List.length_append, rep_length]
    omega
  · rw [h3 z, z, List.take_length] at h2
    omega
theorem Plc.done {ps : PS} {i u T : Nat} (h : Plc ps i u T) (z : ¬ i < ps.length) : T = (flat ps).length := by
  obtain ⟨h1, h2, h3, h4⟩ := h
  have z2 : i = ps.length := by omega
  rw [h3 z2, z2, List.take_length] at h2
  omega
theorem Plc.at {ps : PS} {i u T : Nat} {p : List Int × Int} (h : Plc ps i u T) (hp : ps[i]? = some p) (hw : 0 < p.1.length) (k : Nat) (hk : u + k < p.2.toNat * p.1.length) : (flat ps)[T + k]? = some (per p.1 u k) := by
  obtain ⟨h1, h2, h3, h4⟩ := h
  have e := rep_drop_get p.1 p.2 u k hw hk
  rw [List.getElem?_drop] at e
  rw [flat_split hp, List.getElem?_append_right (by omega), List.getElem?_append_left (by rw [rep_length]; omega)]
  have e2 : T + k - (flat (ps.take i)).length = u + k := by omega
  rw [e2, e]
theorem cp_done {us vs : List Int} {T : Nat} (h1 : T ≤ us.length) (h2 : T ≤ vs.length) (e : ∀ i, i < T → us[i]? = vs[i]?) (z : T = us.length ∨ T = vs.length) : cp us vs = T := by
  rw [cp_go T us vs h1 h2 e]
  rcases z with z | z
  · rw [List.drop_of_length_le (by omega), cp_nil_left]; rfl
  · rw [List.drop_of_length_le (l := vs) (by omega), cp_nil_right]; rfl
theorem nat3 {a b c : Nat} (h : (a : Int) + (b : Int) = (c : Int)) : a + b = c := by omega
def spCommon : Sp := fun vs H Q _ => ∃ (a b : Addr) (ps qs : PS), vs = [.ref a, .ref b] ∧ TupAt H a ps ∧ TupAt H b qs ∧ ∀ H', Same H H' → Q (.int ((cp (flat ps) (flat qs) : Nat) : Int)) H'
section
variable {P : Program} {w : World} {K : PySem.W.Frag} {mg : Str → Option Value} {base : Heap}
abbrev nmCommon : List Str := ["pairs", "other_pairs", "at", "other_at", "begun", "other_begun", "total", "word", "times", "other", "other_times", "size", "other_size", "span", "near", "same"]
theorem scCommon : FnScope nmCommon ["pairs", "other_pairs"] (defScope sCommon) := ⟨rfl, rfl, rfl, by decide +kernel, rfl, by decide +kernel, by decide +kernel⟩
theorem ok_common {f fG : Addr} {fd fdG : FuncData} (F : Fun K "count_common" "count_common" sCommon f fd) (zN : mg "len" = none) (zM : mg "min" = none)
    (GG : FnOk P w K mg base CX0 1 fG fdG ["word", "begun", "other", "other_begun", "most"] spAgree) (AG : At K mg "agreeing" fG fdG ["word", "begun", "other", "other_begun", "most"]) :
    FnOk P w K mg base CX0 2 f fd ["pairs", "other_pairs"] spCommon := by
  refine F.ok scCommon (fun vs H Q E h => ?_) (fun cdv A outer s H vs Q E hr h => ?_)
  · obtain ⟨a, b, ps, qs, rfl, _⟩ := h
    rfl
  · obtain ⟨a, b, ps, qs, rfl, ⟨⟨ws, hA, hP⟩, hl, h0, h9⟩, ⟨⟨zs, hB, hQ⟩, kl, k0, k9⟩, k⟩ := h
    have nd := scCommon.nd
    have bm : bootBuiltins "min" = some (.builtin "min") := by decide +kernel
    refine ⟨_, (pss_cons (ps_asg5 pe_int (pg_name (i := 2) nd rfl (Or.inl rfl)) (pg_name (i := 3) nd rfl (Or.inl rfl)) (pg_name (i := 4) nd rfl (Or.inl rfl)) (pg_name (i := 5) nd rfl (Or.inl rfl)) (pg_name (i := 6) nd rfl (Or.inl rfl)))
(pss_cons (ps_while PassesOwn.never (PW.pt (pw_and (pt_cmpR op_lt (pv 2) (pe_callB (r := rLenS K) call_lenS (by rfl) zN PySem.boot_len (pa_cons (pv 0) pa_nil)) (nomark _)) (pw_and1 (pt_cmpR op_lt (pv 3) (pe_callB (r := rLenS K) call_lenS (by rfl) zN PySem.boot_len (pa_cons (pv 1) pa_nil)) (nomark _)))))
(pss_cons (ps_asg (pe_ix ix_tup (pv 0) (pv 2) (fun _ _ => rfl)) (pg_tup rfl (pgs_cons (pg_name (i := 7) nd rfl (Or.inl rfl)) (pgs_cons (pg_name (i := 8) nd rfl (Or.inl rfl)) pgs_nil))))
(pss_cons (ps_asg (pe_ix ix_tup (pv 1) (pv 3) (fun _ _ => rfl)) (pg_tup rfl (pgs_cons (pg_name (i := 9) nd rfl (Or.inl rfl)) (pgs_cons (pg_name (i := 10) nd rfl (Or.inl rfl)) pgs_nil))))
(pss_cons (ps_set (i := 11) nd rfl (Or.inl rfl) (pe_op op_mul (pe_callB (r := rLenS K) call_lenS (by rfl) zN PySem.boot_len (pa_cons (pv 7) pa_nil)) (pv 8)))
(pss_cons (ps_set (i := 12) nd rfl (Or.inl rfl) (pe_op op_mul (pe_callB (r := rLenS K) call_lenS (by rfl) zN PySem.boot_len (pa_cons (pv 9) pa_nil)) (pv 10)))
(pss_cons (ps_set (i := 13) nd rfl (Or.inl rfl) (pe_callB (call_min2 rfl) (by rfl) zM bm (pa_cons (pe_op op_sub (pv 11) (pv 4)) (pa_cons (pe_op op_sub (pv 12) (pv 5)) pa_nil))))
(pss_cons (ps_set (i := 14) nd rfl (Or.inl rfl) (pe_callB (call_min2 rfl) (by rfl) zM bm (pa_cons (pv 13) (pa_cons (pe_op op_add (pe_callB (r := rLenS K) call_lenS (by rfl) zN PySem.boot_len (pa_cons (pv 7) pa_nil)) (pe_callB (r := rLenS K) call_lenS (by rfl) zN PySem.boot_len (pa_cons (pv 9) pa_nil))) pa_nil))))
(pss_cons (ps_set (i := 15) nd rfl (Or.inl rfl) (pe_call GG hr rfl AG.mg AG.kp AG.bd .nil pass0 (pa_cons (pv 7) (pa_cons (pv 4) (pa_cons (pv 9) (pa_cons (pv 5) (pa_cons (pv 14) pa_nil)))))))
(pss_cons (ps_if (pt_cmpR op_lt (pv 15) (pv 14) (nomark _))
(pss_one (ps_ret (pe_op op_add (pv 6) (pv 15))))
pss_nil)
(pss_cons (ps_set (i := 6) nd rfl (Or.inl rfl) (pe_op op_add (pv 6) (pv 13)))
(pss_cons (ps_set (i := 4) nd rfl (Or.inl rfl) (pe_op op_add (pv 4) (pv 13)))
(pss_cons (ps_set (i := 5) nd rfl (Or.inl rfl) (pe_op op_add (pv 5) (pv 13)))
(pss_cons (ps_if (pt_cmpR op_eq (pv 4) (pv 11) (nomark _))
(pss_one (ps_par rfl nd (i := 2) (j := 4) rfl rfl (by decide) rfl rfl (pa_cons (pe_op op_add (pv 2) pe_int) (pa_cons pe_int pa_nil)) (by rfl)))
pss_nil)
(pss_one (ps_if (pt_cmpR op_eq (pv 5) (pv 12) (nomark _))
(pss_one (ps_par rfl nd (i := 3) (j := 5) rfl rfl (by decide) rfl rfl (pa_cons (pe_op op_add (pv 3) pe_int) (pa_cons pe_int pa_nil)) (by rfl)))
pss_nil)))))))))))))))
(pss_one (ps_ret (pv 6))))), ?_⟩
    have lw := hP.len
    have lz := hQ.len
    refine ⟨fun m σ H' => ∃ (i j u v T : Nat) (x7 x8 x9 x10 x11 x12 x13 x14 x15 : Option V), σ = [some (.ref a), some (.ref b), some (.int i), some (.int j), some (.int u), some (.int v), some (.int T), x7, x8, x9, x10, x11, x12, x13, x14, x15] ∧
      m = (ps.length - i) + (qs.length - j) ∧ Plc ps i u T ∧ Plc qs j v T ∧ (∀ k, k < T → (flat ps)[k]? = (flat qs)[k]?) ∧ Same H H',
      ⟨_, 0, 0, 0, 0, 0, none, none, none, none, none, none, none, none, none, rfl, rfl, .start ps, .start qs, fun k hk => absurd hk (Nat.not_lt_zero _), .refl _⟩, ?_⟩
    rintro m σ H' ⟨i, j, u, v, T, x7, x8, x9, x10, x11, x12, x13, x14, x15, rfl, rfl, hp, hq, he, sH⟩
    have hA' := sH _ _ hA
    have hB' := sH _ _ hB
    have dn : T = (flat ps).length ∨ T = (flat qs).length → ∀ H', Same H H' → Q (.int (T : Int)) H' := fun z H' s' => by
      have := k H' s'
      rwa [cp_done hp.le hq.le he z] at this
    refine ⟨_, rfl, _, rfl, a, _, rfl, .inr (SqT.of hA'), _, _, rfl, rfl, _, rfl, ?_⟩
    refine ite2 (fun h1 => ?_) (fun h1 => ?_)
    · have hi : i < ps.length := by
        have z : (i : Int) < (ws.length : Int) := by simpa using h1
        omega
      refine ⟨_, rfl, _, rfl, b, _, rfl, .inr (SqT.of hB'), _, _, rfl, rfl, _, rfl, ?_⟩
      refine ite2 (fun h2 => ?_) (fun h2 => ?_)
      · have hj : j < qs.length := by
          have z : (j : Int) < (zs.length : Int) := by simpa using h2
          omega
        refine ⟨fun σ' H2 => ∃ m', m' < (ps.length - i) + (qs.length - j) ∧ ∃ (i j u v T : Nat) (x7 x8 x9 x10 x11 x12 x13 x14 x15 : Option V), σ' = [some (.ref a), some (.ref b), some (.int i), some (.int j), some (.int u), some (.int v), some (.int T), x7, x8, x9, x10, x11, x12, x13, x14, x15] ∧
          m' = (ps.length - i) + (qs.length - j) ∧ Plc ps i u T ∧ Plc qs j v T ∧ (∀ k, k < T → (flat ps)[k]? = (flat qs)[k]?) ∧ Same H H2, fun σ' H2 h => h, ?_⟩
        obtain ⟨va, hva, q1, aw, rfl, hq1, haw⟩ := (hP.same sH).get' (List.getElem?_eq_getElem hi)
        obtain ⟨vb, hvb, q2, bw, rfl, hq2, hbw⟩ := (hQ.same sH).get' (List.getElem?_eq_getElem hj)
        obtain ⟨⟨pw, pt⟩, hpp⟩ : ∃ p, p = ps[i] := ⟨_, rfl⟩
        obtain ⟨⟨ow, ot⟩, hoo⟩ : ∃ p, p = qs[j] := ⟨_, rfl⟩
        rw [← hpp] at hq1 haw
        rw [← hoo] at hq2 hbw
        have pi : ps[i]? = some (pw, pt) := by rw [List.getElem?_eq_getElem hi, hpp]
        have oj : qs[j]? = some (ow, ot) := by rw [List.getElem?_eq_getElem hj, hoo]
        have pt0 : 0 ≤ pt := h0 (pw, pt) (List.mem_of_getElem? pi)
        have ot0 : 0 ≤ ot := k0 (ow, ot) (List.mem_of_getElem? oj)
        have pw0 : 0 < pw.length := (h9 (pw, pt) (List.mem_of_getElem? pi)).1
        have pw9 : pw.length ≤ 100000 := (h9 (pw, pt) (List.mem_of_getElem? pi)).2
        have ow0 : 0 < ow.length := (k9 (ow, ot) (List.mem_of_getElem? oj)).1
        have ow9 : ow.length ≤ 100000 := (k9 (ow, ot) (List.mem_of_getElem? oj)).2
        have uS : u ≤ pt.toNat * pw.length := hp.2.2.2 _ pi
        have vO : v ≤ ot.toNat * ow.length := hq.2.2.2 _ oj
        have eS : (pw.length : Int) * pt = ((pt.toNat * pw.length : Nat) : Int) := by
          rw [Int.natCast_mul, Int.toNat_of_nonneg pt0, Int.mul_comm]
        have eO : (ow.length : Int) * ot = ((ot.toNat * ow.length : Nat) : Int) := by
          rw [Int.natCast_mul, Int.toNat_of_nonneg ot0, Int.mul_comm]
        have hpat := fun k hk => hp.at pi pw0 k hk
        have hqat := fun k hk => hq.at oj ow0 k hk
        have hpn := fun s e => hp.next (s := s) pi e
        have hpst := fun s e => hp.stay (s := s) pi e
        have hqn := fun s e => hq.next (s := s) oj e
        have hqst := fun s e => hq.stay (s := s) oj e
        dsimp only at hpat hqat hpn hpst hqn hqst
        obtain ⟨S, hS⟩ : ∃ S, S = pt.toNat * pw.length := ⟨_, rfl⟩
        obtain ⟨O, hO⟩ : ∃ O, O = ot.toNat * ow.length := ⟨_, rfl⟩
        rw [← hS] at uS eS hpat hpn hpst
        rw [← hO] at vO eO hqat hqn hqst
        have hb1 : -(2 ^ 64) < ((pw.map V.int).length : Int) ∧ ((pw.map V.int).length : Int) < 2 ^ 64 := by rw [List.length_map]; constructor <;> omega
        have hb2 : -(2 ^ 64) < ((ow.map V.int).length : Int) ∧ ((ow.map V.int).length : Int) < 2 ^ 64 := by rw [List.length_map]; constructor <;> omega
        refine ⟨_, rfl, _, rfl, a, _, _, _, rfl, rfl, SqT.of hA', atI_nat hva, q1, [.ref aw, .int pt], rfl, SqT.of hq1, rfl, .ref aw, [.int pt], rfl, .int pt, [], rfl, rfl, ?_⟩
        refine ⟨_, rfl, _, rfl, b, _, _, _, rfl, rfl, SqT.of hB', atI_nat hvb, q2, [.ref bw, .int ot], rfl, SqT.of hq2, rfl, .ref bw, [.int ot], rfl, .int ot, [], rfl, rfl, ?_⟩
        refine ⟨_, rfl, aw, _, rfl, .inr (SqT.of haw), _, rfl, _, pt, rfl, rfl, .inl hb1, ?_⟩
        refine ⟨_, rfl, bw, _, rfl, .inr (SqT.of hbw), _, rfl, _, ot, rfl, rfl, .inl hb2, ?_⟩
        dsimp only
        rw [List.length_map, List.length_map, eS, eO]
        refine ⟨_, rfl, _, rfl, _, u, rfl, rfl, _, rfl, _, rfl, _, v, rfl, rfl, _, _, rfl, ?_⟩
        obtain ⟨sp, hsp⟩ : ∃ sp, sp = min (S - u) (O - v) := ⟨_, rfl⟩
        have esp : (if (O : Int) - (v : Int) < (S : Int) - (u : Int) then (O : Int) - (v : Int) else (S : Int) - (u : Int)) = (sp : Int) := by
          split <;> omega
        rw [esp]
        refine ⟨_, rfl, _, rfl, aw, _, rfl, .inr (SqT.of haw), _, rfl, bw, _, rfl, .inr (SqT.of hbw), _, _, rfl, rfl, _, _, rfl, ?_⟩
        obtain ⟨nr, hnr⟩ : ∃ nr, nr = min sp (pw.length + ow.length) := ⟨_, rfl⟩
        have enr : (if ((pw.map V.int).length : Int) + ((ow.map V.int).length : Int) < (sp : Int) then ((pw.map V.int).length : Int) + ((ow.map V.int).length : Int) else (sp : Int)) = (nr : Int) := by
          rw [List.length_map, List.length_map]
          split <;> omega
        dsimp only
        rw [enr]
        refine ⟨_, rfl, _, rfl, _, rfl, _, rfl, _, rfl, aw, bw, pw, ow, u, v, nr, rfl, haw, hbw, pw0, ow0, by omega, fun r H3 s3 hr3 hag hdis => ?_⟩
        have sH3 := sH.trans s3
        refine ⟨_, rfl, _, rfl, _, _, rfl, rfl, _, rfl, ?_⟩
        refine ite2 (fun hl3 => ?_) (fun hl3 => ?_)
        · have hl4 : r < nr := by
            have z : (r : Int) < (nr : Int) := by simpa using hl3
            omega
          refine ⟨_, rfl, _, rfl, _, _, rfl, rfl, ?_⟩
          dsimp only
          have e5 : cp (flat ps) (flat qs) = T + r := by
            refine cp_at (T + r) _ _ _ _ (hpat r (by omega)) (hqat r (by omega)) (hdis hl4) fun k hk => ?_
            by_cases z : k < T
            · exact he k z
            · have e6 : k = T + (k - T) := by omega
              rw [e6, hpat (k - T) (by omega), hqat (k - T) (by omega), hag (k - T) (by omega)]
          have k2 := k H3 sH3
          rw [e5, Int.natCast_add] at k2
          exact k2
        · have hrn : r = nr := by
            have z : ¬ (r : Int) < (nr : Int) := by simpa using hl3
            omega
          have hall : ∀ k, k < sp → per pw u k = per ow v k := per_all pw ow u v sp pw0 ow0 (by rw [← hnr, ← hrn]; exact hag)
          have heT : ∀ k, k < T + sp → (flat ps)[k]? = (flat qs)[k]? := fun k hk => by
            by_cases z : k < T
            · exact he k z
            · have e6 : k = T + (k - T) := by omega
              rw [e6, hpat (k - T) (by omega), hqat (k - T) (by omega), hall (k - T) (by omega)]
          refine ⟨_, rfl, _, rfl, _, _, rfl, rfl, _, rfl, _, rfl, _, _, rfl, rfl, _, rfl, _, rfl, _, _, rfl, rfl, ?_⟩
          dsimp only
          rw [← Int.natCast_add, ← Int.natCast_add, ← Int.natCast_add]
          have fin : ∀ (i2 j2 u2 v2 : Nat), (ps.length - i2) + (qs.length - j2) < (ps.length - i) + (qs.length - j) → Plc ps i2 u2 (T + sp) → Plc qs j2 v2 (T + sp) → ∀ σ', σ' = [some (V.ref a), some (V.ref b), some (V.int i2), some (V.int j2), some (V.int u2), some (V.int v2), some (V.int (T + sp : Nat)), some (V.ref aw), some (V.int pt), some (V.ref bw), some (V.int ot), some (V.int S), some (V.int O), some (V.int sp), some (V.int nr), some (V.int r)] →
              ∃ m', m' < (ps.length - i) + (qs.length - j) ∧ ∃ (i j u v T : Nat) (x7 x8 x9 x10 x11 x12 x13 x14 x15 : Option V), σ' = [some (.ref a), some (.ref b), some (.int i), some (.int j), some (.int u), some (.int v), some (.int T), x7, x8, x9, x10, x11, x12, x13, x14, x15] ∧
                m' = (ps.length - i) + (qs.length - j) ∧ Plc ps i u T ∧ Plc qs j v T ∧ (∀ k, k < T → (flat ps)[k]? = (flat qs)[k]?) ∧ Same H H3 :=
            fun i2 j2 u2 v2 hm p1 p2 σ' e => ⟨_, hm, i2, j2, u2, v2, T + sp, _, _, _, _, _, _, _, _, _, e, rfl, p1, p2, heT, sH3⟩
          refine ⟨_, rfl, _, rfl, rfl, _, rfl, ?_⟩
          refine ite2 (fun c1 => ?_) (fun c1 => ?_)
          · have c2 : u + sp = S := nat3 (by simpa using c1)
            refine ⟨_, rfl, _, _, rfl, rfl, _, _, rfl, _, rfl, _, rfl, rfl, _, rfl, ?_⟩
            refine ite2 (fun d1 => ?_) (fun d1 => ?_)
            · have d2 : v + sp = O := nat3 (by simpa using d1)
              refine ⟨_, rfl, _, _, rfl, rfl, _, _, rfl, ?_⟩
              exact fin (i + 1) (j + 1) 0 0 (by omega) (hpn sp c2) (hqn sp d2) _ rfl
            · exact fin (i + 1) j 0 (v + sp) (by omega) (hpn sp c2) (hqst sp (by omega)) _ rfl
          · have c2 : ¬ u + sp = S := fun z => c1 (by simp [z])
            refine ⟨_, rfl, _, rfl, rfl, _, rfl, ?_⟩
            refine ite2 (fun d1 => ?_) (fun d1 => ?_)
            · have d2 : v + sp = O := nat3 (by simpa using d1)
              refine ⟨_, rfl, _, _, rfl, rfl, _, _, rfl, ?_⟩
              exact fin i (j + 1) (u + sp) 0 (by omega) (hpst sp (by omega)) (hqn sp d2) _ rfl
            · exfalso
              have d2 : ¬ v + sp = O := fun z => d1 (by simp [z])
              omega
      · have hj : ¬ j < qs.length := fun z => h2 (by simp; omega)
        exact ⟨_, rfl, dn (.inr (hq.done hj)) _ sH⟩
    · have hi : ¬ i < ps.length := fun z => h1 (by simp; omega)
      exact ⟨_, rfl, dn (.inl (hp.done hi)) _ sH⟩
end
end K23
namespace K23
open PySem PySem.Spec PyProof.Rows L2 RwM Rw
abbrev sRepeated : Stmt := top 23
/-- how far the numbers from one on repeat their first step -/
def spRepeated : Sp := fun vs H Q _ => ∃ (a : Addr) (ns : List Int) (b st : Nat), vs = [.ref a, .int b, .int st] ∧ H a = some (.tup (ns.map V.int)) ∧ 0 < st ∧ st ≤ 1000 ∧
  ∀ (q : Nat) (H' : Hp), Same H H' → 1 ≤ q → (q = 1 ∨ b + q * st ≤ ns.length) → (∀ k, b + st ≤ k → k < b + q * st → ns[k]? = ns[k - st]?) → Q (.int ((q * st : Nat) : Int)) H'
section
variable {P : Program} {w : World} {K : PySem.W.Frag} {mg : Str → Option Value} {base : Heap}
abbrev nmRepeated : List Str := ["numbers", "first", "step", "at"]
theorem scRepeated : FnScope nmRepeated ["numbers", "first", "step"] (defScope sRepeated) := ⟨rfl, rfl, rfl, by decide +kernel, rfl, by decide +kernel, by decide +kernel⟩
theorem ok_repeated {f : Addr} {fd : FuncData} (F : Fun K "repeated_length" "repeated_length" sRepeated f fd) (zN : mg "len" = none) :
    FnOk P w K mg base CX0 1 f fd ["numbers", "first", "step"] spRepeated := by
  refine F.ok scRepeated (fun vs H Q E h => ?_) (fun cdv A outer s H vs Q E hr h => ?_)
  · obtain ⟨a, ns, b, st, rfl, _⟩ := h
    rfl
  · obtain ⟨a, ns, b, st, rfl, hA, hst, hst9, k⟩ := h
    have nd := scRepeated.nd
    refine ⟨_, (pss_cons (ps_set (i := 3) nd rfl (Or.inl rfl) (pe_op op_add (pv 1) (pv 2)))
(pss_cons (ps_while PassesOwn.never (PW.pt (pw_and (pt_cmpR op_lt (pv 3) (pe_callB (r := rLenS K) call_lenS (by rfl) zN PySem.boot_len (pa_cons (pv 0) pa_nil)) (nomark _)) (pw_and1 (pt_cmpR op_eq (pe_ix ix_tup (pv 0) (pv 3) (fun _ _ => rfl)) (pe_ix ix_tup (pv 0) (pe_op op_sub (pv 3) (pv 2)) (fun _ _ => rfl)) (nomark _)))))
(pss_one (ps_aug (i := 3) nd rfl (Or.inl rfl) pe_int ip_add)))
(pss_one (ps_ret (pe_op op_mul (pe_op op_fdiv (pe_op op_sub (pv 3) (pv 1)) (pv 2)) (pv 2)))))), ?_⟩
    refine ⟨_, rfl, _, rfl, _, _, rfl, rfl, ?_⟩
    have ln : (ns.map V.int).length = ns.length := List.length_map ..
    dsimp only
    rw [← Int.natCast_add]
    refine ⟨fun m σ H' => ∃ (t : Nat), σ = [some (.ref a), some (.int b), some (.int st), some (.int t)] ∧ m = ns.length - t ∧ b + st ≤ t ∧ (t = b + st ∨ t ≤ ns.length) ∧ (∀ k, b + st ≤ k → k < t → ns[k]? = ns[k - st]?) ∧ Same H H',
      ⟨_, b + st, rfl, rfl, Nat.le_refl _, .inl rfl, fun k h1 h2 => by omega, .refl _⟩, ?_⟩
    rintro m σ H' ⟨t, rfl, rfl, ht, htl, hk, sH⟩
    have hcd : CDiv ((t : Int) - (b : Int)) (st : Int) := by constructor <;> omega
    have hb : -(2 ^ 64) < (st : Int) ∧ (st : Int) < 2 ^ 64 := by constructor <;> omega
    have eq1 : ((t : Int) - (b : Int)) / (st : Int) * (st : Int) = (((t - b) / st * st : Nat) : Int) := by
      have e1 : (t : Int) - (b : Int) = ((t - b : Nat) : Int) := by omega
      rw [e1, divN, Int.natCast_mul]
    have q1 : 1 ≤ (t - b) / st := (Nat.le_div_iff_mul_le hst).mpr (by omega)
    have q2 : (t - b) / st * st ≤ t - b := Nat.div_mul_le_self ..
    have fin : ∀ H'', Same H H'' → Q (.int (((t : Int) - (b : Int)) / (st : Int) * (st : Int))) H'' := fun H'' s2 => by
      rw [eq1]
      refine k _ H'' s2 q1 ?_ fun i h1 h2 => hk i h1 (by omega)
      rcases htl with z | z
      · left
        have e : t - b = st := by omega
        rw [e, Nat.div_self hst]
      · right; omega
    refine ⟨_, rfl, _, rfl, a, _, rfl, .inr (SqT.of (sH _ _ hA)), _, _, rfl, rfl, _, rfl, ?_⟩
    refine ite2 (fun h1 => ?_) (fun h1 => ?_)
    · have hlt : t < ns.length := by
        have z : (t : Int) < ((ns.map V.int).length : Int) := by simpa using h1
        rw [ln] at z
        omega
      have g1 : ns[t]? = some ns[t] := List.getElem?_eq_getElem hlt
      have g2 : ns[t - st]? = some (ns[t - st]'(by omega)) := List.getElem?_eq_getElem (by omega)
      have e2 : (t : Int) - (st : Int) = ((t - st : Nat) : Int) := by omega
      refine ⟨_, rfl, _, rfl, a, _, _, .int ns[t], rfl, rfl, SqT.of (sH _ _ hA), atI_nat (by rw [List.getElem?_map, g1]; rfl), ?_⟩
      refine ⟨_, rfl, _, rfl, _, rfl, _, _, rfl, rfl, a, _, _, .int (ns[t - st]'(by omega)), rfl, rfl, SqT.of (sH _ _ hA), by rw [e2]; exact atI_nat (by rw [List.getElem?_map, g2]; rfl), rfl, _, rfl, ?_⟩
      refine ite2 (fun h2 => ?_) (fun h2 => ?_)
      · have h3 : ns[t] = ns[t - st]'(by omega) := by simpa using h2
        refine ⟨fun σ' H2 => ∃ m', m' < ns.length - t ∧ ∃ (t : Nat), σ' = [some (.ref a), some (.int b), some (.int st), some (.int t)] ∧ m' = ns.length - t ∧ b + st ≤ t ∧ (t = b + st ∨ t ≤ ns.length) ∧ (∀ k, b + st ≤ k → k < t → ns[k]? = ns[k - st]?) ∧ Same H H2, fun _ _ h => h, ?_⟩
        refine ⟨_, rfl, _, _, rfl, rfl, _, by show ns.length - (t + 1) < _; omega, t + 1, rfl, rfl, by omega, .inr hlt, fun i h4 h5 => ?_, sH⟩
        rcases Nat.lt_succ_iff_lt_or_eq.mp h5 with z | z
        · exact hk i h4 z
        · rw [z, g1, g2, h3]
      · exact ⟨_, rfl, _, rfl, _, _, rfl, rfl, _, rfl, _, _, rfl, rfl, hcd, _, rfl, _, _, rfl, rfl, .inr hb, fin _ sH⟩
    · exact ⟨_, rfl, _, rfl, _, _, rfl, rfl, _, rfl, _, _, rfl, rfl, hcd, _, rfl, _, _, rfl, rfl, .inr hb, fin _ sH⟩
end
end K23
namespace K23
open PySem PySem.Spec PyProof.Rows L2 RwM Rw
abbrev sPacked : Stmt := top 24
theorem period_at {ns : List Int} {b st n : Nat} (hst : 0 < st) (h : ∀ k, b + st ≤ k → k < b + n → ns[k]? = ns[k - st]?) : ∀ i, i < n → ns[b + i]? = ns[b + i % st]? := by
  intro i
  induction i using Nat.strongRecOn with
  | _ i ih =>
    intro hi
    by_cases z : i < st
    · rw [Nat.mod_eq_of_lt z]
    · have e := h (b + i) (by omega) (by omega)
      have e2 : b + i - st = b + (i - st) := by omega
      rw [e, e2, ih (i - st) (by omega) (by omega), Nat.mod_eq_sub_mod (a := i) (b := st) (by omega)]
theorem rep_period {ns : List Int} {b st q : Nat} (hst : 0 < st) (hq : 1 ≤ q) (hl : b + q * st ≤ ns.length) (h : ∀ k, b + st ≤ k → k < b + q * st → ns[k]? = ns[k - st]?) :
    rep ((ns.drop b).take st) ((q : Nat) : Int) = (ns.drop b).take (q * st) := by
  have hm : st ≤ q * st := Nat.le_mul_of_pos_left _ hq
  have lw : ((ns.drop b).take st).length = st := by rw [List.length_take, List.length_drop]; omega
  refine List.ext_getElem? fun i => ?_
  by_cases z : i < q * st
  · rw [rep_get _ _ _ (by rw [lw, Int.toNat_natCast]; exact z), lw, List.getElem?_take_of_lt (Nat.mod_lt _ hst), List.getElem?_take_of_lt z, List.getElem?_drop, List.getElem?_drop, period_at hst h i z]
  · rw [List.getElem?_eq_none (by rw [rep_length, lw, Int.toNat_natCast]; omega), List.getElem?_eq_none (by rw [List.length_take]; omega)]
theorem push {H H' H5 : Hp} {kk q5 t6 : Addr} {us : List V} {qs : PS} {wd : List Int} {c : Int} (nk : H kk = none) (sH : Same H H') (hk : H' kk = some (.lst us)) (hq : Prs H' us qs) (s5 : Same H' H5) (h5 : H5 q5 = some (.tup (wd.map V.int))) (n6 : H5 t6 = none) :
    ∃ H7, H7 = upd (upd H5 t6 (.tup [.ref q5, .int c])) kk (.lst (us ++ [.ref t6])) ∧ H7 kk = some (.lst (us ++ [.ref t6])) ∧ Prs H7 (us ++ [.ref t6]) (qs ++ [(wd, c)]) ∧ Same H H7 := by
  have st6 := sameNew (o := .tup [.ref q5, .int c]) n6
  have hk6 := st6 _ _ (s5 _ _ hk)
  have bt6 := But.put (k := kk) (H := upd H5 t6 (.tup [.ref q5, .int c])) (o := .lst (us ++ [.ref t6]))
  refine ⟨_, rfl, upd_same, (((hq.same s5).same st6).but hk6 bt6).snoc (PairAt.but ⟨t6, q5, rfl, upd_same, st6 _ _ h5⟩ hk6 bt6), fun b o e => ?_⟩
  rw [upd_ne (ne_of_none e nk)]
  exact st6 _ _ (s5 _ _ (sH _ _ e))
/-- pairs that tell the numbers -/
def spPacked : Sp := fun vs H Q _ => ∃ (a : Addr) (ns : List Int), vs = [.ref a] ∧ H a = some (.tup (ns.map V.int)) ∧ ns.length ≤ 100000 ∧
  ∀ (t : Addr) (qs : PS) (H' : Hp), Same H H' → H t = none → Gd H' t qs (ns.length / 20 + 1) → flat qs = ns → Q (.ref t) H'
/-- the state of packed between its turns -/
def PkI (H : Hp) (a kk : Addr) (ns : List Int) (m : Nat) (σ : L2.St) (H' : Hp) : Prop := ∃ (g t : Nat) (x4 x5 : Option V) (us : List V) (qs : PS), σ = [some (.ref a), some (.ref kk), some (.int g), some (.int t), x4, x5] ∧ m = ns.length - t ∧ g ≤ t ∧ t ≤ ns.length ∧ H' kk = some (.lst us) ∧ Prs H' us qs ∧ flat qs = ns.take g ∧
  qs.length * 20 ≤ g ∧ (∀ q ∈ qs, 0 ≤ q.2 ∧ q.1.length ≤ 100000) ∧ Same H H'
section
variable {P : Program} {w : World} {K : PySem.W.Frag} {mg : Str → Option Value} {base : Heap}
abbrev nmPacked : List Str := ["numbers", "kept", "begun", "at", "step", "size"]
theorem scPacked : FnScope nmPacked ["numbers"] (defScope sPacked) := ⟨rfl, rfl, rfl, by decide +kernel, rfl, by decide +kernel, by decide +kernel⟩
theorem ok_packed {f fM fR : Addr} {fd fdM fdR : FuncData} {tk : Tok} (F : Fun K "packed" "packed" sPacked f fd) (zN : mg "len" = none) (zR : mg "range" = none) (mL : mg "LONGEST_WORD" = some (.int 40 tk))
    (GM : FnOk P w K mg base CX0 1 fM fdM ["pairs"] spMerged) (AM : At K mg "merged" fM fdM ["pairs"])
    (GR : FnOk P w K mg base CX0 1 fR fdR ["numbers", "first", "step"] spRepeated) (AR : At K mg "repeated_length" fR fdR ["numbers", "first", "step"]) :
    FnOk P w K mg base CX0 2 f fd ["numbers"] spPacked := by
  refine F.ok scPacked (fun vs H Q E h => ?_) (fun cdv A outer s H vs Q E hr h => ?_)
  · obtain ⟨a, ns, rfl, _⟩ := h
    rfl
  · obtain ⟨a, ns, rfl, hA, hl, k⟩ := h
    have nd := scPacked.nd
    refine ⟨_, (pss_cons (ps_set (i := 1) nd rfl (Or.inl rfl) (pe_lst pa_nil))
(pss_cons (ps_asg2 pe_int (pg_name (i := 2) nd rfl (Or.inl rfl)) (pg_name (i := 3) nd rfl (Or.inl rfl)))
(pss_cons (ps_while PassesOwn.never (pt_cmpR op_lt (pv 3) (pe_callB (r := rLenS K) call_lenS (by rfl) zN PySem.boot_len (pa_cons (pv 0) pa_nil)) (nomark _))
(pss_one (ps_forE PassesOwn.never rfl (pi_range2 rfl zR (pa_cons pe_int (pa_cons (pe_op op_add (pe_glob (v := .int 40) rfl mL ⟨_, rfl⟩) pe_int) pa_nil))) (pg_name (i := 4) nd rfl (Or.inl rfl))
(pss_cons (ps_set (i := 5) nd rfl (Or.inl rfl) (pe_call GR hr rfl AR.mg AR.kp AR.bd .nil pass0 (pa_cons (pv 0) (pa_cons (pv 3) (pa_cons (pv 4) pa_nil)))))
(pss_one (ps_if (pt_cmpR op_gt (pv 5) (pe_glob (v := .int 40) rfl mL ⟨_, rfl⟩) (nomark _))
(pss_cons (ps_expr (pe_bm PySem.F.plainAttrs_list PySem.F.slot_list_append PySem.F.type_list_append mt_append (pv 1) (pa_cons (pe_tup (pa_cons (pe_slice sl_tupN (pv 0) (po_some (pv 2)) (po_some (pv 3))) (pa_cons pe_int pa_nil))) pa_nil)))
(pss_cons (ps_expr (pe_bm PySem.F.plainAttrs_list PySem.F.slot_list_append PySem.F.type_list_append mt_append (pv 1) (pa_cons (pe_tup (pa_cons (pe_slice sl_tupN (pv 0) (po_some (pv 3)) (po_some (pe_op op_add (pv 3) (pv 4)))) (pa_cons (pe_op op_fdiv (pv 5) (pv 4)) pa_nil))) pa_nil)))
(pss_cons (ps_asg2 (pe_op op_add (pv 3) (pv 5)) (pg_name (i := 2) nd rfl (Or.inl rfl)) (pg_name (i := 3) nd rfl (Or.inl rfl)))
(pss_one ps_break))))
pss_nil)))
(pss_cons (ps_aug (i := 3) nd rfl (Or.inl rfl) pe_int ip_add)
(pss_one (ps_if (pt_cmpR op_eq (pe_op op_sub (pv 3) (pv 2)) (pe_glob (v := .int 40) rfl mL ⟨_, rfl⟩) (nomark _))
(pss_cons (ps_expr (pe_bm PySem.F.plainAttrs_list PySem.F.slot_list_append PySem.F.type_list_append mt_append (pv 1) (pa_cons (pe_tup (pa_cons (pe_slice sl_tupN (pv 0) (po_some (pv 2)) (po_some (pv 3))) (pa_cons pe_int pa_nil))) pa_nil)))
(pss_one (ps_set (i := 2) nd rfl (Or.inl rfl) (pv 3))))
pss_nil))))))
(pss_cons (ps_expr (pe_bm PySem.F.plainAttrs_list PySem.F.slot_list_append PySem.F.type_list_append mt_append (pv 1) (pa_cons (pe_tup (pa_cons (pe_slice sl_tupN (pv 0) (po_some (pv 2)) po_none) (pa_cons pe_int pa_nil))) pa_nil)))
(pss_one (ps_ret (pe_call GM hr rfl AM.mg AM.kp AM.bd .nil pass0 (pa_cons (pv 1) pa_nil)))))))), ?_⟩
    have ln : (ns.map V.int).length = ns.length := List.length_map ..
    refine ⟨Nat.zero_le _, fun kk nk => ?_⟩
    have sm := sameNew (o := .lst []) nk
    have na : a ≠ kk := ne_of_none hA nk
    refine ⟨PkI H a kk ns, ⟨_, 0, 0, none, none, [], [], rfl, rfl, Nat.le_refl _, Nat.zero_le _, upd_same, .nil, rfl, Nat.le_refl _, fun q hq => (List.not_mem_nil hq).elim, sm⟩, ?_⟩
    rintro m σ H' ⟨g, t, x4, x5, us, qs, rfl, rfl, hgt, htn, hk, hq, hf, hn, hok, sH⟩
    have lus : us.length ≤ 5000 := by rw [hq.len]; omega
    refine ⟨_, rfl, _, rfl, a, _, rfl, .inr (SqT.of (sH _ _ hA)), _, _, rfl, rfl, _, rfl, ?_⟩
    refine ite2 (fun h1 => ?_) (fun h1 => ?_)
    · have hlt : t < ns.length := by
        have z : (t : Int) < ((ns.map V.int).length : Int) := by simpa using h1
        rw [ln] at z
        omega
      refine ⟨fun σ' H2 => ∃ m', m' < ns.length - t ∧ PkI H a kk ns m' σ' H2, fun _ _ h => h, ?_⟩
      refine ⟨_, _, rfl, rfl, 1, _, rfl, ⟨by decide, by decide, by decide, by decide⟩, forE_by 40 (fun i σ H2 => ∃ (x4 x5 : Option V), σ = [some (.ref a), some (.ref kk), some (.int g), some (.int t), x4, x5] ∧ Same H' H2)
        ⟨x4, x5, rfl, .refl _⟩ (fun i σ H2 hi _ => hi) (fun σ H2 _ => Nat.le_refl _) ?_ ?_⟩
      · rintro i x σ H2 H3 hi ⟨x4, x5, rfl, s2⟩ ⟨rfl, rfl⟩
        have sH3 := sH.trans s2
        refine ⟨_, rfl, _, rfl, _, rfl, a, ns, t, 1 + i, rfl, sH3 _ _ hA, by omega, by omega, fun q H4 s4 hq1 hq2 hq3 => ?_⟩
        refine ⟨_, rfl, _, _, rfl, rfl, _, rfl, ?_⟩
        have s24 := s2.trans s4
        have sH4 := sH.trans s24
        have hk4 := s24 _ _ hk
        have hq4 := hq.same s24
        refine ite2 (fun c1 => ?_) (fun c1 => ?_)
        · have c2 : 40 < q * (1 + i) := by
            have z : (40 : Int) < ((q * (1 + i) : Nat) : Int) := by simpa using c1
            omega
          have hqn : t + q * (1 + i) ≤ ns.length := by
            rcases hq2 with z | z
            · rw [z] at c2; omega
            · exact z
          have hst0 : 0 < 1 + i := by omega
          have hm : 1 + i ≤ q * (1 + i) := Nat.le_mul_of_pos_left _ hq1
          refine ⟨_, rfl, .inl ⟨rfl, _, SqL.of hk4⟩, _, rfl, _, rfl, _, rfl, _, rfl, _, rfl, a, _, rfl, sH4 _ _ hA, fun q5 H5 s5 hq5 => ⟨by show 2 ≤ sizeLine; decide, fun t6 nt6 => ⟨kk, _, _, rfl, rfl, sameNew nt6 _ _ (s5 _ _ hk4), by rw [sizeLine_eq]; omega, ?_⟩⟩⟩
          rw [cut_both _ _ _ hgt] at hq5
          obtain ⟨H7, e7, hk7, hq7, sH7⟩ := push (c := 1) nk sH4 hk4 hq4 s5 hq5 nt6
          rw [← e7]
          have hcd : CDiv ((q * (1 + i) : Nat) : Int) ((1 : Int) + (i : Int)) := by constructor <;> omega
          have eqd : ((q * (1 + i) : Nat) : Int) / ((1 : Int) + (i : Int)) = (q : Int) := by
            have e1 : (1 : Int) + (i : Int) = ((1 + i : Nat) : Int) := by omega
            rw [e1, divN, Nat.mul_div_cancel _ hst0]
          have l7 : (us ++ [V.ref t6]).length + 2 < sizeLine := by rw [List.length_append, sizeLine_eq]; show us.length + 1 + 2 < _; omega
          refine ⟨_, rfl, .inl ⟨rfl, _, SqL.of hk7⟩, _, rfl, _, rfl, _, rfl, _, rfl, _, rfl, _, _, rfl, rfl, _, rfl, a, _, rfl, sH7 _ _ hA, fun q8 H8 s8 hq8 => ⟨_, rfl, _, rfl, _, _, rfl, rfl, hcd, by show 2 ≤ sizeLine; decide, fun t9 nt9 => ⟨kk, _, _, rfl, rfl, sameNew nt9 _ _ (s8 _ _ hk7), by omega, ?_⟩⟩⟩
          have e2 : (t : Int) + ((1 : Int) + (i : Int)) = ((t + (1 + i) : Nat) : Int) := by omega
          dsimp only
          rw [e2, cut_both _ _ _ (by omega)] at hq8
          rw [eqd]
          have e3 : t + (1 + i) - t = 1 + i := by omega
          rw [e3] at hq8
          obtain ⟨H9, e9, hk9, hq9, sH9⟩ := push (c := (q : Int)) nk sH7 hk7 hq7 s8 hq8 nt9
          rw [← e9]
          have e4 : (t : Int) + ((q * (1 + i) : Nat) : Int) = ((t + q * (1 + i) : Nat) : Int) := by omega
          refine ⟨_, rfl, _, rfl, _, _, rfl, rfl, ?_⟩
          dsimp only
          rw [e4]
          refine ⟨_, ?_, t + q * (1 + i), t + q * (1 + i), _, _, _, _, rfl, rfl, Nat.le_refl _, hqn, hk9, hq9, ?_, ?_, ?_, sH9⟩
          · omega
          · rw [flat_append, flat_append, flat_one, flat_one, hf]
            show ns.take g ++ rep ((ns.drop g).take (t - g)) 1 ++ rep ((ns.drop t).take (1 + i)) (q : Int) = _
            rw [rep_one, rep_period hst0 hq1 hqn hq3, ← List.take_add]
            have e5 : g + (t - g) = t := by omega
            rw [e5, ← List.take_add]
          · rw [List.length_append, List.length_append]
            show (qs.length + 1 + 1) * 20 ≤ _
            omega
          · intro z hz
            rcases List.mem_append.mp hz with z1 | z1
            · rcases List.mem_append.mp z1 with z2 | z2
              · exact hok z z2
              · rw [List.mem_singleton.mp z2]
                exact ⟨by show (0 : Int) ≤ 1; decide, by show ((ns.drop g).take _).length ≤ _; rw [List.length_take, List.length_drop]; omega⟩
            · rw [List.mem_singleton.mp z1]
              exact ⟨Int.natCast_nonneg _, by show ((ns.drop t).take _).length ≤ _; rw [List.length_take, List.length_drop]; omega⟩
        · exact ⟨_, _, rfl, s24⟩
      · rintro σ H2 ⟨x4, x5, rfl, s2⟩
        have sH2 := sH.trans s2
        have hk2 := s2 _ _ hk
        have hq2 := hq.same s2
        have e1 : (t : Int) + 1 = ((t + 1 : Nat) : Int) := by omega
        refine ⟨_, rfl, _, _, rfl, rfl, ?_⟩
        dsimp only
        rw [e1]
        refine ⟨_, rfl, _, rfl, _, _, rfl, rfl, rfl, _, rfl, ?_⟩
        refine ite2 (fun c1 => ?_) (fun c1 => ?_)
        · have c2 : t + 1 = g + 40 := by
            have z : ((t + 1 : Nat) : Int) - (g : Int) = 40 := by simpa using c1
            omega
          refine ⟨_, rfl, .inl ⟨rfl, _, SqL.of hk2⟩, _, rfl, _, rfl, _, rfl, _, rfl, _, rfl, a, _, rfl, sH2 _ _ hA, fun q5 H5 s5 hq5 => ⟨by show 2 ≤ sizeLine; decide, fun t6 nt6 => ⟨kk, _, _, rfl, rfl, sameNew nt6 _ _ (s5 _ _ hk2), by rw [sizeLine_eq]; omega, ?_⟩⟩⟩
          rw [cut_both _ _ _ (by omega)] at hq5
          obtain ⟨H7, e7, hk7, hq7, sH7⟩ := push (c := 1) nk sH2 hk2 hq2 s5 hq5 nt6
          rw [← e7]
          refine ⟨_, rfl, _, ?_, t + 1, t + 1, x4, x5, _, _, rfl, rfl, Nat.le_refl _, hlt, hk7, hq7, ?_, ?_, ?_, sH7⟩
          · omega
          · rw [flat_append, flat_one, hf]
            show ns.take g ++ rep ((ns.drop g).take (t + 1 - g)) 1 = _
            rw [rep_one, ← List.take_add]
            congr 1
            omega
          · rw [List.length_append]
            show (qs.length + 1) * 20 ≤ _
            omega
          · intro z hz
            rcases List.mem_append.mp hz with z1 | z1
            · exact hok z z1
            · rw [List.mem_singleton.mp z1]
              exact ⟨by show (0 : Int) ≤ 1; decide, by show ((ns.drop g).take _).length ≤ _; rw [List.length_take, List.length_drop]; omega⟩
        · exact ⟨_, by show ns.length - (t + 1) < _; omega, g, t + 1, x4, x5, us, qs, rfl, rfl, by omega, hlt, hk2, hq2, hf, hn, hok, sH2⟩
    · have htl : t = ns.length := by
        have z : ¬ t < ns.length := fun z => h1 (by simp; omega)
        omega
      refine ⟨_, rfl, .inl ⟨rfl, _, SqL.of hk⟩, _, rfl, _, rfl, _, rfl, a, _, rfl, sH _ _ hA, fun q5 H5 s5 hq5 => ⟨by show 2 ≤ sizeLine; decide, fun t6 nt6 => ⟨kk, _, _, rfl, rfl, sameNew nt6 _ _ (s5 _ _ hk), by rw [sizeLine_eq]; omega, ?_⟩⟩⟩
      rw [cut_drop] at hq5
      obtain ⟨H7, e7, hk7, hq7, sH7⟩ := push (c := 1) nk sH hk hq s5 hq5 nt6
      rw [← e7]
      refine ⟨_, rfl, kk, _, _, rfl, .inl hk7, hq7, ?_, ?_, fun t2 qs2 H8 s8 nt8 gd hf8 => k t2 qs2 H8 (sH7.trans s8) (sH7.free nt8) (gd.more ?_) ?_⟩
      · rw [List.length_append]
        show qs.length + 1 ≤ _
        omega
      · intro z hz
        rcases List.mem_append.mp hz with z1 | z1
        · exact hok z z1
        · rw [List.mem_singleton.mp z1]
          exact ⟨by show (0 : Int) ≤ 1; decide, by show (ns.drop g).length ≤ _; rw [List.length_drop]; omega⟩
      · rw [List.length_append]
        show qs.length + 1 ≤ _
        omega
      · rw [hf8, flat_append, flat_one, hf]
        show ns.take g ++ rep (ns.drop g) 1 = ns
        rw [rep_one, List.take_append_drop]
end
end K23
namespace K23
open PySem PySem.Spec PyProof.Rows L2 RwM Rw
abbrev sIsInt : Stmt := top 1
abbrev sWithin : Stmt := top 2
abbrev sIsList : Stmt := top 3
abbrev sIsPair : Stmt := top 4
abbrev sIsInts : Stmt := top 5
/-- a value, and what it holds if it is a list or a tuple -/
inductive SeqK (H : Hp) : V → Option (List V) → Prop where
  | non : SeqK H .non none
  | bl (b : Bool) : SeqK H (.bl b) none
  | int (i : Int) : SeqK H (.int i) none
  | str (z : Str) : SeqK H (.str z) none
  | dK {a : Addr} {kvs : List (Key × V)} (h : H a = some (.dK kvs)) : SeqK H (.ref a) none
  | lst {a : Addr} {xs : List V} (h : H a = some (.lst xs)) : SeqK H (.ref a) (some xs)
  | tup {a : Addr} {xs : List V} (h : H a = some (.tup xs)) : SeqK H (.ref a) (some xs)
theorem SeqK.same {H H' : Hp} {v : V} {o : Option (List V)} (m : SeqK H v o) (s : Same H H') : SeqK H' v o := by
  cases m with
  | non => exact .non
  | bl b => exact .bl b
  | int i => exact .int i
  | str z => exact .str z
  | dK h => exact .dK (s _ _ h)
  | lst h => exact .lst (s _ _ h)
  | tup h => exact .tup (s _ _ h)
theorem SeqK.sq {H : Hp} {v : V} {xs : List V} (m : SeqK H v (some xs)) : ∃ a, v = .ref a ∧ SqA H a xs := by
  cases m with
  | lst h => exact ⟨_, rfl, .inl h⟩
  | tup h => exact ⟨_, rfl, .inr h⟩
def isI : V → Bool
  | .int _ => true
  | _ => false
def isBl : V → Bool
  | .bl _ => true
  | _ => false
def wth (v : V) (lo hi : Int) : Bool := match v with
  | .int i => decide (lo ≤ i) && decide (i ≤ hi)
  | _ => false
def rIsInt : List V → Hp → VK → Prop := fun xs H Q => ∃ v o, xs = [v, .ty "int"] ∧ SeqK H v o ∧ Q (.bl (isI v || isBl v)) H
def rIsBool : List V → Hp → VK → Prop := fun xs H Q => ∃ v o, xs = [v, .ty "bool"] ∧ SeqK H v o ∧ Q (.bl (isBl v)) H
def rIsSeq (K : PySem.W.Frag) : List V → Hp → VK → Prop := fun xs H Q => ∃ v o tp, xs = [v, .ref tp] ∧ (SeqK H v o ∨ ∃ a, v = .ref a ∧ o = some [] ∧ SqT K H a []) ∧ H tp = some (.tup [.ty "list", .ty "tuple"]) ∧ Q (.bl o.isSome) H
/-- a tuple of nothing, which may stand in the written part -/
def EmpT (K : PySem.W.Frag) (H : Hp) (v : V) (o : Option (List V)) : Prop := ∃ a, v = .ref a ∧ o = some [] ∧ SqT K H a []
theorem sameT {K : PySem.W.Frag} {H H' : Hp} {a : Addr} {xs : List V} (h : SqT K H a xs) (s : Same H H') : SqT K H' a xs := by
  rcases h with (h | ⟨o, h⟩) | h
  · exact .inl (.inl (s _ _ h))
  · exact .inl (.inr ⟨o, s _ _ h⟩)
  · exact .inr h
theorem tyT {K : PySem.W.Frag} {H : Hp} {a : Addr} {xs : List V} (h : SqT K H a xs) : TyX K H (.ref a) (.type "tuple") := by
  rcases h with (h | ⟨o, h⟩) | ⟨o, its, n, h1, h2, _⟩
  · exact .base (.tup h)
  · exact .fTuple h
  · exact .kTuple h1 h2
section
variable {X : Cx}
theorem call_isInt : CallR X (.builtin "isinstance") rIsInt := by
  intro pins s σ H xs us Q I r ⟨v, o, ex, m, q⟩
  subst ex
  have c : ∀ (T : String) (b : Bool), TyX X.K H v (.type T) → kitB T "int" = some b → b = (isI v || isBl v) → rIsi X.K [v, .ty "int"] H Q := fun T b h1 h2 h3 => ⟨v, .ty "int", .type T, .type "int", b, rfl, .ty _, h1, kit_ty h2, by rw [h3]; exact q⟩
  refine call_isi pins s σ H _ us Q I r ?_
  cases m with
  | non => exact c "NoneType" false (.base .non) (by decide +kernel) rfl
  | bl b => exact c "bool" true (.base (.bl b)) (by decide +kernel) rfl
  | int i => exact c "int" true (.base (.int i)) (by decide +kernel) rfl
  | str z => exact c "str" false (.base (.str z)) (by decide +kernel) rfl
  | dK h => exact c "dict" false (.base (.dK h)) (by decide +kernel) rfl
  | lst h => exact c "list" false (.base (.lst h)) (by decide +kernel) rfl
  | tup h => exact c "tuple" false (.base (.tup h)) (by decide +kernel) rfl
theorem call_isBool : CallR X (.builtin "isinstance") rIsBool := by
  intro pins s σ H xs us Q I r ⟨v, o, ex, m, q⟩
  subst ex
  have c : ∀ (T : String) (b : Bool), TyX X.K H v (.type T) → kitB T "bool" = some b → b = isBl v → rIsi X.K [v, .ty "bool"] H Q := fun T b h1 h2 h3 => ⟨v, .ty "bool", .type T, .type "bool", b, rfl, .ty _, h1, kit_ty h2, by rw [h3]; exact q⟩
  refine call_isi pins s σ H _ us Q I r ?_
  cases m with
  | non => exact c "NoneType" false (.base .non) (by decide +kernel) rfl
  | bl b => exact c "bool" true (.base (.bl b)) (by decide +kernel) rfl
  | int i => exact c "int" false (.base (.int i)) (by decide +kernel) rfl
  | str z => exact c "str" false (.base (.str z)) (by decide +kernel) rfl
  | dK h => exact c "dict" false (.base (.dK h)) (by decide +kernel) rfl
  | lst h => exact c "list" false (.base (.lst h)) (by decide +kernel) rfl
  | tup h => exact c "tuple" false (.base (.tup h)) (by decide +kernel) rfl
theorem kitA2 {K : PySem.W.Frag} {T : String} {b1 b2 : Bool} (h1 : kitB T "list" = some b1) (h2 : kitB T "tuple" = some b2) : PySem.W.kitAny K (.type T) [.type "list", .type "tuple"] = some (b1 || b2) :=
  kitAny_cons (kit_ty h1) (fun e => by subst e; exact kitAny_cons (kit_ty h2) (fun e => by subst e; rfl) (fun e => by subst e; rfl)) (fun e => by subst e; rfl)
theorem call_isSeq : CallR X (.builtin "isinstance") (rIsSeq X.K) := by
  intro pins s σ H xs us Q I r ⟨v, o, tp, ex, m, ht, q⟩
  subst ex
  have c : ∀ (T : String) (b1 b2 : Bool), TyX X.K H v (.type T) → kitB T "list" = some b1 → kitB T "tuple" = some b2 → (b1 || b2) = o.isSome → rIsiT X.K [v, .ref tp] H Q :=
    fun T b1 b2 h1 h2 h3 h4 => ⟨v, tp, _, .type T, _, b1 || b2, rfl, ht, .cons (.ty _) (.cons (.ty _) .nil), h1, kitA2 h2 h3, by rw [h4]; exact q⟩
  refine call_isiT pins s σ H _ us Q I r ?_
  rcases m with m | ⟨a, rfl, rfl, hT⟩
  case inr => exact c "tuple" false true (tyT hT) (by decide +kernel) (by decide +kernel) rfl
  cases m with
  | non => exact c "NoneType" false false (.base .non) (by decide +kernel) (by decide +kernel) rfl
  | bl b => exact c "bool" false false (.base (.bl b)) (by decide +kernel) (by decide +kernel) rfl
  | int i => exact c "int" false false (.base (.int i)) (by decide +kernel) (by decide +kernel) rfl
  | str z => exact c "str" false false (.base (.str z)) (by decide +kernel) (by decide +kernel) rfl
  | dK h => exact c "dict" false false (.base (.dK h)) (by decide +kernel) (by decide +kernel) rfl
  | lst h => exact c "list" true false (.base (.lst h)) (by decide +kernel) (by decide +kernel) rfl
  | tup h => exact c "tuple" false true (.base (.tup h)) (by decide +kernel) (by decide +kernel) rfl
end
def spIsInt : Sp := fun vs H Q _ => ∃ v o, vs = [v] ∧ SeqK H v o ∧ ∀ H', Same H H' → Q (.bl (isI v)) H'
def spWithin : Sp := fun vs H Q _ => ∃ v o lo hi, vs = [v, .int lo, .int hi] ∧ SeqK H v o ∧ ∀ H', Same H H' → Q (.bl (wth v lo hi)) H'
def spIsList (K : PySem.W.Frag) : Sp := fun vs H Q _ => ∃ v o, vs = [v] ∧ (SeqK H v o ∨ EmpT K H v o) ∧ ∀ H', Same H H' → Q (.bl o.isSome) H'
def two : Option (List V) → Bool
  | some xs => xs.length == 2
  | none => false
def spIsPair : Sp := fun vs H Q _ => ∃ v o, vs = [v] ∧ SeqK H v o ∧ (∀ xs, o = some xs → xs.length ≤ 100000) ∧ ∀ H', Same H H' → Q (.bl (two o)) H'
section
variable {P : Program} {w : World} {K : PySem.W.Frag} {mg : Str → Option Value} {base : Heap}
theorem scIsInt : FnScope ["value"] ["value"] (defScope sIsInt) := ⟨rfl, rfl, rfl, by decide +kernel, rfl, by decide +kernel, by decide +kernel⟩
theorem ok_isInt {f : Addr} {fd : FuncData} (F : Fun K "is_integer" "is_integer" sIsInt f fd) (zS : mg "isinstance" = none) (zI : mg "int" = none) (zB : mg "bool" = none) :
    FnOk P w K mg base CX0 1 f fd ["value"] spIsInt := by
  refine F.ok scIsInt (fun vs H Q E h => ?_) (fun cdv A outer s H vs Q E hr h => ?_)
  · obtain ⟨v, o, rfl, _⟩ := h
    rfl
  · obtain ⟨v, o, rfl, m, k⟩ := h
    have nd := scIsInt.nd
    have bx : bootBuiltins "isinstance" = some (.builtin "isinstance") := by decide +kernel
    have bi : bootBuiltins "int" = some (.type "int") := by decide +kernel
    have bb : bootBuiltins "bool" = some (.type "bool") := by decide +kernel
    refine ⟨_, (pss_one (ps_ret (pe_and (pe_callB call_isInt (by rfl) zS bx (pa_cons (pv 0) (pa_cons (pe_bltn (v := .ty "int") rfl zI bi rfl) pa_nil))) (pe_one (pe_not (pe_callB call_isBool (by rfl) zS bx (pa_cons (pv 0) (pa_cons (pe_bltn (v := .ty "bool") rfl zB bb rfl) pa_nil)))))))), ?_⟩
    refine ⟨_, rfl, v, o, rfl, m, _, rfl, ite2 (fun c => ?_) (fun c => ?_)⟩
    · refine ⟨_, rfl, v, o, rfl, m, _, rfl, ?_⟩
      have e : isI v = !isBl v := by
        cases m <;> first | rfl | exact absurd c Bool.false_ne_true
      have k2 := k H (.refl _)
      rw [e] at k2
      exact k2
    · have e : isI v = false := by
        cases m <;> first | rfl | exact absurd rfl c
      have k2 := k H (.refl _)
      rw [e] at k2
      exact k2
theorem scWithin : FnScope ["value", "least", "most"] ["value", "least", "most"] (defScope sWithin) := ⟨rfl, rfl, rfl, by decide +kernel, rfl, by decide +kernel, by decide +kernel⟩
theorem ok_within {f fI : Addr} {fd fdI : FuncData} (F : Fun K "is_within" "is_within" sWithin f fd) (GI : FnOk P w K mg base CX0 1 fI fdI ["value"] spIsInt) (AI : At K mg "is_integer" fI fdI ["value"]) :
    FnOk P w K mg base CX0 2 f fd ["value", "least", "most"] spWithin := by
  refine F.ok scWithin (fun vs H Q E h => ?_) (fun cdv A outer s H vs Q E hr h => ?_)
  · obtain ⟨v, o, lo, hi, rfl, _⟩ := h
    rfl
  · obtain ⟨v, o, lo, hi, rfl, m, k⟩ := h
    have nd := scWithin.nd
    refine ⟨_, (pss_one (ps_ret (pe_and (pe_call GI hr rfl AI.mg AI.kp AI.bd .nil pass0 (pa_cons (pv 0) pa_nil)) (pe_one (pe_chain op_le op_le (pv 1) (pv 0) (pv 2)))))), ?_⟩
    refine ⟨_, rfl, v, o, rfl, m, fun H1 s1 => ⟨_, rfl, ite2 (fun c => ?_) (fun c => ?_)⟩⟩
    · cases v with
      | int i =>
        have k2 := k H1 s1
        refine ⟨_, rfl, _, rfl, _, _, rfl, rfl, _, rfl, ite2 (fun d => ?_) (fun d => ?_)⟩
        · refine ⟨_, rfl, _, _, rfl, rfl, ?_⟩
          have e : wth (.int i) lo hi = decide (i ≤ hi) := by show (decide (lo ≤ i) && decide (i ≤ hi)) = _; rw [d]; rfl
          rw [e] at k2
          exact k2
        · have e : wth (.int i) lo hi = false := by
            show (decide (lo ≤ i) && decide (i ≤ hi)) = _
            cases z : decide (lo ≤ i) with
            | true => exact absurd z d
            | false => rfl
          rw [e] at k2
          exact k2
      | _ => exact absurd c Bool.false_ne_true
    · have e : wth v lo hi = false := by
        cases v with
        | int i => exact absurd rfl c
        | _ => rfl
      have k2 := k H1 s1
      rw [e] at k2
      exact k2
theorem scIsList : FnScope ["value"] ["value"] (defScope sIsList) := ⟨rfl, rfl, rfl, by decide +kernel, rfl, by decide +kernel, by decide +kernel⟩
theorem ok_isList {f : Addr} {fd : FuncData} (F : Fun K "is_list" "is_list" sIsList f fd) (zS : mg "isinstance" = none) (zL : mg "list" = none) (zT : mg "tuple" = none) :
    FnOk P w K mg base CX0 1 f fd ["value"] (spIsList K) := by
  refine F.ok scIsList (fun vs H Q E h => ?_) (fun cdv A outer s H vs Q E hr h => ?_)
  · obtain ⟨v, o, rfl, _⟩ := h
    rfl
  · obtain ⟨v, o, rfl, m, k⟩ := h
    have nd := scIsList.nd
    have bx : bootBuiltins "isinstance" = some (.builtin "isinstance") := by decide +kernel
    have bl : bootBuiltins "list" = some (.type "list") := by decide +kernel
    have bt : bootBuiltins "tuple" = some (.type "tuple") := by decide +kernel
    refine ⟨_, (pss_one (ps_ret (pe_callB call_isSeq (by rfl) zS bx (pa_cons (pv 0) (pa_cons (pe_tup (pa_cons (pe_bltn (v := .ty "list") rfl zL bl rfl) (pa_cons (pe_bltn (v := .ty "tuple") rfl zT bt rfl) pa_nil))) pa_nil))))), ?_⟩
    refine ⟨_, rfl, by show 2 ≤ sizeLine; decide, fun tp np => ?_⟩
    have st := sameNew (o := .tup [.ty "list", .ty "tuple"]) np
    refine ⟨v, o, tp, rfl, ?_, upd_same, k _ st⟩
    rcases m with m | ⟨a, e1, e2, hT⟩
    · exact .inl (m.same st)
    · exact .inr ⟨a, e1, e2, sameT hT st⟩
theorem scIsPair : FnScope ["value"] ["value"] (defScope sIsPair) := ⟨rfl, rfl, rfl, by decide +kernel, rfl, by decide +kernel, by decide +kernel⟩
theorem ok_isPair {f fL : Addr} {fd fdL : FuncData} (F : Fun K "is_pair" "is_pair" sIsPair f fd) (zN : mg "len" = none) (GL : FnOk P w K mg base CX0 1 fL fdL ["value"] (spIsList K)) (AL : At K mg "is_list" fL fdL ["value"]) :
    FnOk P w K mg base CX0 2 f fd ["value"] spIsPair := by
  refine F.ok scIsPair (fun vs H Q E h => ?_) (fun cdv A outer s H vs Q E hr h => ?_)
  · obtain ⟨v, o, rfl, _⟩ := h
    rfl
  · obtain ⟨v, o, rfl, m, hl, k⟩ := h
    have nd := scIsPair.nd
    refine ⟨_, (pss_one (ps_ret (pe_and (pe_call GL hr rfl AL.mg AL.kp AL.bd .nil pass0 (pa_cons (pv 0) pa_nil)) (pe_one (pe_cmpR op_eq (pe_callB (r := rLenS K) call_lenS (by rfl) zN PySem.boot_len (pa_cons (pv 0) pa_nil)) pe_int (nomark _)))))), ?_⟩
    refine ⟨_, rfl, v, o, rfl, .inl m, fun H1 s1 => ⟨_, rfl, ?_⟩⟩
    have k2 := k H1 s1
    cases o with
    | none => exact k2
    | some xs =>
      obtain ⟨a, rfl, hA⟩ := (m.same s1).sq
      refine ⟨_, rfl, a, xs, rfl, ?_, rfl, ?_⟩
      · rcases hA with z | z
        · exact .inl (SqL.of z)
        · exact .inr (SqT.of z)
      · have e : two (some xs) = decide (V.int (xs.length : Int) = V.int 2) := by
          show (xs.length == 2) = _
          by_cases z : xs.length = 2
          · rw [z]; rfl
          · rw [decide_eq_false (fun h => z (by injection h with h; omega))]
            exact beq_false_of_ne z
        rw [e] at k2
        exact k2
end
end K23
namespace K23
open PySem PySem.Spec PyProof.Rows L2 RwM Rw
abbrev sLoopWord : Stmt := top 28
abbrev sStretch : Stmt := top 29
def spIsInts : Sp := fun vs H Q _ => ∃ (a : Addr) (ns : List Int), vs = [.ref a] ∧ SqA H a (ns.map V.int) ∧ ns.length ≤ 100000 ∧ ∀ H', Same H H' → Q (.bl true) H'
theorem SqA.kind {H : Hp} {a : Addr} {xs : List V} (h : SqA H a xs) : SeqK H (.ref a) (some xs) := by
  rcases h with z | z
  · exact .lst z
  · exact .tup z
section
variable {P : Program} {w : World} {K : PySem.W.Frag} {mg : Str → Option Value} {base : Heap}
abbrev nmIsInts : List Str := ["value", "entry"]
theorem scIsInts : FnScope nmIsInts ["value"] (defScope sIsInts) := ⟨rfl, rfl, rfl, by decide +kernel, rfl, by decide +kernel, by decide +kernel⟩
theorem ok_isInts {f fI fL : Addr} {fd fdI fdL : FuncData} (F : Fun K "is_integers" "is_integers" sIsInts f fd) (zA : mg "all" = none) (GI : FnOk P w K mg base CX0 1 fI fdI ["value"] spIsInt) (AI : At K mg "is_integer" fI fdI ["value"])
    (GL : FnOk P w K mg base CX0 1 fL fdL ["value"] (spIsList K)) (AL : At K mg "is_list" fL fdL ["value"]) :
    FnOk P w K mg base CX0 2 f fd ["value"] spIsInts := by
  refine F.ok scIsInts (fun vs H Q E h => ?_) (fun cdv A outer s H vs Q E hr h => ?_)
  · obtain ⟨a, ns, rfl, _⟩ := h
    rfl
  · obtain ⟨a, ns, rfl, hA, hl, k⟩ := h
    have nd := scIsInts.nd
    have ba : bootBuiltins "all" = some (.builtin "all") := by decide +kernel
    refine ⟨_, (pss_one (ps_ret (pe_and (pe_call GL hr rfl AL.mg AL.kp AL.bd .nil pass0 (pa_cons (pv 0) pa_nil)) (pe_one (pe_callB (cr_all rfl) (by rfl) zA ba (pa_cons (pe_lc (own := [("entry", 1)]) (g := gName 1) (tt := tYes) rfl nd (pi_seqV (pv 0)) (blkOk_by (N := nmIsInts) (sc := defScope sIsInts) (by decide +kernel)) (fun _ _ _ _ _ => pg_name (i := 1) nd rfl (Or.inl rfl)) (fun _ _ _ _ _ => pts_nil) (fun _ _ _ _ _ => (pe_call GI hr rfl AI.mg AI.kp AI.bd .nil pass0 (pa_cons (pv 1) pa_nil)))) pa_nil)))))), ?_⟩
    refine ⟨_, rfl, .ref a, some (ns.map V.int), rfl, .inl (SqA.kind hA), fun H1 s1 => ⟨_, rfl, ?_⟩⟩
    refine ⟨a, _, rfl, SqA.same hA fun o e => s1 _ _ e, fun J wk D hD => lc_it wk (fun i H' => Same H1 H' ∧ H' D = some (.lst ((List.replicate i true).map V.bl))) ⟨sameNew hD, upd_same⟩ (fun i H' _ h o e => h.1 _ _ e) ?_ ?_⟩
    · rintro i x H' H'' hi ⟨s', hD'⟩ ⟨rfl, hx⟩
      obtain ⟨z, hz, rfl⟩ : ∃ z, ns[i]? = some z ∧ x = .int z := by
        rw [List.getElem?_map] at hx
        cases hn : ns[i]? with
        | none => rw [hn] at hx; cases hx
        | some z => rw [hn] at hx; cases hx; exact ⟨z, rfl, rfl⟩
      rw [List.length_map] at hi
      refine ⟨rfl, _, rfl, .int z, none, rfl, .int z, fun H2 s2 => ⟨_, s2 _ _ hD', ?_, ?_, ?_⟩⟩
      · rw [List.length_map, List.length_replicate, sizeLine_eq]; omega
      · exact fun b o e => by rw [upd_ne (ne_of_none e hD)]; exact s2 _ _ (s' b o e)
      · rw [upd_same, List.replicate_succ', List.map_append]
        rfl
    · rintro H' ⟨s', hD'⟩
      refine ⟨D, _, rfl, SqL.of hD', ?_⟩
      have e : (List.replicate (ns.map V.int).length true).all id = true := by
        rw [List.all_eq_true]
        intro b hb
        rw [(List.mem_replicate.mp hb).2]
        rfl
      rw [e]
      exact k H' (s1.trans s')
end
end K23
namespace K23
open PySem PySem.Spec PyProof.Rows L2 RwM Rw
def lw (o : Option (List V)) : Bool := match o with
  | none => false
  | some xs => decide (1 ≤ xs.length) && decide (xs.length ≤ 40) && xs.all fun x => wth x 0 3
def EntK (H : Hp) (o : Option (List V)) : Prop := ∀ xs, o = some xs → xs.length ≤ 100000 ∧ ∀ x ∈ xs, ∃ o', SeqK H x o'
def spLoopWord : Sp := fun vs H Q _ => ∃ v o, vs = [v] ∧ SeqK H v o ∧ EntK H o ∧ ∀ H', Same H H' → Q (.bl (lw o)) H'
section
variable {P : Program} {w : World} {K : PySem.W.Frag} {mg : Str → Option Value} {base : Heap}
abbrev nmLoopWord : List Str := ["value", "number"]
theorem scLoopWord : FnScope nmLoopWord ["value"] (defScope sLoopWord) := ⟨rfl, rfl, rfl, by decide +kernel, rfl, by decide +kernel, by decide +kernel⟩
theorem ok_loopWord {f fI fL : Addr} {fd fdI fdL : FuncData} {tk tk2 : Tok} (F : Fun K "is_loop_word" "is_loop_word" sLoopWord f fd) (zA : mg "all" = none) (zN : mg "len" = none)
    (mL : mg "LONGEST_WORD" = some (.int 40 tk)) (mG : mg "GREATEST_BUD" = some (.int 3 tk2))
    (GW : FnOk P w K mg base CX0 2 fI fdI ["value", "least", "most"] spWithin) (AW : At K mg "is_within" fI fdI ["value", "least", "most"])
    (GL : FnOk P w K mg base CX0 1 fL fdL ["value"] (spIsList K)) (AL : At K mg "is_list" fL fdL ["value"]) :
    FnOk P w K mg base CX0 3 f fd ["value"] spLoopWord := by
  refine F.ok scLoopWord (fun vs H Q E h => ?_) (fun cdv A outer s H vs Q E hr h => ?_)
  · obtain ⟨v, o, rfl, _⟩ := h
    rfl
  · obtain ⟨v, o, rfl, m, en, k⟩ := h
    have nd := scLoopWord.nd
    have ba : bootBuiltins "all" = some (.builtin "all") := by decide +kernel
    have hr1 := hr.mono (show 1 ≤ 2 by decide)
    refine ⟨_, (pss_cons (ps_if (PW.pt (pw_or (pt_not (pt_val (pe_call GL hr1 rfl AL.mg AL.kp AL.bd .nil pass0 (pa_cons (pv 0) pa_nil)))) (pw_or1 (pt_not (pt_chain op_le op_le pe_int (pe_callB (r := rLenS K) call_lenS (by rfl) zN PySem.boot_len (pa_cons (pv 0) pa_nil)) (pe_glob (v := .int 40) rfl mL ⟨_, rfl⟩))))))
(pss_one (ps_ret pe_bl))
pss_nil)
(pss_one (ps_ret (pe_callB (cr_all rfl) (by rfl) zA ba (pa_cons (pe_lc (own := [("number", 1)]) (g := gName 1) (tt := tYes) rfl nd (pi_seqV (pv 0)) (blkOk_by (N := nmLoopWord) (sc := defScope sLoopWord) (by decide +kernel)) (fun _ _ _ _ _ => pg_name (i := 1) nd rfl (Or.inl rfl)) (fun _ _ _ _ _ => pts_nil) (fun _ _ _ _ _ => (pe_call GW hr rfl AW.mg AW.kp AW.bd .nil pass0 (pa_cons (pv 1) (pa_cons pe_int (pa_cons (pe_glob (v := .int 3) rfl mG ⟨_, rfl⟩) pa_nil)))))) pa_nil))))), ?_⟩
    refine ⟨_, rfl, v, o, rfl, .inl m, fun H1 s1 => ⟨_, rfl, ?_⟩⟩
    cases o with
    | none => exact ite2 (fun _ => k H1 s1) (fun c => absurd rfl c)
    | some xs =>
      obtain ⟨a, rfl, hA⟩ := (m.same s1).sq
      have en1 := en xs rfl
      have hA2 : SqL K H1 a xs ∨ SqT K H1 a xs := by
        rcases hA with z | z
        · exact .inl (SqL.of z)
        · exact .inr (SqT.of z)
      refine ite2 (fun c => absurd c Bool.false_ne_true) (fun _ => ?_)
      refine ⟨_, rfl, a, xs, rfl, hA2, _, _, rfl, rfl, _, rfl, ?_⟩
      have hlw : lw (some xs) = (decide (1 ≤ xs.length) && decide (xs.length ≤ 40) && xs.all fun x => wth x 0 3) := rfl
      refine ite2 (fun c1 => ?_) (fun c1 => ?_)
      · have c2 : 1 ≤ xs.length := by
          have z : (1 : Int) ≤ (xs.length : Int) := by simpa using c1
          omega
        refine ⟨_, _, rfl, rfl, _, rfl, ?_⟩
        refine ite2 (fun d1 => ?_) (fun d1 => ?_)
        · have d2 : ¬ xs.length ≤ 40 := fun z => by
            have z2 : decide ((xs.length : Int) ≤ 40) = true := decide_eq_true (by omega)
            rw [z2] at d1
            cases d1
          have k2 := k H1 s1
          rw [hlw, decide_eq_false d2, Bool.and_false, Bool.false_and] at k2
          exact k2
        · have d2 : xs.length ≤ 40 := Classical.byContradiction fun z => by
            have z2 : decide ((xs.length : Int) ≤ 40) = false := decide_eq_false (by omega)
            rw [z2] at d1
            exact d1 rfl
          have hlw2 : lw (some xs) = xs.all fun x => wth x 0 3 := by rw [hlw, decide_eq_true c2, decide_eq_true d2]; rfl
          refine ⟨a, xs, rfl, hA, fun J wk D hD => lc_it wk (fun i H' => Same H1 H' ∧ H' D = some (.lst (((xs.take i).map fun x => wth x 0 3).map V.bl))) ⟨sameNew hD, upd_same⟩ (fun i H' _ h o e => h.1 _ _ e) ?_ ?_⟩
          · rintro i x H' H'' hi ⟨s', hD'⟩ ⟨rfl, hx⟩
            obtain ⟨o', mx⟩ := en1.2 x (List.mem_of_getElem? hx)
            refine ⟨rfl, _, rfl, x, o', 0, 3, rfl, (mx.same s1).same s', fun H2 s2 => ⟨_, s2 _ _ hD', ?_, ?_, ?_⟩⟩
            · rw [List.length_map, List.length_map, List.length_take, sizeLine_eq]; omega
            · exact fun b o e => by rw [upd_ne (ne_of_none e hD)]; exact s2 _ _ (s' b o e)
            · rw [upd_same, List.take_succ, hx, List.map_append, List.map_append]
              rfl
          · rintro H' ⟨s', hD'⟩
            rw [List.take_length] at hD'
            refine ⟨D, _, rfl, SqL.of hD', ?_⟩
            have k2 := k H' (s1.trans s')
            rw [hlw2] at k2
            rw [List.all_map]
            exact k2
      · have c2 : ¬ 1 ≤ xs.length := fun z => c1 (decide_eq_true (by omega))
        have k2 := k H1 s1
        rw [hlw, decide_eq_false c2, Bool.false_and, Bool.false_and] at k2
        exact ⟨_, rfl, ite2 (fun _ => k2) (fun z => absurd rfl z)⟩
end
end K23
namespace K23
open PySem PySem.Spec PyProof.Rows L2 RwM Rw
def rIxSq (K : PySem.W.Frag) : R2 := fun x y H Q => rIxL K x y H Q ∨ rIxT K x y H Q
theorem ix_sq {X : Cx} : IxR X (rIxSq X.K) := by
  intro value slice pins s σ H x y v u Q I rx ry h hs
  rcases h with h | h
  · exact ix_list value slice pins s σ H x y v u Q I rx ry h hs
  · exact ix_tup value slice pins s σ H x y v u Q I rx ry h hs
theorem sqIx {K : PySem.W.Frag} {H : Hp} {a : Addr} {xs : List V} {i : Nat} {v : V} {Q : VK} (h : SqA H a xs) (e : xs[i]? = some v) (q : Q v H) : rIxSq K (.ref a) (.int (i : Int)) H Q := by
  rcases h with z | z
  · exact .inl ⟨a, xs, i, v, rfl, rfl, SqL.of z, atI_nat e, q⟩
  · exact .inr ⟨a, xs, i, v, rfl, rfl, SqT.of z, atI_nat e, q⟩
theorem EntK.same {H H' : Hp} {o : Option (List V)} (h : EntK H o) (s : Same H H') : EntK H' o := fun xs e => ⟨(h xs e).1, fun x hx => by
  obtain ⟨o', m⟩ := (h xs e).2 x hx
  exact ⟨o', m.same s⟩⟩
/-- what is_stretch says -/
inductive StK (M : Int) (H : Hp) : Option (List V) → Bool → Prop where
  | no {o : Option (List V)} (h : two o = false) (hl : ∀ xs, o = some xs → xs.length ≤ 100000) : StK M H o false
  | yes {x y : V} {ox oy : Option (List V)} (hx : SeqK H x ox) (ex : EntK H ox) (hy : SeqK H y oy) : StK M H (some [x, y]) (lw ox && wth y 0 M)
def spStretch (M : Int) : Sp := fun vs H Q _ => ∃ v o b, vs = [v] ∧ SeqK H v o ∧ StK M H o b ∧ ∀ H', Same H H' → Q (.bl b) H'
section
variable {P : Program} {w : World} {K : PySem.W.Frag} {mg : Str → Option Value} {base : Heap}
theorem scStretch : FnScope ["value"] ["value"] (defScope sStretch) := ⟨rfl, rfl, rfl, by decide +kernel, rfl, by decide +kernel, by decide +kernel⟩
theorem ok_stretch {f fW fP fL : Addr} {fd fdW fdP fdL : FuncData} {M : Int} {tk : Tok} (F : Fun K "is_stretch" "is_stretch" sStretch f fd) (mM : mg "MOST_TIMES" = some (.int M tk))
    (GW : FnOk P w K mg base CX0 2 fW fdW ["value", "least", "most"] spWithin) (AW : At K mg "is_within" fW fdW ["value", "least", "most"])
    (GP : FnOk P w K mg base CX0 2 fP fdP ["value"] spIsPair) (AP : At K mg "is_pair" fP fdP ["value"])
    (GL : FnOk P w K mg base CX0 3 fL fdL ["value"] spLoopWord) (AL : At K mg "is_loop_word" fL fdL ["value"]) :
    FnOk P w K mg base CX0 4 f fd ["value"] (spStretch M) := by
  refine F.ok scStretch (fun vs H Q E h => ?_) (fun cdv A outer s H vs Q E hr h => ?_)
  · obtain ⟨v, o, b, rfl, _⟩ := h
    rfl
  · obtain ⟨v, o, b, rfl, m, hst, k⟩ := h
    have nd := scStretch.nd
    have hr2 := hr.mono (show 2 ≤ 3 by decide)
    refine ⟨_, (pss_one (ps_ret (pe_and (pe_call GP hr2 rfl AP.mg AP.kp AP.bd .nil pass0 (pa_cons (pv 0) pa_nil)) (pe_and (pe_call GL hr rfl AL.mg AL.kp AL.bd .nil pass0 (pa_cons (pe_ix ix_sq (pv 0) pe_int (fun _ _ => rfl)) pa_nil)) (pe_one (pe_call GW hr2 rfl AW.mg AW.kp AW.bd .nil pass0 (pa_cons (pe_ix ix_sq (pv 0) pe_int (fun _ _ => rfl)) (pa_cons pe_int (pa_cons (pe_glob (v := .int M) rfl mM ⟨_, rfl⟩) pa_nil))))))))), ?_⟩
    refine ⟨_, rfl, v, o, rfl, m, ?_, fun H1 s1 => ⟨_, rfl, ?_⟩⟩
    · cases hst with
      | no h hl => exact hl
      | yes hx ex hy => intro xs e; cases e; show 2 ≤ _; decide
    · cases hst with
      | no h hl =>
        rw [h]
        exact k H1 s1
      | @yes x y ox oy hx ex hy =>
        obtain ⟨a, rfl, hA⟩ := (m.same s1).sq
        refine ⟨_, rfl, sqIx (i := 0) hA rfl ?_⟩
        refine ⟨x, ox, rfl, hx.same s1, ex.same s1, fun H2 s2 => ⟨_, rfl, ?_⟩⟩
        refine ite2 (fun c => ?_) (fun c => ?_)
        · refine ⟨_, rfl, sqIx (i := 1) (SqA.same hA fun o e => s2 _ _ e) rfl ⟨y, oy, 0, M, rfl, (hy.same s1).same s2, fun H3 s3 => ?_⟩⟩
          have k2 := k H3 ((s1.trans s2).trans s3)
          rw [c, Bool.true_and] at k2
          exact k2
        · have k2 := k H2 (s1.trans s2)
          rw [Bool.eq_false_iff.mpr c, Bool.false_and] at k2
          exact k2
end
end K23
namespace Rw
open PySem PySem.Spec PyProof.Rows L2
/-- enumerate of a tuple, the two objects it lays -/
def enTup (h : Heap) (t : Addr) : Heap := (h.push { cls := .type "tuple_iterator", data := .fields #[.ref t, .int 0 0] }).push { cls := .type "enumerate", data := .fields #[.none, .bool false, .ref h.objs.size, rawInt 0, .none, .none] }
open AutoSeq1 (wpAny_loadPart') in
theorem meets_enT (t : Addr) (its : Array Value) (n : Nat) (dc : Option Addr) (sl : Array (Option Value)) :
    Meets (Builtin.«enumerate.__new__» ⟨[.type "enumerate", .ref t], []⟩) (fun _ R s => s.heap.get? t = some ⟨.type "tuple", dc, .seq its n, sl⟩ ∧ R (.ok (.ret (.ref (s.heap.objs.size + 1)))) { s with heap := enTup s.heap t }) :=
  .of_wp fun P w A R s ⟨ht, h⟩ => by
    obtain ⟨hp, g, d, tk, os⟩ := s
    have sb := sub_enumerate
    have hT : Heap.IsTuple (Shared.heap ⟨hp, g, d, tk, os⟩) t its := ⟨_, ht, rfl, n, rfl⟩
    wp_walk using wpAny_loadPart' ht
    refine wpAny_stack_any fun st => wpAny_pure ?_
    have z : (hp.push { cls := .type "tuple_iterator", data := .fields #[.ref t, .int 0 0] }).objs.size = hp.objs.size + 1 := Heap.size_push ..
    split
    · rename_i c _ _ _ _ _
      cases (c == Value.type "enumerate") <;>
        (wp_walk using wpAny_loadPart' ht, wpAny_pyIter_tuple hT
         refine ⟨_, rfl, ?_⟩
         rw [z]
         exact h)
    · wp_walk using wpAny_loadPart' ht, wpAny_pyIter_tuple hT
      refine ⟨_, rfl, ?_⟩
      rw [z]
      exact h
section
variable {prog : Program} {w : World} {A : Around} {E : Value → Shared → Prop} {s : Shared}
theorem call_enT {t : Addr} {its : Array Value} {Q : Value → Shared → Prop} (ht : s.heap.IsTuple t its)
    (q : ∀ h', IsEnum h' (s.heap.objs.size + 1) s.heap.objs.size 0 .none → h'.IsTupleIter s.heap.objs.size t 0 → (∀ b o, s.heap.get? b = some o → h'.get? b = some o) → Q (.ref (s.heap.objs.size + 1)) { s with heap := h' }) :
    wpAny (model prog w) A (call (.type "enumerate") [.ref t]) Q E s := by
  obtain ⟨⟨c, dc, dt, sl⟩, h1, h2, n, h3⟩ := ht
  obtain rfl : c = .type "tuple" := h2
  obtain rfl : dt = .seq its n := h3
  refine callType_new F.called_enumerate (by decide) (F.typeCall_enumerate_1 _) (F.newCall_enumerate_1 _) (fun x => F.args_object_init_2 x _) F.entry_enumerate_new (meets_enT t its n dc sl) ⟨h1, ?_⟩
  have z : (s.heap.push { cls := .type "tuple_iterator", data := .fields #[.ref t, .int 0 0] }).objs.size = s.heap.objs.size + 1 := Heap.size_push ..
  have he : IsEnum (enTup s.heap t) (s.heap.objs.size + 1) s.heap.objs.size 0 .none := by
    rw [← z]
    exact Heap.get?_push_size _ rfl
  exact ⟨⟨_, he, rfl⟩, q _ he ⟨_, Heap.get?_push_of_some _ (Heap.get?_push_size _ rfl), rfl, rfl⟩ fun b o e => Heap.get?_push_of_some _ (Heap.get?_push_of_some _ e)⟩
end
/-- the tuple at a, each item in a new pair -/
def IteT (K : PySem.W.Frag) (a : Addr) : It where
  go := fun i H => ∃ (xs : List V) (x : V), SqT K H a xs ∧ xs[i]? = some x
  yld := fun i H v H' => ∃ T x, v = .ref T ∧ H T = none ∧ H' = upd H T (.tup [.int (i : Nat), x]) ∧ ∀ xs, SqT K H a xs → xs[i]? = some x
  stop := fun i H => ∃ xs : List V, SqT K H a xs ∧ xs.length = i
theorem turn_enT {P : Program} {w : World} {K : PySem.W.Frag} {es : List Expr} {k : Nat} {p : Pos} (a e it : Addr) :
    Turn P w K (.Tuple es k p) (IteT K a) [e, it] e (fun i h => (∃ old, IsEnum h e it ((i : Nat) : Int) old) ∧ h.IsTupleIter it a i ∧ e ≠ it) where
  mem := List.mem_cons_self
  obj := fun i h ⟨⟨old, he⟩, ⟨o, ho, hc, hd⟩, _⟩ b hb => by
    rcases (by simpa using hb : b = e ∨ b = it) with z | z <;> rw [z]
    · exact ⟨_, he, fun v q => nomatch q⟩
    · exact ⟨o, ho, fun v q => by rw [hd] at q; cases q⟩
  keep := fun i h h' ⟨⟨old, he⟩, hi, ne⟩ k => ⟨⟨old, k e (by simp) _ he⟩, hi.at fun o q => k it (by simp) o q, ne⟩
  item := by
    rintro X rfl rfl rfl hc i pins s σ H E I hf ⟨⟨old, he⟩, hit, ne⟩ ⟨xs, x, hq, hx⟩
    obtain ⟨its, rv, p, hz⟩ := I.tuple hq
    obtain ⟨u, hu, ru⟩ := rv.get hx
    have te : s.heap.IsTuple a its.toArray := p
    have el : e < s.heap.objs.size := Heap.lt_size he
    have tl : it < s.heap.objs.size := by obtain ⟨_, q, _⟩ := hit; exact Heap.lt_size q
    have ai : a ≠ it := fun z => by
      obtain ⟨o1, g1, c1, _⟩ := te
      obtain ⟨o2, g2, c2, _⟩ := hit
      rw [z, g2] at g1
      cases g1
      exact absurd (c2.symm.trans c1) (by simp)
    have ae : a ≠ e := fun z => by
      obtain ⟨o1, g1, c1, _⟩ := te
      have he2 := he
      unfold IsEnum at he2
      rw [z, he2] at g1
      cases g1
      exact absurd c1 (by simp)
    have D := Draws.tuple (prog := X.prog) (w := X.w) (A := X.A.in1) (I.ok.hd hc) it a ai its.toArray
    have hi : i < its.toArray.size := by
      have := (List.getElem?_eq_some_iff.mp hu).1
      simpa using this
    refine wpAny_pyNext_enum_itemD D he ⟨hit, te⟩ hi ne (by simp [ne, Ne.symm ae]) fun x' h' tk hx' ho hst hT hsz hk => ?_
    obtain rfl : x' = u := Option.some.inj (hx'.symm.trans (by simpa using hu))
    refine ⟨_, rfl, wpAny_letOwnedTupleGo_enum (s := { s with heap := h', toks := tk + 1 }) ho fun h2 he2 sb => ?_⟩
    have hT2 := (sb.2 _ (Nat.ne_of_gt el)).trans hT
    have I1 : Inv X pins σ (upd H s.heap.objs.size (.tup [.int (i : Nat), x])) { s with heap := h2, toks := tk + 1 } :=
      I.turnedNew (ch := [e, it]) (fun b ob hb q => (sb.2 b fun z => hb (by simp [z])).trans (hk b ob (fun z => hb (by simp [z])) (fun z => hb (by simp [z])) q)) hf (Nat.le_refl _)
        ⟨by show 2 ≤ sizeLine; decide, [.int i tk, x'], .cons ⟨_, rfl⟩ (.cons ru .nil), ⟨_, hT2, rfl, _, rfl⟩⟩
    refine ⟨.ref s.heap.objs.size, _, I1, rfl, ⟨_, x, rfl, I.hok.fresh (Nat.le_refl _), rfl, fun ys hy => by rw [I.tuple_inj hy hq]; exact hx⟩, ⟨⟨x', ?_⟩, hst.1.at fun o q => (sb.2 it (Ne.symm ne)).trans q, ne⟩, fun b hb => ?_⟩
    · rw [Int.natCast_add]
      exact he2
    · rw [upd_ne, (hf b hb).1]
      rcases (by simpa using hb : b = e ∨ b = it) with z | z <;> rw [z]
      · exact Nat.ne_of_lt el
      · exact Nat.ne_of_lt tl
  done := by
    rintro X rfl rfl rfl hc i pins s σ H E I hf ⟨⟨old, he⟩, hit, ne⟩ ⟨xs, hq, hx⟩
    obtain ⟨its, rv, p, hz⟩ := I.tuple hq
    have te : s.heap.IsTuple a its.toArray := p
    have ai : a ≠ it := fun z => by
      obtain ⟨o1, g1, c1, _⟩ := te
      obtain ⟨o2, g2, c2, _⟩ := hit
      rw [z, g2] at g1
      cases g1
      exact absurd (c2.symm.trans c1) (by simp)
    have D := Draws.tuple (prog := X.prog) (w := X.w) (A := X.A.in1) (I.ok.hd hc) it a ai its.toArray
    obtain ⟨f0, f1, f2, f3, f4, f5⟩ := hf it (by simp)
    have en : i = its.toArray.size := by
      have := rv.length
      simp
      omega
    rw [en] at hit
    exact wpAny_pyNext_enum_endD D he ⟨hit, te⟩ fun h' eb => ⟨rfl, I.turned (t' := s.toks) (fun b o hb q => eb b o hb q) f0 f1 f3 f4 f5⟩
  self := fun A i s Q E ⟨⟨_, he⟩, _⟩ h => wpAny_pyIter_enum he h
theorem walk_enT {K : PySem.W.Frag} {a : Addr} {xs : List V} : Walk (IteT K a) xs.length (fun H => SqT K H a xs) (YPair (fun i => some (.int (i : Nat))) fun i => xs[i]?) where
  goes := fun i _ hi q => ⟨xs, xs[i], q, by simp [hi]⟩
  stops := fun _ q => ⟨xs, q, rfl⟩
  yields := fun i H v H' _ q ⟨T, x, h1, h2, h3, h4⟩ => ⟨T, .int (i : Nat), x, h1, h2, h3, rfl, h4 xs q⟩
theorem onlyT {K : PySem.W.Frag} {H H' : Hp} {a : Addr} {xs : List V} (h : SqT K H a xs) (s : ∀ o, H a = some o → H' a = some o) : SqT K H' a xs := by
  rcases h with (h | ⟨o, h⟩) | h
  · exact .inl (.inl (s _ h))
  · exact .inl (.inr ⟨o, s _ h⟩)
  · exact .inr h
/-- enumerate of a list or a tuple -/
def iEnumV (K : PySem.W.Frag) (ta : TA) : TI := fun σ H R => ta σ H fun vs H1 => ∃ (a : Addr) (xs : List V), vs = [.ref a] ∧ (SqA H1 a xs ∨ SqT K H1 a xs) ∧
  ∀ J, Walk J xs.length (fun H' => ∀ o, H1 a = some o → H' a = some o) (YPair (fun i => some (.int (i : Nat))) fun i => xs[i]?) → R J H1
theorem pi_enumV {X : Cx} {e : Expr} {ta : TA} {p pos tp : Pos} {es : List Expr} {k : Nat} (hg : Gl X "enumerate") (hm : X.mg "enumerate" = none) (ha : PA X [e] ta) (hs : starEach [e] X.env = [(false, eval e X.env)] := by rfl) :
    PI X (.Tuple es k tp) (.Call (.Name "enumerate" p) [e] [] pos) (iEnumV X.K ta) := by
  refine ⟨fun pins s σ H R I h => Call_ (ld_blt I hg hm boot_enumerate (PyProof.Rows.callWith_type1 (thn (ha.run pos pins s σ H _ I h) fun us s1 ⟨vs, H1, I1, r1, a, xs, ex, hq, q⟩ => ?_) hs rfl))⟩
  subst ex
  obtain ⟨u, rfl, ru⟩ := r1.one
  cases ru
  have le2 : ∀ b, b ∈ [s1.heap.objs.size + 1, s1.heap.objs.size] → s1.heap.objs.size ≤ b := fun b hb => by
    rcases (by simpa using hb : b = s1.heap.objs.size + 1 ∨ b = s1.heap.objs.size) with z | z <;> omega
  have hq : H1 a = some (.lst xs) ∨ SqT X.K H1 a xs := by
    rcases hq with (z | z) | z
    · exact .inl z
    · exact .inr (SqT.of z)
    · exact .inr z
  rcases hq with hq | hq
  · have w : Walk (Ite X.K a) xs.length (fun H' => ∀ o, H1 a = some o → H' a = some o) (YPair (fun i => some (.int (i : Nat))) fun i => xs[i]?) := walk_enum.mono (fun H' z => SqL.of (z _ hq)) fun _ _ _ _ _ _ y => y
    obtain ⟨its, rv, p', hz⟩ := I1.list (SqL.of hq)
    refine call_enumerate_list p'.isList fun h' he hit hsz hk => wpAny_pyIter_enum he ?_
    exact ⟨s1.heap.objs.size + 1, _, _, _, H1, rfl, I1.kept (t' := s1.toks) hk, turn_enum a (s1.heap.objs.size + 1) s1.heap.objs.size, ⟨⟨.none, he⟩, hit, Nat.succ_ne_self _⟩, fun b hb => I1.fpOk (le2 b hb) (I1.hok.fresh (le2 b hb)), q _ w⟩
  · have w : Walk (IteT X.K a) xs.length (fun H' => ∀ o, H1 a = some o → H' a = some o) (YPair (fun i => some (.int (i : Nat))) fun i => xs[i]?) := walk_enT.mono (fun H' z => onlyT hq z) fun _ _ _ _ _ _ y => y
    obtain ⟨its, rv, p', hz⟩ := I1.tuple hq
    refine call_enT (show s1.heap.IsTuple a its.toArray from p') fun h' he hit hk => wpAny_pyIter_enum he ?_
    exact ⟨s1.heap.objs.size + 1, _, _, _, H1, rfl, I1.kept (t' := s1.toks) hk, turn_enT a (s1.heap.objs.size + 1) s1.heap.objs.size, ⟨⟨.none, he⟩, hit, Nat.succ_ne_self _⟩, fun b hb => I1.fpOk (le2 b hb) (I1.hok.fresh (le2 b hb)), q _ w⟩
/-- a name that holds a list or a tuple, walked -/
def iSeqW (K : PySem.W.Frag) (i : Nat) : TI := fun σ H R => ∃ (a : Addr) (vs : List V), σ[i]? = some (some (.ref a)) ∧ (SqA H a vs ∨ SqT K H a vs) ∧ ∀ J, Walk J vs.length (fun H' => ∀ o, H a = some o → H' a = some o) (YAt vs) → R J H
theorem pi_seqW {X : Cx} {tg l : Expr} {i : Nat} (hl : PE X l (tVar i)) : PI X tg l (iSeqW X.K i) := by
  refine ⟨fun pins s σ H R I ⟨a, vs, hi, hq, k⟩ => ?_⟩
  rcases hq with hq | hq
  · exact (pi_seqV hl).run pins s σ H R I ⟨a, vs, hi, hq, k⟩
  · exact (pi_tup hl).run pins s σ H R I ⟨_, hi, a, rfl, ⟨vs, hq⟩, k _ (walk_tup.mono (fun H' z => onlyT hq z) fun _ _ _ _ _ _ y => y)⟩
end Rw
namespace EV
open PySem PySem.Spec PyProof.Rows L2
/-- at a: an exception of the class C, held as a value; its own dict at d, or none -/
def exv (a C : Addr) (d : Option Addr) : HO :=
  .ext fun h => ∃ (oe : Obj) (vs : Array Value), h.get? a = some oe ∧ oe.cls = .ref C ∧ oe.dict = d ∧ oe.data = .fields vs
theorem exv_ok {P : Program} {w : World} {H : Hp} {h : Heap} {a C : Addr} {d : Option Addr} {oe : Obj} {vs : Array Value}
    (e : h.get? a = some oe) (c : oe.cls = .ref C) (k : oe.dict = d) (q : oe.data = .fields vs) : ObjOk P w H h a (exv a C d) :=
  ⟨⟨oe, vs, e, c, k, q⟩, ⟨oe, e⟩, fun _ _ ⟨o, v, r1, r2⟩ f => ⟨o, v, f o r1, r2⟩⟩
section
variable {X : Cx} {e : Expr} {es : List Expr} {te : TE} {f : Str} {pos : Pos}
/-- a made exception, kept -/
theorem pe_val {t : L2.St → Hp → XK → Prop} (he : PMk X e t) :
    PE X e (fun σ H Q => t σ H fun cls d H1 => ∃ C, cls = .ref C ∧ ∀ a, H1 a = none → Q (.ref a) (upd H1 a (exv a C d))) := by
  refine ⟨fun pins s σ H Q I h => ?_⟩
  refine thn (he pins s σ H _ I h) fun u s1 hu => ?_
  obtain ⟨a, oe, vs, sI, H1, cls, d, rfl, J, k, hp, ha, hz, hd, h1, hn, os, ag, hr, C, rfl, q⟩ := hu
  have new := exv_ok (P := X.prog) (w := X.w) (H := upd H1 a (exv a C d)) ha hz.1 hz.2 hd
  exact ⟨.ref a, upd H1 a (exv a C d), J.call' (ch := []) os (Un.laidN k hp hn) (J.hok.laidN k hn new) ag (fun b z => absurd z (by simp)), rfl, q a hn⟩
/-- what the class says of reading its instances -/
structure RdC (K : PySem.W.Frag) (C : Addr) : Prop where
  ga : PySem.W.findIn K (.ref C) "__getattribute__" = some (some (.builtin "BaseException.__getattribute__"))
  gg : PySem.W.findIn K (.ref C) "__getattr__" = some none
  exC : PySem.W.subIn K (.ref C) (.type "BaseException") = some true
  hdC : PySem.W.hasDictIn K C = true
/-- x.f of such an exception -/
theorem pe_attr (he : PE X e te) (hb : attributeBase e f X.env (eval e X.env) = eval e X.env := by rfl) :
    PE X (.Attribute e f pos) (fun σ H Q => te σ H fun x H1 => ∃ (a C d : Addr) (fs : List (Str × V)) (v : V), x = .ref a ∧ RdC X.K C ∧ PySem.W.findIn X.K (.ref C) f = some none ∧
      H1 a = some (exv a C (some d)) ∧ H1 d = some (.xd fs) ∧ fs.lookup f = some v ∧ Q v H1) := by
  refine ⟨fun pins s σ H Q I h => ?_⟩
  refine attr_of hb (thn (he.run pins s σ H _ I h) fun u s1 hu => ?_)
  obtain ⟨x, H1, I1, rx, a, C, d, fs, v, rfl, T, hno, ea, ed, hl, q⟩ := hu
  obtain rfl : u = Value.ref a := rx
  obtain ⟨⟨oe, vs, ho, hc, hdi, hda⟩, _, _⟩ : ObjOk X.prog X.w H1 s1.heap a (exv a C (some d)) := I1.hok a _ ea
  obtain ⟨mA, hns, hr⟩ : ObjOk X.prog X.w H1 s1.heap d (.xd fs) := I1.hok d _ ed
  obtain ⟨od, hod, hlk⟩ := lookIn_ns hns
  obtain ⟨w, hw, rw'⟩ := RelO.some_of (v := v) (o := mA f) (by rw [← hl]; exact hr f)
  have J : PySem.W.InstAt s1.heap a oe C (some od) := ⟨ho, hc, by unfold PySem.W.notCls; rw [hda] <;> rfl, by rw [hdi]; exact hod⟩
  exact HandSPX.exc_get I1.kIn J T.ga T.gg T.exC (PySem.W.findObj_own T.hdC hno rfl (by rw [hlk, hw])) (handed_of rw') ⟨v, H1, I1.tok _, rw', q⟩
end
end EV
namespace EvK
open PySem PySem.HandSPX PySem.Calls PyProof.Rows Builtin Builtin.ObjectAttr
section
variable {M : Model} {prog : Program} {w : World} {A : Around} {E : Value → Shared → Prop} {R : Result → Shared → Prop}
variable {h : Heap} {g : Array GenState} {d : Drawn} {t : Nat} {os : OsState}
variable {nm q : Str} {C N : Addr} {bs bm bmB : List Value} {hdct : Bool} {sn : List Str} {sub : List Value} {ab : Bool}
variable {col : Option Bool} {dd : Option Addr} {k0 k1 k2 k3 k5 : Option Value} {B newId initId : String}
/-- the check of __new__, keywords and all -/
theorem check_newK (F : ExcBaseFacts B newId initId bmB) (hT : ∀ Y : String, bm.contains (.type Y) = bmB.contains (.type Y))
    {us : List Value} {kw : List (Str × Value)} {Q : Unit → Shared → Prop}
    (hC : h.get? C = some (excClassObj nm q C N bs bm hdct sn sub ab col dd k0 k1 k2 k3 k5 newId))
    (hq : Q () ⟨h, g, d, t, os⟩) : wpAny M A (checkBuiltinCall newId ⟨.ref C :: us, kw⟩) Q E ⟨h, g, d, t, os⟩ := by
  have c1 : (Value.ref C :: bm).contains (.type B) = true := by rw [List.contains_cons, hT, F.hasB, Bool.or_true]
  have c2 := F.noStar
  simp only [checkBuiltinCall, F.newKind, F.newSplit, F.newRow]
  repeat (first
    | refine wpAny_loadPart_at hC ?_
    | (refine wpAny_isSubtype_exc hC ?_; rw [c1])
    | refine wpAny_staticBase_exc hC ?_
    | refine wpAny_madeBy_exc hC ?_
    | simp only [bne_self_eq_false, Bool.false_eq_true, if_false]
    | wp_step)
  exact hq
/-- __new__ itself -/
theorem newK (F : ExcBaseFacts B newId initId bmB) (hT : ∀ Y : String, bm.contains (.type Y) = bmB.contains (.type Y))
    {us : List Value} {kw : List (Str × Value)}
    (hC : h.get? C = some (excClassObj nm q C N bs bm hdct sn sub ab col dd k0 k1 k2 k3 k5 newId))
    (hz : us.length ≤ sizeLine)
    (hq : R (.ok (.ret (.ref (h.objs.size + 1))))
      ⟨(h.push (W.kdv_tup us)).push (excO C h.objs.size), g, d, t, os⟩) :
    codeAny (model prog w) A (.builtin newId ⟨.ref C :: us, kw⟩) R ⟨h, g, d, t, os⟩ := by
  have e0 := F.ends
  have cB : (Value.ref C :: bm).contains (.type B) = true := by rw [List.contains_cons, hT, F.hasB, Bool.or_true]
  have cA : (Value.ref C :: bm).contains (.type "AttributeError") = false := by rw [List.contains_cons, hT, F.noAttr]; rfl
  have cN : (Value.ref C :: bm).contains (.type "NameError") = false := by rw [List.contains_cons, hT, F.noName]; rfl
  refine codeAny_builtinAt F.entry ?_
  unfold Builtin.«BaseException.__new__»
  refine PySem.wpAt_bind ?_
  show PySem.wpAt _ _ _ (stack >>= _) _ _ _
  refine PySem.wpAt_bind (PySem.wpAt_stack fun p0 bl => PySem.wpAt_of_wpAny ?_)
  wp_walk
  refine PySem.wpAt_of_wpAny ?_
  rw [F.owner]
  repeat (first
    | with_reducible refine wpAny_madeHere_exc F.canon hC ?_
    | with_reducible refine wpAny_loadPart_at hC ?_
    | (with_reducible refine wpAny_isSubtype_exc hC ?_; first | rw [cB] | rw [cA] | rw [cN])
    | wp_step)
  show R _ _
  rw [Heap.size_push]
  exact hq
/-- type.__call__ of such a class, keywords and all -/
theorem type_callK (F : ExcBaseFacts B newId initId bmB) (hT : ∀ Y : String, bm.contains (.type Y) = bmB.contains (.type Y))
    {us : List Value} {kw : List (Str × Value)} {fI : Addr} {Q : Fin → Shared → Prop}
    (hC : h.get? C = some (excClassObj nm q C N bs bm hdct sn sub ab col dd k0 k1 k2 k3 k5 newId))
    (hi : W.Looks (model prog w) h (typeLookup (.ref C) "__init__") (some (.ref fI)))
    (hb : ∀ self, W.Looks (model prog w) h (bindSpecial (.ref fI) self) (.ref fI, [self])) (hz : us.length ≤ sizeLine)
    (hq : codeAny (model prog w) A (.call (.ref fI) ⟨.ref (h.objs.size + 1) :: us, kw⟩)
      (fun r s' => match r with
        | .ok (.ret v) => v = .none ∧ Q (.done (.ret (.ref (h.objs.size + 1)))) s'
        | .ok _ => False
        | .error e => E e s')
      ⟨(h.push (W.kdv_tup us)).push (excO C h.objs.size), g, d, t, os⟩) :
    wpAny (model prog w) A (Builtin.«type.__call__» ⟨.ref C :: us, kw⟩) Q E ⟨h, g, d, t, os⟩ := by
  repeat (first
    | with_reducible refine wpAny_loadPart_at hC ?_
    | with_reducible refine wpAny_madeBy_exc hC ?_
    | wp_step)
  refine codeAny_call_builtin_code (Code.quiet_builtin _ F.quiet) (check_newK F hT hC ?_)
  refine newK F hT hC hz ?_
  show wpAny _ _ _ _ _ _
  have kp : ∀ b o, h.get? b = some o → ((h.push (W.kdv_tup us)).push (excO C h.objs.size)).get? b = some o :=
    fun b o e => Heap.get?_push_of_some _ (Heap.get?_push_of_some _ e)
  have hC1 := kp _ _ hC
  have hg1 : ((h.push (W.kdv_tup us)).push (excO C h.objs.size)).get? (h.objs.size + 1) = some (excO C h.objs.size) := by
    heap_get
  have cc : (Value.ref C :: bm).contains (.ref C) = true := by simp
  have i1 := hi.keeps kp
  have b1 := (hb (.ref (h.objs.size + 1))).keeps kp
  unfold isInstance
  repeat (first
    | with_reducible refine wpAny_loadPart_at hg1 ?_
    | (with_reducible refine wpAny_isSubtype_exc hC1 ?_; rw [cc])
    | wp_step)
  show wpAny _ _ (typeLookup (.ref C) _) _ _ _
  refine i1.at ?_
  refine wpAny_holding (wpAny_bind (b1.at ?_))
  refine wpAny_bind (wpAny_call (codeAny_mono hq fun r s' z => ?_))
  cases r with
  | error e => exact z
  | ok fl =>
    cases fl with
    | ret v =>
      obtain ⟨rfl, z2⟩ := z
      first
        | exact wpAny_pure (wpAny_pure z2)
        | (wp_walk; exact z2)
    | next => exact z.elim
    | brk => exact z.elim
    | cont => exact z.elim
/-- the call of such a class, keywords and all -/
theorem callK (F : ExcBaseFacts B newId initId bmB) (hT : ∀ Y : String, bm.contains (.type Y) = bmB.contains (.type Y))
    {us : List Value} {kw : List (Str × Value)} {fI : Addr}
    (hC : h.get? C = some (excClassObj nm q C N bs bm hdct sn sub ab col dd k0 k1 k2 k3 k5 newId))
    (hi : W.Looks (model prog w) h (typeLookup (.ref C) "__init__") (some (.ref fI)))
    (hb : ∀ self, W.Looks (model prog w) h (bindSpecial (.ref fI) self) (.ref fI, [self])) (hz : us.length ≤ sizeLine)
    (hq : codeAny (model prog w) (A.under (.builtin "type.__call__" ⟨.ref C :: us, kw⟩))
      (.call (.ref fI) ⟨.ref (h.objs.size + 1) :: us, kw⟩) (W.InitBack (h.objs.size + 1) R)
      ⟨(h.push (W.kdv_tup us)).push (excO C h.objs.size), g, d, t, os⟩) :
    codeAny (model prog w) A (.call (.ref C) ⟨us, kw⟩) R ⟨h, g, d, t, os⟩ := by
  have f1 := tc_lookup
  have f2 := tc_bind (.ref C)
  have hTy : (⟨h, g, d, t, os⟩ : Shared).TypeIs (.ref C) "type" := ⟨_, hC, rfl⟩
  refine codeAny_of_tree ?_
  show wpAny _ _ (callAny (.ref C) _) _ _ _
  repeat (any_goals (first | assumption | with_reducible refine wpAny_loadPart_at hC ?_ | wp_step))
  refine ⟨rfl, ?_⟩
  refine codeAny_call_builtin_at (Code.quiet_builtin _ (by decide +kernel)) entry_typeCall
    (wpAny_check_type_call_sub hC (type_callK F hT hC hi hb hz ?_))
  refine codeAny_mono hq fun r s' z => ?_
  rcases r with e | (v | _ | _ | _) <;> exact z
end
end EvK
namespace EV
open PySem PySem.Spec PyProof.Rows L2
/-- the promise of an __init__ that keeps what it is given, in order -/
def spSet (C : Addr) (fs : List Str) : Sp := fun vs H Q _ => ∃ (a : Addr) (ys : List V), vs = .ref a :: ys ∧ ys.length = fs.length ∧ H a = some (exo a C none) ∧
  ∀ (d : Addr) (H' : Hp), H d = none → d ≠ a → H' a = some (exo a C (some d)) → H' d = some (exd d (fs.zip ys).reverse) → (∀ b o, b ≠ a → H b = some o → H' b = some o) → Q .non H'
section
variable {P : Program} {w : World} {K : PySem.W.Frag} {mg : Str → Option Value} {base : Heap} {st : Stmt} {qual : Str} {C fI : Addr} {fd : FuncData} {f g h : Str}
variable {p1 p2 p3 p4 q1 q2 q3 q4 r1 r2 r3 r4 : Pos}
theorem ne_tail {H : Hp} {a d b : Addr} {o : HO} (hd : H d = none) (e : H b = some o) : b ≠ d := ne_of_none e hd
theorem ok_init1 (hb : defBody st = [.Assign [.Attribute (.Name "self" p1) f p2] (.Name f p3) p4])
    (S : FnScope ["self", f] ["self", f] (defScope st)) (vs : Vis (defScope st) "self") (vf : Vis (defScope st) f) (d1 : (f == ("__debug__" : Str)) = false) (c1 : (f == ("__classdict__" : Str)) = false)
    (F : Fun K "__init__" qual st fI fd) (T : OexC K C) (n1 : PySem.W.findIn K (.ref C) f = some none) : FnOk P w K mg base CX0 1 fI fd ["self", f] (spSet C [f]) := by
  refine F.ok S (fun vs H Q E h => ?_) (fun cdv A outer s H us Q E hr h => ?_)
  · obtain ⟨a, ys, rfl, hl, _⟩ := h
    exact congrArg Nat.succ hl
  · obtain ⟨a, ys, rfl, hl, ha, k⟩ := h
    obtain ⟨y, rfl⟩ : ∃ y, ys = [y] := by
      match ys, hl with
      | [y], _ => exact ⟨y, rfl⟩
    rw [hb]
    refine ⟨_, pss_one (ps_ost (pv 0 (hv := vs)) (pv 1 (hv := vf) (hd := d1) (hcd := c1))), ?_⟩
    refine ⟨y, rfl, .ref a, rfl, a, C, rfl, T, n1, .inl ⟨ha, fun d hd hne => ?_⟩⟩
    exact k d _ hd hne upd_same (by rw [upd_ne hne, upd_same]; rfl) fun b o hba hbo => by rw [upd_ne hba, upd_ne (ne_of_none hbo hd)]; exact hbo
theorem ok_init2 (hb : defBody st = [.Assign [.Attribute (.Name "self" p1) f p2] (.Name f p3) p4, .Assign [.Attribute (.Name "self" q1) g q2] (.Name g q3) q4])
    (S : FnScope ["self", f, g] ["self", f, g] (defScope st)) (vs : Vis (defScope st) "self") (vf : Vis (defScope st) f) (vg : Vis (defScope st) g) (d1 : (f == ("__debug__" : Str)) = false) (c1 : (f == ("__classdict__" : Str)) = false)
    (d2 : (g == ("__debug__" : Str)) = false) (c2 : (g == ("__classdict__" : Str)) = false)
    (F : Fun K "__init__" qual st fI fd) (T : OexC K C) (n1 : PySem.W.findIn K (.ref C) f = some none) (n2 : PySem.W.findIn K (.ref C) g = some none) : FnOk P w K mg base CX0 1 fI fd ["self", f, g] (spSet C [f, g]) := by
  refine F.ok S (fun vs H Q E h => ?_) (fun cdv A outer s H us Q E hr h => ?_)
  · obtain ⟨a, ys, rfl, hl, _⟩ := h
    exact congrArg Nat.succ hl
  · obtain ⟨a, ys, rfl, hl, ha, k⟩ := h
    obtain ⟨y, z, rfl⟩ : ∃ y z, ys = [y, z] := by
      match ys, hl with
      | [y, z], _ => exact ⟨y, z, rfl⟩
    rw [hb]
    refine ⟨_, pss_cons (ps_ost (pv 0 (hv := vs)) (pv 1 (hv := vf) (hd := d1) (hcd := c1))) (pss_one (ps_ost (pv 0 (hv := vs)) (pv 2 (hv := vg) (hd := d2) (hcd := c2)))), ?_⟩
    refine ⟨y, rfl, .ref a, rfl, a, C, rfl, T, n1, .inl ⟨ha, fun d hd hne => ?_⟩⟩
    refine ⟨z, rfl, .ref a, rfl, a, C, rfl, T, n2, .inr ⟨d, [(f, y)], upd_same, by rw [upd_ne hne, upd_same], by show 1 ≤ 900; decide, ?_⟩⟩
    refine k d _ hd hne (by rw [upd_ne hne.symm, upd_same]) (by rw [upd_same]; rfl) fun b o hba hbo => ?_
    rw [upd_ne (ne_of_none hbo hd), upd_ne hba, upd_ne (ne_of_none hbo hd)]
    exact hbo
theorem ok_init3 (hb : defBody st = [.Assign [.Attribute (.Name "self" p1) f p2] (.Name f p3) p4, .Assign [.Attribute (.Name "self" q1) g q2] (.Name g q3) q4, .Assign [.Attribute (.Name "self" r1) h r2] (.Name h r3) r4])
    (S : FnScope ["self", f, g, h] ["self", f, g, h] (defScope st)) (vs : Vis (defScope st) "self") (vf : Vis (defScope st) f) (vg : Vis (defScope st) g) (vh : Vis (defScope st) h) (d1 : (f == ("__debug__" : Str)) = false) (c1 : (f == ("__classdict__" : Str)) = false)
    (d2 : (g == ("__debug__" : Str)) = false) (c2 : (g == ("__classdict__" : Str)) = false) (d3 : (h == ("__debug__" : Str)) = false) (c3 : (h == ("__classdict__" : Str)) = false)
    (F : Fun K "__init__" qual st fI fd) (T : OexC K C) (n1 : PySem.W.findIn K (.ref C) f = some none) (n2 : PySem.W.findIn K (.ref C) g = some none) (n3 : PySem.W.findIn K (.ref C) h = some none) :
    FnOk P w K mg base CX0 1 fI fd ["self", f, g, h] (spSet C [f, g, h]) := by
  refine F.ok S (fun vs H Q E h => ?_) (fun cdv A outer s H us Q E hr h => ?_)
  · obtain ⟨a, ys, rfl, hl, _⟩ := h
    exact congrArg Nat.succ hl
  · obtain ⟨a, ys, rfl, hl, ha, k⟩ := h
    obtain ⟨y, z, x, rfl⟩ : ∃ y z x, ys = [y, z, x] := by
      match ys, hl with
      | [y, z, x], _ => exact ⟨y, z, x, rfl⟩
    rw [hb]
    refine ⟨_, pss_cons (ps_ost (pv 0 (hv := vs)) (pv 1 (hv := vf) (hd := d1) (hcd := c1))) (pss_cons (ps_ost (pv 0 (hv := vs)) (pv 2 (hv := vg) (hd := d2) (hcd := c2))) (pss_one (ps_ost (pv 0 (hv := vs)) (pv 3 (hv := vh) (hd := d3) (hcd := c3))))), ?_⟩
    refine ⟨y, rfl, .ref a, rfl, a, C, rfl, T, n1, .inl ⟨ha, fun d hd hne => ?_⟩⟩
    refine ⟨z, rfl, .ref a, rfl, a, C, rfl, T, n2, .inr ⟨d, [(f, y)], upd_same, by rw [upd_ne hne, upd_same], by show 1 ≤ 900; decide, ?_⟩⟩
    refine ⟨x, rfl, .ref a, rfl, a, C, rfl, T, n3, .inr ⟨d, [(g, z), (f, y)], by rw [upd_ne hne.symm, upd_same], by rw [upd_same], by show 2 ≤ 900; decide, ?_⟩⟩
    refine k d _ hd hne (by rw [upd_ne hne.symm, upd_ne hne.symm, upd_same]) (by rw [upd_same]; rfl) fun b o hba hbo => ?_
    rw [upd_ne (ne_of_none hbo hd), upd_ne (ne_of_none hbo hd), upd_ne hba, upd_ne (ne_of_none hbo hd)]
    exact hbo
end
end EV
namespace EV
open PySem PySem.Spec PyProof.Rows L2
/-- an own exception class with an __init__ that keeps its fields, in order -/
structure Err (P : Program) (w : World) (K : PySem.W.Frag) (mg : Str → Option Value) (base : Heap) (x : Str) (C : Addr) (fs : List Str) : Prop where
  oex : OexC K C
  rd : RdC K C
  gC : mg x = some (.ref C)
  no : ∀ f ∈ fs, PySem.W.findIn K (.ref C) f = some none
  made : ∃ (fI : Addr) (fd : FuncData), PySem.W.findIn K (.ref C) "__init__" = some (some (.ref fI)) ∧ PySem.W.typeIn K (.ref fI) = some (.type "function") ∧
    FnOk P w K mg base CX0 1 fI fd (("self" : Str) :: fs) (spSet C fs) ∧
    ∀ (s : Shared) (us ws : List Value), 0 < us.length → (us ++ ws).length = fs.length + 1 → BindsTo s fd ⟨us, ((("self" : Str) :: fs).drop us.length).zip ws⟩ ((("self" : Str) :: fs).zip (us ++ ws))
section
variable {X : Cx} {pins : List (Addr × Obj)} {σ : L2.St} {H : Hp} {s : Shared} {x : Str} {C : Addr} {fs : List Str} {us ws : List Value} {ys zs : List V} {Q : XK}
theorem run_err (T : Err X.prog X.w X.K X.mg X.base x C fs) (hr : Room 2 X.A) (I : Inv X pins σ H s) (ry : Vals ys us) (rz : Vals zs ws) (hl : (ys ++ zs).length = fs.length) (h9 : fs.length ≤ 9)
    (q : ∀ (d : Addr) (H' : Hp), Same H H' → H d = none → H' d = some (.xd (fs.zip (ys ++ zs)).reverse) → Q (.ref C) (some d) H') :
    wpAny (model X.prog X.w) X.A (call (.ref C) us ((fs.drop us.length).zip ws)) (MkP X pins σ Q) X.xe s := by
  obtain ⟨fI, fd, iC, tI, F1, bd⟩ := T.made
  obtain ⟨nm, qq, N, bs, bm, sn, sub, ab, col, dd, k0, k1, k2, k3, k5, hC, hbm⟩ := T.oex.cls
  obtain ⟨hp, g, dr, tk, os⟩ := s
  have hsz : hp.objs.size ≤ hp.objs.size + 1 := Nat.le_succ _
  have hn : H (hp.objs.size + 1) = none := I.hok.fresh hsz
  have lu : us.length + ws.length = fs.length := by
    rw [← ry.length, ← rz.length, ← hl, List.length_append]
  have kk : ∀ b o, hp.get? b = some o → ((hp.push (PySem.W.kdv_tup us)).push (PySem.HandSPX.excO C hp.objs.size)).get? b = some o :=
    fun b o e => Heap.get?_push_of_some _ (Heap.get?_push_of_some _ e)
  have hg1 : ((hp.push (PySem.W.kdv_tup us)).push (PySem.HandSPX.excO C hp.objs.size)).get? (hp.objs.size + 1) = some (PySem.HandSPX.excO C hp.objs.size) := by
    heap_get
  have I2 := I.laid (t' := tk) (a := hp.objs.size + 1) (o := exo (hp.objs.size + 1) C none) (h' := (hp.push (PySem.W.kdv_tup us)).push (PySem.HandSPX.excO C hp.objs.size)) kk hsz (exo_ok hg1)
  have r2 : Vals (V.ref (hp.objs.size + 1) :: (ys ++ zs)) (Value.ref (hp.objs.size + 1) :: (us ++ ws)) := .cons rfl (ry.append rz)
  have hus : us.length ≤ sizeLine := by
    rw [sizeLine_eq]
    omega
  have hq : spSet C fs (V.ref (hp.objs.size + 1) :: (ys ++ zs)) (upd H (hp.objs.size + 1) (exo (hp.objs.size + 1) C none))
      (fun v H2 => v = .non ∧ ∃ (d : Addr), H2 (hp.objs.size + 1) = some (exo (hp.objs.size + 1) C (some d)) ∧ H2 d = some (exd d (fs.zip (ys ++ zs)).reverse) ∧ H d = none ∧ Same H H2) (fun _ _ _ => False) := by
    refine ⟨_, _, rfl, hl, upd_same, fun d H' hd hne ha hx hk => ⟨rfl, d, ha, hx, ?_, fun b o e => ?_⟩⟩
    · rw [upd_ne hne] at hd
      exact hd
    · refine hk b o (ne_of_none e hn) ?_
      rw [upd_ne (ne_of_none e hn)]
      exact e
  have hb := bd ⟨(hp.push (PySem.W.kdv_tup us)).push (PySem.HandSPX.excO C hp.objs.size), g, dr, tk, os⟩ (Value.ref (hp.objs.size + 1) :: us) ws (Nat.succ_pos _)
    (by rw [List.length_append, List.length_cons]; omega)
  refine wpAny_call (EvK.callK F.excBase_ValueError (fun Y => PySem.HandSPX.refsVE_contains Y bm hbm) (I.kIn _ _ hC) (PySem.W.looks_findIn I.kIn iC) (fun self => PySem.W.bind_fn I.kIn self tI) hus
    (codeAny_mono (F1.run _ X.stack _ _ ⟨Value.ref (hp.objs.size + 1) :: us, (fs.drop us.length).zip ws⟩ (Value.ref (hp.objs.size + 1) :: (us ++ ws)) _ _ (fun _ _ _ => False) (hr.make C us _) (I2.env0.make C us _) hb r2 hq) fun r s' z => ?_))
  cases r with
  | error er => exact z.elim
  | ok fl =>
    cases fl with
    | next => exact z.elim
    | brk => exact z.elim
    | cont => exact z.elim
    | ret u =>
      obtain ⟨v, H2, os2, bare2, un2, hok2, rv, ev, d, ea, ed, hd1, sm⟩ := z
      subst ev
      obtain ⟨h2, g2, d2, t2, os'⟩ := s'
      refine ⟨rv, mk_end (raises_own T.oex.exC T.oex.tyC) I hsz kk un2 hok2 os2 bare2 ea ed hd1 (q d _ (fun b o e => ?_) hd1 upd_same)⟩
      rw [upd_ne (ne_of_none e hd1), del_ne (ne_of_none e hn)]
      exact sm b o e
end
end EV
namespace EV
open PySem PySem.Spec PyProof.Rows L2
/-- plain arguments: names and constants, which leave the heap as it is -/
def tPl (g : L2.St → List V → Prop) : TA := fun σ H Q => ∃ vs, g σ vs ∧ Q vs H
section
variable {X : Cx} {e : Expr} {es : List Expr} {g g' : L2.St → List V → Prop} {kws : List Keyword} {nm : Option Str} {kp : Pos}
theorem pl_nil : PA X [] (tPl fun _ vs => vs = []) := ⟨fun pos pins s σ H Q I ⟨vs, e, q⟩ => pa_nil.run pos pins s σ H Q I (by subst e; exact q)⟩
theorem pl_var {i : Nat} (he : PE X e (tVar i)) (hr : PA X es (tPl g)) (hs : starEach (e :: es) X.env = (false, eval e X.env) :: starEach es X.env := by rfl) : PA X (e :: es) (tPl fun σ vs => ∃ v r, vs = v :: r ∧ σ[i]? = some (some v) ∧ g σ r) :=
  ⟨fun pos pins s σ H Q I ⟨vs, ⟨v, r, e1, e2, e3⟩, q⟩ => (pa_cons he hr hs).run pos pins s σ H Q I (by subst e1; exact ⟨v, e2, r, e3, q⟩)⟩
theorem pl_int {n : Int} (he : PE X e (tC (.int n))) (hr : PA X es (tPl g)) (hs : starEach (e :: es) X.env = (false, eval e X.env) :: starEach es X.env := by rfl) : PA X (e :: es) (tPl fun σ vs => ∃ r, vs = .int n :: r ∧ g σ r) :=
  ⟨fun pos pins s σ H Q I ⟨vs, ⟨r, e1, e3⟩, q⟩ => (pa_cons he hr hs).run pos pins s σ H Q I (by subst e1; exact ⟨r, e3, q⟩)⟩
theorem kl_nil : PK X [] (tPl fun _ vs => vs = []) := ⟨fun pos pins s σ H Q I ⟨vs, e, q⟩ => pk_nil.run pos pins s σ H Q I (by subst e; exact q)⟩
theorem kl_var {i : Nat} (he : PE X e (tVar i)) (hr : PK X kws (tPl g)) : PK X (⟨nm, e, kp⟩ :: kws) (tPl fun σ vs => ∃ v r, vs = v :: r ∧ σ[i]? = some (some v) ∧ g σ r) :=
  ⟨fun pos pins s σ H Q I ⟨vs, ⟨v, r, e1, e2, e3⟩, q⟩ => (pk_cons he hr).run pos pins s σ H Q I (by subst e1; exact ⟨v, e2, r, e3, q⟩)⟩
theorem kl_int {n : Int} (he : PE X e (tC (.int n))) (hr : PK X kws (tPl g)) : PK X (⟨nm, e, kp⟩ :: kws) (tPl fun σ vs => ∃ r, vs = .int n :: r ∧ g σ r) :=
  ⟨fun pos pins s σ H Q I ⟨vs, ⟨r, e1, e3⟩, q⟩ => (pk_cons he hr).run pos pins s σ H Q I (by subst e1; exact ⟨r, e3, q⟩)⟩
end
/-- what making such an error asks and gives -/
def tEr (C : Addr) (fs : List Str) (g : L2.St → List V → Prop) : L2.St → Hp → XK → Prop := fun σ H Q => ∃ vs, g σ vs ∧ vs.length = fs.length ∧
  ∀ (d : Addr) (H' : Hp), Same H H' → H d = none → H' d = some (.xd (fs.zip vs).reverse) → Q (.ref C) (some d) H'
/-- n values and then keywords -/
def gApp (n : Nat) (g g' : L2.St → List V → Prop) : L2.St → List V → Prop := fun σ vs => ∃ ys zs, vs = ys ++ zs ∧ ys.length = n ∧ g σ ys ∧ g' σ zs
section
variable {X : Cx} {x : Str} {C : Addr} {fs : List Str} {e : Expr} {es : List Expr} {g g' : L2.St → List V → Prop} {kws : List Keyword} {p pos : Pos}
theorem pmk_er (T : Err X.prog X.w X.K X.mg X.base x C fs) (hr : Room 2 X.A) (h9 : fs.length ≤ 9) (hg : Gl X x) (ha : PA X (e :: es) (tPl g)) (hdb : (x == ("__debug__" : Str)) = false := by decide)
    (he : starEach (e :: es) X.env = (false, eval e X.env) :: starEach es X.env := by rfl) (hpl : (backTo pos (starEach es X.env)).any (·.1) = false := by rfl) :
    PMk X (.Call (.Name x p) (e :: es) [] pos) (tEr C fs g) := by
  intro pins s σ H Q I ⟨vs, hg1, hl, q⟩
  refine wpAny_Call_Name_kw (ld_glob I hg T.gC ?_ hdb)
  refine PySem.W.callWith_K (h₀ := X.base) I.ok.mod.kin T.oex.kC (thn (ha.run pos pins s σ H (fun us H1 => us = vs ∧ H1 = H) I ⟨vs, hg1, rfl, rfl⟩) fun us s1 ⟨ys, H1, I1, r1, e1, e2⟩ => ⟨I1.kIn, ?_⟩) he hpl
  subst e1
  subst e2
  have lu : us.length = fs.length := by rw [← r1.length, hl]
  have z := run_err (us := us) (ws := []) (zs := []) T hr I1 r1 .nil (by rw [List.append_nil]; exact hl) h9 (Q := Q) (by rw [List.append_nil]; exact q)
  rw [lu, List.drop_length] at z
  exact z
theorem pmk_erK (n : Nat) (T : Err X.prog X.w X.K X.mg X.base x C fs) (hr : Room 2 X.A) (h9 : fs.length ≤ 9) (hg : Gl X x) (ha : PA X (e :: es) (tPl g)) (hk : PK X kws (tPl g'))
    (hks : (backToKw pos (keywordEach kws X.env)).filterMap (·.1) = fs.drop n)
    (hall : (backToKw pos (keywordEach kws X.env)).all (·.1.isSome) = true := by rfl) (hdb : (x == ("__debug__" : Str)) = false := by decide)
    (he : starEach (e :: es) X.env = (false, eval e X.env) :: starEach es X.env := by rfl) (hpl : ((backTo pos (starEach (e :: es) X.env)).any (·.1) || (backToKw pos (keywordEach kws X.env)).any (·.1.isNone)) = false := by rfl) :
    PMk X (.Call (.Name x p) (e :: es) kws pos) (tEr C fs (gApp n g g')) := by
  intro pins s σ H Q I ⟨vs, ⟨vy, vz, ev, ln, hg1, hg2⟩, hl, q⟩
  subst ev
  refine wpAny_Call_Name_kw (ld_glob I hg T.gC ?_ hdb)
  refine PySem.W.callWith_KW (h₀ := X.base) I.ok.mod.kin T.oex.kC hall (thn (ha.run pos pins s σ H (fun us H1 => us = vy ∧ H1 = H) I ⟨vy, hg1, rfl, rfl⟩) fun us s1 ⟨ys, H1, I1, r1, e1, e2⟩ => ?_) hpl he
  subst e1
  subst e2
  refine thn (hk.run pos pins s1 σ H1 (fun us H2 => us = vz ∧ H2 = H1) I1 ⟨vz, hg2, rfl, rfl⟩) fun ws s2 ⟨zs, H2, I2, r2, e1, e2⟩ => ⟨I2.kIn, ?_⟩
  subst e1
  subst e2
  rw [hks]
  have lu : us.length = n := by rw [← r1.length, ln]
  have z := run_err (us := us) (ws := ws) T hr I2 r1 r2 hl h9 (Q := Q) q
  rw [lu] at z
  exact z
theorem pmk_erK0 (T : Err X.prog X.w X.K X.mg X.base x C fs) (hr : Room 2 X.A) (h9 : fs.length ≤ 9) (hg : Gl X x) (hk : PK X kws (tPl g'))
    (hks : (backToKw pos (keywordEach kws X.env)).filterMap (·.1) = fs)
    (hall : (backToKw pos (keywordEach kws X.env)).all (·.1.isSome) = true := by rfl) (hdb : (x == ("__debug__" : Str)) = false := by decide)
    (hpl : ((backTo pos (starEach [] X.env)).any (·.1) || (backToKw pos (keywordEach kws X.env)).any (·.1.isNone)) = false := by rfl) :
    PMk X (.Call (.Name x p) [] kws pos) (tEr C fs g') := by
  intro pins s σ H Q I ⟨vz, hg2, hl, q⟩
  refine wpAny_Call_Name_kw (ld_glob I hg T.gC ?_ hdb)
  refine PySem.W.callWith_KW0 (h₀ := X.base) I.ok.mod.kin T.oex.kC hall ?_ hpl
  refine thn (hk.run pos pins s σ H (fun us H2 => us = vz ∧ H2 = H) I ⟨vz, hg2, rfl, rfl⟩) fun ws s2 ⟨zs, H2, I2, r2, e1, e2⟩ => ⟨I2.kIn, ?_⟩
  subst e1
  subst e2
  rw [hks]
  exact run_err (us := []) (ys := []) (ws := ws) T hr I2 .nil r2 hl h9 (Q := Q) q
/-- kept -/
theorem pe_er (he : PMk X e (tEr C fs g)) : PE X e (fun σ H Q => ∃ vs, g σ vs ∧ vs.length = fs.length ∧
    ∀ (a d : Addr) (H' : Hp), Same H H' → H a = none → H' a = some (exv a C (some d)) → H' d = some (.xd (fs.zip vs).reverse) → Q (.ref a) H') := by
  refine ⟨fun pins s σ H Q I ⟨vs, h1, h2, q⟩ => ?_⟩
  refine (pe_val he).run pins s σ H Q I ⟨vs, h1, h2, fun d H' sm hd hx => ⟨C, rfl, fun a ha => ?_⟩⟩
  refine q a d _ (fun b o z => ?_) (sm.free ha) upd_same (by rw [upd_ne (ne_of_none hx ha)]; exact hx)
  rw [upd_ne (ne_of_none (sm b o z) ha)]
  exact sm b o z
/-- a field of it, read at once -/
theorem pe_erA {f : Str} {fp : Pos} (T : Err X.prog X.w X.K X.mg X.base x C fs) (he : PMk X e (tEr C fs g)) (hf : f ∈ fs) (hb : attributeBase e f X.env (eval e X.env) = eval e X.env := by rfl) :
    PE X (.Attribute e f fp) (fun σ H Q => ∃ vs v, g σ vs ∧ vs.length = fs.length ∧ (fs.zip vs).reverse.lookup f = some v ∧ ∀ H', Same H H' → Q v H') := by
  refine ⟨fun pins s σ H Q I ⟨vs, v, h1, h2, h3, q⟩ => ?_⟩
  exact (pe_attr (pe_er he) hb).run pins s σ H Q I ⟨vs, h1, h2, fun a d H' sm ha hx hd => ⟨a, C, d, _, v, rfl, T.rd, T.no f hf, hx, hd, h3, q H' sm⟩⟩
end
end EV
namespace EV
open PySem PySem.Spec PyProof.Rows L2
theorem pl_at {X : Cx} {e : Expr} {es : List Expr} {te : TE} {g : L2.St → List V → Prop} (v : V) (he : PE X e te) (ht : ∀ (σ : L2.St) (H : Hp) (Q : VK), Q v H → te σ H Q) (hr : PA X es (tPl g)) (hs : starEach (e :: es) X.env = (false, eval e X.env) :: starEach es X.env := by rfl) : PA X (e :: es) (tPl fun σ vs => ∃ r, vs = v :: r ∧ g σ r) :=
  ⟨fun pos pins s σ H Q I ⟨vs, ⟨r, e1, e3⟩, q⟩ => (pa_cons he hr hs).run pos pins s σ H Q I (by subst e1; exact ht _ _ _ ⟨r, e3, q⟩)⟩
end EV
namespace K23
open PySem PySem.Spec PyProof.Rows L2 RwM Rw EV
abbrev sTaken : Stmt := top 30
/-- an entry that is a stretch -/
structure StAt (M : Int) (H : Hp) (x : V) (p : List Int × Int) : Prop where
  ex : ∃ q a : Addr, x = .ref q ∧ H q = some (.tup [.ref a, .int p.2]) ∧ SqA H a (p.1.map V.int)
  ln : 1 ≤ p.1.length ∧ p.1.length ≤ 40
  ns : ∀ n ∈ p.1, 0 ≤ n ∧ n ≤ 3
  tm : 0 ≤ p.2 ∧ p.2 ≤ M
theorem StAt.same {M : Int} {H H' : Hp} {x : V} {p : List Int × Int} (h : StAt M H x p) (s : Same H H') : StAt M H' x p := by
  obtain ⟨⟨q, a, e, h1, h2⟩, h3, h4, h5⟩ := h
  exact ⟨⟨q, a, e, s _ _ h1, h2.same fun o z => s _ _ z⟩, h3, h4, h5⟩
inductive Ent (M : Int) (H : Hp) (x : V) : Option (List Int × Int) → Prop where
  | good {p : List Int × Int} (h : StAt M H x p) : Ent M H x (some p)
  | bad {o : Option (List V)} (h : SeqK H x o) (hs : StK M H o false) : Ent M H x none
theorem StK.same {M : Int} {H H' : Hp} {o : Option (List V)} {b : Bool} (h : StK M H o b) (s : Same H H') : StK M H' o b := by
  cases h with
  | no h hl => exact .no h hl
  | yes hx ex hy => exact .yes (hx.same s) (ex.same s) (hy.same s)
theorem Ent.same {M : Int} {H H' : Hp} {x : V} {o : Option (List Int × Int)} (h : Ent M H x o) (s : Same H H') : Ent M H' x o := by
  cases h with
  | good h => exact .good (h.same s)
  | bad h hs => exact .bad (h.same s) (hs.same s)
/-- what is_stretch says of an entry -/
theorem Ent.st {M : Int} {H : Hp} {x : V} {o : Option (List Int × Int)} (h : Ent M H x o) : ∃ ox, SeqK H x ox ∧ StK M H ox o.isSome := by
  cases h with
  | bad h hs => exact ⟨_, h, hs⟩
  | @good p h =>
    obtain ⟨⟨q, a, e, h1, h2⟩, h3, h4, h5⟩ := h
    subst e
    refine ⟨some [.ref a, .int p.2], .tup h1, ?_⟩
    have z : StK M H (some [V.ref a, .int p.2]) (lw (some (p.1.map V.int)) && wth (.int p.2) 0 M) := .yes (SqA.kind h2) (fun xs e => by
      cases e
      refine ⟨by rw [List.length_map]; omega, fun x hx => ?_⟩
      obtain ⟨n, _, rfl⟩ := List.mem_map.mp hx
      exact ⟨none, .int n⟩) (.int p.2)
    have e1 : lw (some (p.1.map V.int)) = true := by
      show (decide (1 ≤ (p.1.map V.int).length) && decide ((p.1.map V.int).length ≤ 40) && (p.1.map V.int).all fun x => wth x 0 3) = true
      rw [List.length_map, decide_eq_true h3.1, decide_eq_true h3.2, Bool.and_self, Bool.true_and, List.all_map, List.all_eq_true]
      intro n hn
      show (decide (0 ≤ n) && decide (n ≤ 3)) = true
      rw [decide_eq_true (h4 n hn).1, decide_eq_true (h4 n hn).2]
      rfl
    have e2 : wth (.int p.2) 0 M = true := by
      show (decide (0 ≤ p.2) && decide (p.2 ≤ M)) = true
      rw [decide_eq_true h5.1, decide_eq_true h5.2]
      rfl
    rw [e1, e2] at z
    exact z
def SqE (K : PySem.W.Frag) (H : Hp) (a : Addr) (xs : List V) : Prop := SqA H a xs ∨ SqT K H a xs
theorem SqE.lt {K : PySem.W.Frag} {H : Hp} {a : Addr} {xs : List V} (h : SqE K H a xs) : SqL K H a xs ∨ SqT K H a xs := by
  rcases h with (z | z) | z
  · exact .inl (SqL.of z)
  · exact .inr (SqT.of z)
  · exact .inr z
theorem SqE.same {K : PySem.W.Frag} {H H' : Hp} {a : Addr} {xs : List V} (h : SqE K H a xs) (s : Same H H') : SqE K H' a xs := by
  rcases h with z | z
  · exact .inl (SqA.same z fun o e => s _ _ e)
  · exact .inr (sameT z s)
theorem seqE {K : PySem.W.Frag} {H H' : Hp} {v : V} {xs : List V} (m : SeqK H v (some xs) ∨ EmpT K H v (some xs)) (s : Same H H') : ∃ a, v = .ref a ∧ SqE K H' a xs := by
  rcases m with m | ⟨a, rfl, e, h⟩
  · obtain ⟨a, e, h⟩ := (m.same s).sq
    exact ⟨a, e, .inl h⟩
  · cases e
    exact ⟨a, rfl, .inr (sameT h s)⟩
abbrev errAt (C : Addr) (H : Hp) (E : XK) (f : Str) (x : V) : Prop := ∀ (d : Addr) (H' : Hp), Same H H' → H d = none → H' d = some (.xd [(f, x)]) → E (.ref C) (some d) H'
def spTaken (K : PySem.W.Frag) (M : Int) (C : Addr) : Sp := fun vs H Q E => ∃ (v : V) (o : Option (List V)), vs = [v] ∧ (SeqK H v o ∨ EmpT K H v o) ∧ (((o = none ∨ ∃ xs, o = some xs ∧ 20 < xs.length ∧ xs.length ≤ 100000) ∧ errAt C H E "index" (.int (-1))) ∨
  ∃ (xs : List V) (es : List (Option (List Int × Int))), o = some xs ∧ xs.length ≤ 20 ∧ Paired (Ent M H) xs es ∧ (∀ i : Nat, es[i]? = some none → (∀ j, j < i → es[j]? ≠ some none) → errAt C H E "index" (.int (i : Nat))) ∧
    ∀ ps : PS, es = ps.map some → ∀ (t : Addr) (ws : List V) (H' : Hp), Same H H' → H t = none → H' t = some (.tup ws) → Prs H' ws ps → Q (.ref t) H')
def rTupO (K : PySem.W.Frag) : List V → Hp → VK → Prop := fun xs H Q => ∃ (p : Addr) (ys : List V), xs = [.ref p] ∧ ((SqL K H p ys ∧ ∀ l, H l = none → Q (.ref l) (upd H l (.tup ys))) ∨ (SqT K H p ys ∧ Q (.ref p) H))
theorem call_tupO {X : Cx} : CallR X (.type "tuple") (rTupO X.K) := call_tuple_of
theorem tupO {K : PySem.W.Frag} {H : Hp} {a : Addr} {xs : List V} {Q : VK} (h : SqA H a xs) (q : ∀ (l : Addr) (H' : Hp), Same H H' → H' l = some (.tup xs) → Q (.ref l) H') : rTupO K [.ref a] H Q := by
  rcases h with z | z
  · exact ⟨a, xs, rfl, .inl ⟨SqL.of z, fun l nl => q l _ (sameNew nl) upd_same⟩⟩
  · exact ⟨a, xs, rfl, .inr ⟨SqT.of z, q a H (.refl _) z⟩⟩
theorem all_some {α : Type} : ∀ es : List (Option α), (∀ j : Nat, es[j]? ≠ some none) → ∃ ps : List α, es = ps.map some
  | [], _ => ⟨[], rfl⟩
  | none :: es, h => absurd rfl (h 0)
  | some p :: es, h => by
    obtain ⟨ps, e⟩ := all_some es fun j => by simpa using h (j + 1)
    exact ⟨p :: ps, by rw [e]; rfl⟩
theorem ent_good {M : Int} {H : Hp} : ∀ {xs : List V} {ps : PS}, Paired (Ent M H) xs (ps.map some) → Paired (StAt M H) xs ps
  | _, [], .nil => .nil
  | _, p :: ps, .cons h t => .cons (by cases h; assumption) (ent_good t)
theorem paired_get {α β : Type} {R : α → β → Prop} : ∀ {xs : List α} {ys : List β} {i : Nat} {x : α}, Paired R xs ys → xs[i]? = some x → ∃ y, ys[i]? = some y ∧ R x y
  | _, _, 0, _, .cons h _, e => by cases e; exact ⟨_, rfl, h⟩
  | _, _, i + 1, _, .cons _ t, e => by
    obtain ⟨y, e2, r⟩ := paired_get (i := i) t (by simpa using e)
    exact ⟨y, by simpa using e2, r⟩
theorem paired_len {α β : Type} {R : α → β → Prop} : ∀ {xs : List α} {ys : List β}, Paired R xs ys → xs.length = ys.length
  | _, _, .nil => rfl
  | _, _, .cons _ t => congrArg (· + 1) (paired_len t)
section
variable {P : Program} {w : World} {K : PySem.W.Frag} {mg : Str → Option Value} {base : Heap}
abbrev nmTaken : List Str := ["value", "index", "stretch", "word", "times"]
theorem scTaken : FnScope nmTaken ["value"] (defScope sTaken) := ⟨rfl, rfl, rfl, by decide +kernel, rfl, by decide +kernel, by decide +kernel⟩
theorem ok_taken {f fL fS C : Addr} {fd fdL fdS : FuncData} {M : Int} {tk : Tok} (F : Fun K "taken_stretches" "taken_stretches" sTaken f fd) (zN : mg "len" = none) (zT : mg "tuple" = none) (zE : mg "enumerate" = none) (mS : mg "MOST_STRETCHES" = some (.int 20 tk))
    (GL : FnOk P w K mg base CX0 1 fL fdL ["value"] (spIsList K)) (AL : At K mg "is_list" fL fdL ["value"])
    (GS : FnOk P w K mg base CX0 4 fS fdS ["value"] (spStretch M)) (AS : At K mg "is_stretch" fS fdS ["value"]) (TB : Err P w K mg base "BadRow" C ["index"]) :
    FnOk P w K mg base (L2.CX P w) 5 f fd ["value"] (spTaken K M C) := by
  refine F.okX scTaken (fun vs H Q E h => ?_) (fun cdv A outer s H vs Q E hr h => ?_)
  · obtain ⟨v, o, rfl, _⟩ := h
    rfl
  · obtain ⟨v, o, rfl, m, h⟩ := h
    have nd := scTaken.nd
    have hr1 := hr.mono (show 1 ≤ 4 by decide)
    have hr2 := hr.mono (show 2 ≤ 4 by decide)
    have bt : bootBuiltins "tuple" = some (.type "tuple") := by decide +kernel
    refine ⟨_, (pss_cons (ps_if (PW.pt (pw_or (pt_not (pt_val (pe_call GL hr1 rfl AL.mg AL.kp AL.bd .nil pass0 (pa_cons (pv 0) pa_nil)))) (pw_or1 (pt_cmpR op_gt (pe_callB (r := rLenS K) call_lenS (by rfl) zN PySem.boot_len (pa_cons (pv 0) pa_nil)) (pe_glob (v := .int 20) rfl mS ⟨_, rfl⟩) (nomark _)))))
(pss_one (ps_raise rfl (takes_of rfl rfl rfl rfl) (pmk_er TB hr2 (by decide) rfl (pl_at (.int (-1)) (pe_un un_neg pe_int) (fun _ _ _ q => ⟨_, rfl, q⟩) pl_nil))))
pss_nil)
(pss_cons (ps_for (passes_of rfl) rfl (pi_enumV rfl zE (pa_cons (pv 0) pa_nil)) (pg_tup rfl (pgs_cons (pg_name (i := 1) nd rfl (Or.inl rfl)) (pgs_cons (pg_name (i := 2) nd rfl (Or.inl rfl)) pgs_nil)))
(pss_one (ps_if (pt_not (pt_val (pe_call GS hr rfl AS.mg AS.kp AS.bd .nil pass0 (pa_cons (pv 2) pa_nil))))
(pss_one (ps_raise rfl (takes_of rfl rfl rfl rfl) (pmk_er TB hr2 (by decide) rfl (pl_var (pv 1) pl_nil))))
pss_nil)))
(pss_one (ps_ret (pe_callTy (r := rTupO K) call_tupO (by rfl) zT bt (pa_cons (pe_lc (own := [("word", 3), ("times", 4)]) (g := gTup K 2 (gCons (gName 3) (gCons (gName 4) gNil))) (tt := tYes) rfl nd (pi_seqW (pv 0)) (blkOk_by (N := nmTaken) (sc := defScope sTaken) (by decide +kernel)) (fun _ _ _ _ _ => pg_tup rfl (pgs_cons (pg_name (i := 3) nd rfl (Or.inl rfl)) (pgs_cons (pg_name (i := 4) nd rfl (Or.inl rfl)) pgs_nil))) (fun _ _ _ _ _ => pts_nil) (fun _ _ _ _ _ => (pe_tup (pa_cons (pe_callTy (r := rTupO K) call_tupO (by rfl) zT bt (pa_cons (pv 3) pa_nil)) (pa_cons (pv 4) pa_nil))))) pa_nil)))))), ?_⟩
    refine ⟨_, rfl, v, o, rfl, m, fun H1 s1 => ⟨_, rfl, ?_⟩⟩
    rcases h with ⟨hbad, he⟩ | ⟨xs, es, rfl, hl, hP, hbE, hgood⟩
    · rcases hbad with rfl | ⟨xs, rfl, h20, h9⟩
      · exact ite2 (fun _ => ⟨[.int (-1)], ⟨[], rfl, rfl⟩, rfl, fun d H' s2 n e => he d H' (s1.trans s2) (s1.free n) e⟩) (fun c => absurd rfl c)
      · obtain ⟨a, rfl, hA⟩ := seqE m s1
        have hA2 := hA.lt
        refine ite2 (fun c => absurd c Bool.false_ne_true) (fun _ => ?_)
        refine ⟨_, rfl, a, xs, rfl, hA2, _, _, rfl, rfl, _, rfl, ite2 (fun _ => ?_) (fun c => absurd (decide_eq_true (by omega)) c)⟩
        exact ⟨[.int (-1)], ⟨[], rfl, rfl⟩, rfl, fun d H' s2 n e => he d H' (s1.trans s2) (s1.free n) e⟩
    · obtain ⟨a, rfl, hA⟩ := seqE m s1
      have hA2 := hA.lt
      have le := paired_len hP
      refine ite2 (fun c => absurd c Bool.false_ne_true) (fun _ => ?_)
      refine ⟨_, rfl, a, xs, rfl, hA2, _, _, rfl, rfl, _, rfl, ite2 (fun c => absurd (of_decide_eq_true c) (by omega)) (fun _ => ?_)⟩
      refine ⟨_, rfl, a, xs, rfl, hA, fun J wk => for_it wk (fun i σ H' => ∃ x1 x2 : Option V, σ = [some (.ref a), x1, x2, none, none] ∧ Same H1 H' ∧ ∀ j, j < i → es[j]? ≠ some none) ⟨none, none, rfl, .refl _, fun j hj => absurd hj (Nat.not_lt_zero _)⟩ ?_ ?_ ?_⟩
      · rintro i σ H' hi ⟨x1, x2, rfl, sH, hj⟩ o ho
        exact sH _ _ ho
      · rintro i y σ H' H'' hi ⟨x1, x2, rfl, sH, hj⟩ ⟨T, x0, x, rfl, nT, rfl, e1, e2⟩
        cases e1
        obtain ⟨en, hen, hent⟩ := paired_get hP e2
        have sT := sameNew (o := .tup [.int (i : Nat), x]) nT
        have s2 := (s1.trans sH).trans sT
        obtain ⟨ox, mx, stx⟩ := (hent.same s2).st
        refine ⟨T, [.int (i : Nat), x], rfl, SqT.of upd_same, rfl, .int (i : Nat), [x], rfl, x, [], rfl, rfl, ?_⟩
        refine ⟨_, rfl, x, ox, _, rfl, mx, stx, fun H3 s3 => ⟨_, rfl, ?_⟩⟩
        cases en with
        | none => exact ite2 (fun _ => ⟨[.int (i : Nat)], ⟨.int (i : Nat), [], rfl, rfl, rfl⟩, rfl, fun d H' s4 n e => hbE i hen hj d H' ((s2.trans s3).trans s4) ((s2.trans s3).free n) e⟩) (fun c => absurd rfl c)
        | some p =>
          refine ite2 (fun c => absurd c Bool.false_ne_true) (fun _ => ?_)
          refine ⟨_, _, rfl, (sH.trans sT).trans s3, fun j hj2 => ?_⟩
          rcases Nat.lt_succ_iff_lt_or_eq.mp hj2 with z | z
          · exact hj j z
          · rw [z, hen]; intro q; cases q
      · rintro σ H' ⟨x1, x2, rfl, sH, hj⟩
        obtain ⟨ps, rfl⟩ := all_some es fun j e => by
          by_cases z : j < xs.length
          · exact hj j z e
          · rw [List.getElem?_eq_none (by omega)] at e
            cases e
        have hG := ent_good hP
        have s2 := s1.trans sH
        refine ⟨a, xs, rfl, SqE.same hA sH, fun J wk D hD => lc_it wk (fun i H2 => Same H' H2 ∧ ∃ us, H2 D = some (.lst us) ∧ Prs H2 us (ps.take i)) ⟨sameNew hD, [], upd_same, .nil⟩ (fun i H2 _ h o e => h.1 _ _ e) ?_ ?_⟩
        · rintro i x H2 H3 hi ⟨s3, us, hDu, hPu⟩ ⟨rfl, hx⟩
          obtain ⟨p, hp, hst⟩ := paired_get hG hx
          obtain ⟨⟨q, wa, rfl, hq, hwa⟩, _, _, _⟩ := (hst.same s2).same s3
          have lu : us.length ≤ 20 := by rw [hPu.len, List.length_take]; omega
          refine ⟨q, [.ref wa, .int p.2], rfl, SqT.of hq, rfl, .ref wa, [.int p.2], rfl, .int p.2, [], rfl, rfl, rfl, _, rfl, ?_⟩
          dsimp only [tNil]
          refine tupO hwa fun l H4 s4 h4 => ?_
          refine ⟨_, rfl, by show 2 ≤ sizeLine; decide, fun t6 n6 => ?_⟩
          obtain ⟨H7, e7, hk7, hq7, s7⟩ := push (H := H') (c := p.2) hD s3 hDu hPu s4 h4 n6
          refine ⟨us, (sameNew n6) _ _ (s4 _ _ hDu), by rw [sizeLine_eq]; omega, ?_⟩
          rw [← e7]
          refine ⟨s7, _, hk7, ?_⟩
          rw [List.take_succ, hp]
          exact hq7
        · rintro H2 ⟨s3, us, hDu, hPu⟩
          have e1 : ps.take xs.length = ps := by rw [List.take_of_length_le]; rw [le, List.length_map]; exact Nat.le_refl _
          rw [e1] at hPu
          refine ⟨D, us, rfl, .inl ⟨SqL.of hDu, fun l nl => ?_⟩⟩
          have s5 := s2.trans s3
          have sl := sameNew (o := .tup us) nl
          exact hgood ps rfl l us _ (s5.trans sl) (s5.free nl) upd_same (hPu.same sl)
end
end K23
namespace K23
open PySem PySem.Spec PyProof.Rows L2 RwM Rw EV
abbrev sRunsI : Stmt := inClass (top 14) 0
abbrev sRowI : Stmt := inClass (top 31) 0
abbrev sTotal : Stmt := inClass (top 31) 3
/-- what isinstance wants to know of a plain own class -/
structure InsC (K : PySem.W.Frag) (C : Addr) : Prop where
  cl : Cls K C
  ha : PySem.W.findIn K (.ref C) "__class__" = some (some (.builtin "object.__class__"))
  hn : PySem.W.specialIn K (.builtin "object.__class__") "__get__" = some (some (.builtin "getset_descriptor.__get__"))
  tk : PySem.W.takesIn K (.builtin "object.__class__") = some true
  hm : PySem.W.mroIn K C (.type "object") = some true
  me : PySem.W.kitOne K (.ref C) (.ref C) = some true
/-- an own class with a dict, asked by isinstance -/
structure OwnC (K : PySem.W.Frag) (C : Addr) : Prop where
  ins : InsC K C
  no : ∀ T : String, T ∈ ["NoneType", "bool", "int", "str", "dict", "list", "tuple"] → PySem.W.kitOne K (.type T) (.ref C) = some false
/-- a value that is no instance, or an instance of a class -/
inductive AnyK (K : PySem.W.Frag) (C : Addr) (H : Hp) : V → Bool → Prop where
  | no {v : V} {o : Option (List V)} (h : SeqK H v o) : AnyK K C H v false
  | emp {a : Addr} (h : SqT K H a []) : AnyK K C H (.ref a) false
  | yes {a dx : Addr} {fs : List (Str × V)} (h : H a = some (.ins C dx fs)) : AnyK K C H (.ref a) true
  | other {a D dx : Addr} {fs : List (Str × V)} (d : InsC K D) (n : PySem.W.kitOne K (.ref D) (.ref C) = some false) (h : H a = some (.ins D dx fs)) : AnyK K C H (.ref a) false
def rIsOwn (K : PySem.W.Frag) (C : Addr) : List V → Hp → VK → Prop := fun xs H Q => ∃ v b, xs = [v, .ref C] ∧ AnyK K C H v b ∧ Q (.bl b) H
theorem call_isOwn {X : Cx} {C : Addr} (c : OwnC X.K C) : CallR X (.builtin "isinstance") (rIsOwn X.K C) := by
  intro pins s σ H xs us Q I r ⟨v, b, ex, m, q⟩
  subst ex
  refine call_isi pins s σ H _ us Q I r ?_
  have g : ∀ T : String, TyX X.K H v (.type T) → T ∈ ["NoneType", "bool", "int", "str", "dict", "list", "tuple"] → b = false → rIsi X.K [v, .ref C] H Q := fun T h1 h2 h3 => ⟨v, .ref C, .type T, .ref C, b, rfl, .own C, h1, by rw [h3]; exact c.no T h2, q⟩
  cases m with
  | no h =>
    cases h with
    | non => exact g "NoneType" (.base .non) (by decide) rfl
    | bl b => exact g "bool" (.base (.bl b)) (by decide) rfl
    | int i => exact g "int" (.base (.int i)) (by decide) rfl
    | str z => exact g "str" (.base (.str z)) (by decide) rfl
    | dK h => exact g "dict" (.base (.dK h)) (by decide) rfl
    | lst h => exact g "list" (.base (.lst h)) (by decide) rfl
    | tup h => exact g "tuple" (.base (.tup h)) (by decide) rfl
  | emp h => exact g "tuple" (tyT h) (by decide) rfl
  | @yes a dx fs h => exact ⟨.ref a, .ref C, .ref C, .ref C, true, rfl, .own C, .base (.ins h c.ins.cl c.ins.ha c.ins.hn c.ins.tk c.ins.hm), c.ins.me, q⟩
  | @other a D dx fs d n h => exact ⟨.ref a, .ref C, .ref D, .ref C, false, rfl, .own C, .base (.ins h d.cl d.ha d.hn d.tk d.hm), n, q⟩
def spRunsI (C : Addr) : Sp := fun vs H Q _ => ∃ (r dx : Addr) (y : V), vs = [.ref r, y] ∧ H r = some (.ins C dx []) ∧ Q .non (upd H r (.ins C dx [("pairs", y)]))
/-- a Row, its stretches at t -/
def RowO (C : Addr) (H : Hp) (r t : Addr) : Prop := ∃ dx, H r = some (.ins C dx [("stretches", .ref t)])
section
variable {P : Program} {w : World} {K : PySem.W.Frag} {mg : Str → Option Value} {base : Heap}
theorem scRunsI : FnScope ["self", "pairs"] ["self", "pairs"] (defScope sRunsI) := ⟨rfl, rfl, rfl, by decide +kernel, rfl, by decide +kernel, by decide +kernel⟩
theorem ok_runsI {f C : Addr} {fd : FuncData} (F : Fun K "__init__" "Runs.__init__" sRunsI f fd) (c : Cls K C) (n : NoAttr K C "pairs") : FnOk P w K mg base CX0 1 f fd ["self", "pairs"] (spRunsI C) := by
  refine F.ok scRunsI (fun vs H Q E h => ?_) (fun cdv A outer s H vs Q E hr h => ?_)
  · obtain ⟨r, dx, y, rfl, _⟩ := h
    rfl
  · obtain ⟨r, dx, y, rfl, hr1, k⟩ := h
    have nd := scRunsI.nd
    refine ⟨_, (pss_one (ps_fld (pv 0) (pv 1) rfl)), ?_⟩
    exact ⟨y, rfl, .ref r, rfl, r, C, dx, [], rfl, hr1, c, n, by show 0 < 1000; decide, k⟩
theorem spTaken_mono {M : Int} {CB : Addr} {vs : List V} {H : Hp} {Q Q' : VK} {E : XK} (m : ∀ x H', Q x H' → Q' x H') (h : spTaken K M CB vs H Q E) : spTaken K M CB vs H Q' E := by
  obtain ⟨v, o, e, hk, h⟩ := h
  refine ⟨v, o, e, hk, ?_⟩
  rcases h with h | ⟨xs, es, h1, h2, h3, h4, h5⟩
  · exact .inl h
  · exact .inr ⟨xs, es, h1, h2, h3, h4, fun ps e t ws H' a b c d => m _ _ (h5 ps e t ws H' a b c d)⟩
def spRowI (K : PySem.W.Frag) (M : Int) (CR CU CB : Addr) : Sp := fun vs H Q E => ∃ (r dx : Addr) (v : V), vs = [.ref r, v] ∧ H r = some (.ins CR dx []) ∧
  ((∃ (a dx2 : Addr) (t : V), v = .ref a ∧ H a = some (.ins CU dx2 [("pairs", t)]) ∧ Q .non (upd H r (.ins CR dx [("stretches", t)]))) ∨
    ((∃ o, SeqK H v o ∨ EmpT K H v o) ∧ spTaken K M CB [v] H (fun x H' => H' r = some (.ins CR dx []) ∧ Q .non (upd H' r (.ins CR dx [("stretches", x)]))) E))
theorem scRowI : FnScope ["self", "stretches"] ["self", "stretches"] (defScope sRowI) := ⟨rfl, rfl, rfl, by decide +kernel, rfl, by decide +kernel, by decide +kernel⟩
theorem ok_rowI {f fT CR CU CB : Addr} {fd fdT : FuncData} {M : Int} {dvs : List V} {kws : List (Str × V)} (F : FunD K "__init__" "Row.__init__" (defArgs sRowI) (defBody sRowI) (defScope sRowI) dvs kws f fd) (zS : mg "isinstance" = none) (mU : mg "Runs" = some (.ref CU))
    (cU : OwnC K CU) (cR : Cls K CR) (nU : NoAttr K CU "pairs") (nR : NoAttr K CR "stretches")
    (GT : FnOk P w K mg base (L2.CX P w) 5 fT fdT ["value"] (spTaken K M CB)) (AT : At K mg "taken_stretches" fT fdT ["value"]) :
    FnOk P w K mg base (L2.CX P w) 6 f fd ["self", "stretches"] (spRowI K M CR CU CB) := by
  refine F.ok scRowI (fun vs H Q E h => ?_) (fun cdv A outer s H vs Q E hr h => ?_)
  · obtain ⟨r, dx, v, rfl, _⟩ := h
    rfl
  · obtain ⟨r, dx, v, rfl, hR, h⟩ := h
    have nd := scRowI.nd
    have bx : bootBuiltins "isinstance" = some (.builtin "isinstance") := by decide +kernel
    refine ⟨_, (pss_one (ps_if (pt_val (pe_callB (call_isOwn cU) (by rfl) zS bx (pa_cons (pv 1) (pa_cons (pe_glob (v := .ref CU) rfl mU rfl) pa_nil))))
(pss_one (ps_fld (pv 0) (pe_fld (pv 1) (by rfl)) rfl))
(pss_one (ps_fld (pv 0) (pe_callS GT hr rfl AT.mg AT.kp AT.bd (fun σ => passAt (W := fun cls d _ H => E cls d H) (takes_of rfl rfl rfl rfl) σ) (pa_cons (pv 1) pa_nil)) rfl)))), ?_⟩
    rcases h with ⟨a, dx2, t, rfl, ha, q⟩ | ⟨⟨o, hk⟩, hT⟩
    · refine ⟨_, rfl, .ref a, true, rfl, .yes ha, _, rfl, ite2 (fun _ => ?_) (fun z => absurd rfl z)⟩
      exact ⟨_, rfl, a, CU, dx2, _, t, rfl, ha, cU.ins.cl, nU, rfl, _, rfl, r, CR, dx, [], rfl, hR, cR, nR, by show 0 < 1000; decide, q⟩
    · have an : AnyK K CU H v false := by
        rcases hk with hk | ⟨a, rfl, _, hk⟩
        · exact .no hk
        · exact .emp hk
      refine ⟨_, rfl, v, false, rfl, an, _, rfl, ite2 (fun z => absurd z Bool.false_ne_true) (fun _ => ?_)⟩
      refine ⟨_, rfl, ?_⟩
      dsimp only [tNil]
      exact spTaken_mono (fun x H' ⟨h1, h2⟩ => ⟨_, rfl, r, CR, dx, [], rfl, h1, cR, nR, by show 0 < 1000; decide, h2⟩) hT
end
end K23
namespace K23
open PySem PySem.Spec PyProof.Rows L2 RwM Rw EV
abbrev sBud : Stmt := inClass (top 31) 4
abbrev sPlain : Stmt := inClass (top 31) 5
abbrev sBeginning : Stmt := inClass (top 31) 6
abbrev sBehindM : Stmt := inClass (top 31) 7
abbrev sBefore : Stmt := inClass (top 31) 8
abbrev sCommonM : Stmt := inClass (top 31) 9
/-- a Row that tells ps -/
def RowV (C : Addr) (H : Hp) (r : Addr) (ps : PS) : Prop := ∃ dx t, H r = some (.ins C dx [("stretches", .ref t)]) ∧ TupAt H t ps
theorem RowV.same {C : Addr} {H H' : Hp} {r : Addr} {ps : PS} (h : RowV C H r ps) (s : Same H H') : RowV C H' r ps := by
  obtain ⟨dx, t, h1, h2⟩ := h
  exact ⟨dx, t, s _ _ h1, h2.same s⟩
def spTotal (C : Addr) : Sp := fun vs H Q _ => ∃ (r : Addr) (ps : PS), vs = [.ref r] ∧ RowV C H r ps ∧ ∀ H', Same H H' → Q (.int ((flat ps).length : Int)) H'
def spBud (CR CO : Addr) : Sp := fun vs H Q E => ∃ (r : Addr) (ps : PS) (v : V) (o : Option (List V)), vs = [.ref r, v] ∧ RowV CR H r ps ∧ SeqK H v o ∧ (wth v 0 (((flat ps).length : Int) - 1) = false → errAt CO H E "number" v) ∧
  ∀ (m : Nat) (x : Int), v = .int (m : Int) → (flat ps)[m]? = some x → ∀ H', Same H H' → Q (.int x) H'
section
variable {P : Program} {w : World} {K : PySem.W.Frag} {mg : Str → Option Value} {base : Heap}
theorem scTotal : FnScope ["self"] ["self"] (defScope sTotal) := ⟨rfl, rfl, rfl, by decide +kernel, rfl, by decide +kernel, by decide +kernel⟩
theorem ok_total {f fC CR : Addr} {fd fdC : FuncData} (F : Fun K "total" "Row.total" sTotal f fd) (cR : Cls K CR) (nR : NoAttr K CR "stretches") (GC : FnOk P w K mg base CX0 1 fC fdC ["pairs"] spCount) (AC : At K mg "count_numbers" fC fdC ["pairs"]) :
    FnOk P w K mg base CX0 2 f fd ["self"] (spTotal CR) := by
  refine F.ok scTotal (fun vs H Q E h => ?_) (fun cdv A outer s H vs Q E hr h => ?_)
  · obtain ⟨r, ps, rfl, _⟩ := h
    rfl
  · obtain ⟨r, ps, rfl, ⟨dx, t, hR, hT⟩, k⟩ := h
    have nd := scTotal.nd
    refine ⟨_, (pss_one (ps_ret (pe_call GC hr rfl AC.mg AC.kp AC.bd .nil pass0 (pa_cons (pe_fld (pv 0) (by rfl)) pa_nil)))), ?_⟩
    exact ⟨_, rfl, r, CR, dx, _, _, rfl, hR, cR, nR, rfl, t, ps, rfl, hT.row, k⟩
theorem scBud : FnScope ["self", "index"] ["self", "index"] (defScope sBud) := ⟨rfl, rfl, rfl, by decide +kernel, rfl, by decide +kernel, by decide +kernel⟩
theorem ok_bud {f fT fW fN CR CO : Addr} {fd fdT fdW fdN : FuncData} (F : Fun K "bud" "Row.bud" sBud f fd) (cR : Cls K CR) (nR : NoAttr K CR "stretches")
    (GT : FnOk P w K mg base CX0 2 fT fdT ["self"] (spTotal CR)) (mT : Meth K CR "total" fT) (bT : Binds K fdT ["self"] [])
    (GW : FnOk P w K mg base CX0 2 fW fdW ["value", "least", "most"] spWithin) (AW : At K mg "is_within" fW fdW ["value", "least", "most"])
    (GN : FnOk P w K mg base CX0 1 fN fdN ["pairs", "index"] spNumAt) (AN : At K mg "number_at" fN fdN ["pairs", "index"]) (TO : Err P w K mg base "OutsideRow" CO ["number"]) :
    FnOk P w K mg base (L2.CX P w) 3 f fd ["self", "index"] (spBud CR CO) := by
  refine F.okX scBud (fun vs H Q E h => ?_) (fun cdv A outer s H vs Q E hr h => ?_)
  · obtain ⟨r, ps, v, o, rfl, _⟩ := h
    rfl
  · obtain ⟨r, ps, v, o, rfl, hR, hk, hE, k⟩ := h
    have nd := scBud.nd
    have hr1 := hr.mono (show 1 ≤ 2 by decide)
    refine ⟨_, (pss_cons (ps_if (pt_not (pt_val (pe_call GW hr rfl AW.mg AW.kp AW.bd .nil pass0 (pa_cons (pv 1) (pa_cons pe_int (pa_cons (pe_op op_sub (pe_meth0 (pv 0) cR mT GT hr bT .nil pass0) pe_int) pa_nil))))))
(pss_one (ps_raise rfl (takes_of rfl rfl rfl rfl) (pmk_er TO hr (by decide) rfl (pl_var (pv 1) pl_nil))))
pss_nil)
(pss_one (ps_ret (pe_call GN hr1 rfl AN.mg AN.kp AN.bd .nil pass0 (pa_cons (pe_fld (pv 0) (by rfl)) (pa_cons (pv 1) pa_nil)))))), ?_⟩
    obtain ⟨dx, t, hR1, hT⟩ := id hR
    refine ⟨_, rfl, _, rfl, r, dx, _, rfl, hR1, rfl, r, ps, rfl, hR, fun H1 s1 => ⟨_, _, rfl, rfl, v, o, 0, _, rfl, hk.same s1, fun H2 s2 => ⟨_, rfl, ?_⟩⟩⟩
    have s3 := s1.trans s2
    refine ite2 (fun c => ?_) (fun c => ?_)
    · have c2 : wth v 0 (((flat ps).length : Int) - 1) = false := by simpa using c
      exact ⟨[v], ⟨v, [], rfl, rfl, rfl⟩, rfl, fun d H' s4 n e => hE c2 d H' (s3.trans s4) (s3.free n) e⟩
    · have c2 : wth v 0 (((flat ps).length : Int) - 1) = true := by simpa using c
      obtain ⟨m, rfl, hm⟩ : ∃ m : Nat, v = .int (m : Int) ∧ m < (flat ps).length := by
        cases v with
        | int i =>
          have z : (decide (0 ≤ i) && decide (i ≤ ((flat ps).length : Int) - 1)) = true := c2
          rw [Bool.and_eq_true, decide_eq_true_eq, decide_eq_true_eq] at z
          exact ⟨i.toNat, by rw [Int.toNat_of_nonneg z.1], by omega⟩
        | _ => exact absurd c2 Bool.false_ne_true
      have hx : (flat ps)[m]? = some ((flat ps)[m]) := List.getElem?_eq_getElem hm
      exact ⟨_, rfl, r, CR, dx, _, _, rfl, s3 _ _ hR1, cR, nR, rfl, _, rfl, t, ps, m, _, rfl, (hT.same s3).row, hx, fun H' s4 => k m _ rfl hx H' (s3.trans s4)⟩
end
end K23
namespace K23
open PySem PySem.Spec PyProof.Rows L2 RwM Rw EV
theorem passX {X : Cx} {E : XK} (tk : Takes X (fun cls d _ H => E cls d H)) : Passes (L2.CX X.prog X.w) X E := fun pins σ H s e s' I c => passAt tk σ pins H s e s' I c
theorem mk_row {K : PySem.W.Frag} {M : Int} {CR CU CB t : Addr} {ps : PS} {H1 : Hp} {Q : VK} {E : XK} (hT : TupAt H1 t ps) (q : ∀ (r2 : Addr) (H' : Hp), Same H1 H' → H1 r2 = none → RowV CR H' r2 ps → Q (.ref r2) H') :
    ∀ x dx, H1 x = none → H1 dx = none → dx ≠ x → spRunsI CU [.ref x, .ref t] (upd (upd H1 dx (.own x)) x (.ins CU dx []))
      (fun v H2 => v = .non ∧ ∀ r2 dx2, H2 r2 = none → H2 dx2 = none → dx2 ≠ r2 → spRowI K M CR CU CB [.ref r2, .ref x] (upd (upd H2 dx2 (.own r2)) r2 (.ins CR dx2 [])) (fun v H3 => v = .non ∧ Q (.ref r2) H3) E) E0 := by
  intro x dx nx nd ne
  refine ⟨x, dx, .ref t, rfl, upd_same, rfl, ?_⟩
  have s1 : Same H1 (upd (upd (upd H1 dx (.own x)) x (.ins CU dx [])) x (.ins CU dx [("pairs", .ref t)])) := Same.made nx nd fun b o e n => by rw [upd_ne n]; exact e
  have hx : (upd (upd (upd H1 dx (.own x)) x (.ins CU dx [])) x (.ins CU dx [("pairs", .ref t)])) x = some (.ins CU dx [("pairs", .ref t)]) := upd_same
  generalize upd (upd (upd H1 dx (.own x)) x (.ins CU dx [])) x (.ins CU dx [("pairs", .ref t)]) = H2 at s1 hx ⊢
  intro r2 dx2 n2 nd2 ne2
  have hxr : x ≠ r2 := ne_of_none hx n2
  refine ⟨r2, dx2, .ref x, rfl, upd_same, .inl ⟨x, dx, .ref t, rfl, ?_, rfl, ?_⟩⟩
  · rw [upd_ne hxr, upd_ne (ne_of_none hx nd2)]
    exact hx
  · have s2 : Same H2 (upd (upd (upd H2 dx2 (.own r2)) r2 (.ins CR dx2 [])) r2 (.ins CR dx2 [("stretches", .ref t)])) := Same.made n2 nd2 fun b o e n => by rw [upd_ne n]; exact e
    exact q r2 _ (s1.trans s2) (s1.free n2) ⟨dx2, t, upd_same, hT.same (s1.trans s2)⟩
theorem wth_nat {v : V} {n : Nat} (h : wth v 0 (n : Int) = true) : ∃ m : Nat, v = .int (m : Int) ∧ m ≤ n := by
  cases v with
  | int i =>
    have z : (decide (0 ≤ i) && decide (i ≤ (n : Int))) = true := h
    rw [Bool.and_eq_true, decide_eq_true_eq, decide_eq_true_eq] at z
    exact ⟨i.toNat, by rw [Int.toNat_of_nonneg z.1], by omega⟩
  | _ => exact absurd h Bool.false_ne_true
def spPart (CR CO : Addr) (g : List Int → Nat → List Int) : Sp := fun vs H Q E => ∃ (r : Addr) (ps : PS) (v : V) (o : Option (List V)), vs = [.ref r, v] ∧ RowV CR H r ps ∧ ps.length ≤ 9000 ∧ SeqK H v o ∧ (wth v 0 ((flat ps).length : Int) = false → errAt CO H E "number" v) ∧
  ∀ m : Nat, v = .int (m : Int) → m ≤ (flat ps).length → ∀ (r2 : Addr) (ps2 : PS) (H' : Hp), Same H H' → H r2 = none → RowV CR H' r2 ps2 → ps2.length ≤ ps.length + 1 → flat ps2 = g (flat ps) m → Q (.ref r2) H'
section
variable {P : Program} {w : World} {K : PySem.W.Frag} {mg : Str → Option Value} {base : Heap}
/-- what Row(Runs(..)) wants -/
structure MkR (P : Program) (w : World) (K : PySem.W.Frag) (mg : Str → Option Value) (base : Heap) (M : Int) (CR CU CB fR fU : Addr) (fdR fdU : FuncData) : Prop where
  gR : mg "Row" = some (.ref CR)
  gU : mg "Runs" = some (.ref CU)
  mR : Mk K CR fR
  mU : Mk K CU fU
  bR : Binds K fdR ["self", "stretches"] []
  bU : Binds K fdU ["self", "pairs"] []
  oR : FnOk P w K mg base (L2.CX P w) 6 fR fdR ["self", "stretches"] (spRowI K M CR CU CB)
  oU : FnOk P w K mg base CX0 1 fU fdU ["self", "pairs"] (spRunsI CU)
theorem scBeginning : FnScope ["self", "many"] ["self", "many"] (defScope sBeginning) := ⟨rfl, rfl, rfl, by decide +kernel, rfl, by decide +kernel, by decide +kernel⟩
theorem ok_beginning {f fT fW fN CR CU CB CO fR fU : Addr} {fd fdT fdW fdN fdR fdU : FuncData} {M : Int} (F : Fun K "beginning" "Row.beginning" sBeginning f fd) (cR : Cls K CR) (nR : NoAttr K CR "stretches") (R : MkR P w K mg base M CR CU CB fR fU fdR fdU)
    (GT : FnOk P w K mg base CX0 2 fT fdT ["self"] (spTotal CR)) (mT : Meth K CR "total" fT) (bT : Binds K fdT ["self"] [])
    (GW : FnOk P w K mg base CX0 2 fW fdW ["value", "least", "most"] spWithin) (AW : At K mg "is_within" fW fdW ["value", "least", "most"])
    (GN : FnOk P w K mg base CX0 2 fN fdN ["pairs", "many"] spFirst) (AN : At K mg "first_numbers" fN fdN ["pairs", "many"]) (TO : Err P w K mg base "OutsideRow" CO ["number"]) :
    FnOk P w K mg base (L2.CX P w) 8 f fd ["self", "many"] (spPart CR CO fun l m => l.take m) := by
  refine F.okX scBeginning (fun vs H Q E h => ?_) (fun cdv A outer s H vs Q E hr h => ?_)
  · obtain ⟨r, ps, v, o, rfl, _⟩ := h
    rfl
  · obtain ⟨r, ps, v, o, rfl, hR, hl, hk, hE, k⟩ := h
    have nd := scBeginning.nd
    have hr2 := hr.mono (show 2 ≤ 7 by decide)
    refine ⟨_, (pss_cons (ps_if (pt_not (pt_val (pe_call GW hr2 rfl AW.mg AW.kp AW.bd .nil pass0 (pa_cons (pv 1) (pa_cons pe_int (pa_cons (pe_meth0 (pv 0) cR mT GT hr2 bT .nil pass0) pa_nil))))))
(pss_one (ps_raise rfl (takes_of rfl rfl rfl rfl) (pmk_er TO hr2 (by decide) rfl (pl_var (pv 1) pl_nil))))
pss_nil)
(pss_one (ps_ret (pe_make (E := E) R.mR R.oR hr rfl R.gR R.bR .nil (passX (takes_of rfl rfl rfl rfl)) (pa_cons (pe_make R.mU R.oU hr2 rfl R.gU R.bU .nil pass0 (pa_cons (pe_call GN hr2 rfl AN.mg AN.kp AN.bd .nil pass0 (pa_cons (pe_fld (pv 0) (by rfl)) (pa_cons (pv 1) pa_nil))) pa_nil)) pa_nil))))), ?_⟩
    obtain ⟨dx, t, hR1, hT⟩ := id hR
    refine ⟨_, rfl, _, rfl, r, dx, _, rfl, hR1, rfl, r, ps, rfl, hR, fun H1 s1 => ⟨v, o, 0, _, rfl, hk.same s1, fun H2 s2 => ⟨_, rfl, ?_⟩⟩⟩
    have s3 := s1.trans s2
    refine ite2 (fun c => ?_) (fun c => ?_)
    · have c2 : wth v 0 ((flat ps).length : Int) = false := by simpa using c
      exact ⟨[v], ⟨v, [], rfl, rfl, rfl⟩, rfl, fun d H' s4 n e => hE c2 d H' (s3.trans s4) (s3.free n) e⟩
    · have c2 : wth v 0 ((flat ps).length : Int) = true := by simpa using c
      obtain ⟨m, rfl, hm⟩ := wth_nat c2
      refine ⟨_, rfl, r, CR, dx, _, _, rfl, s3 _ _ hR1, cR, nR, rfl, _, rfl, t, ps, m, rfl, (hT.same s3).row, hm, fun t2 qs H3 s4 n2 gd hf => ?_⟩
      have s5 := s3.trans s4
      exact mk_row (gd.tup (by omega)) fun r2 H' s6 n3 hv => k m rfl hm r2 qs H' (s5.trans s6) (s5.free n3) hv gd.le hf
theorem scBehindM : FnScope ["self", "many"] ["self", "many"] (defScope sBehindM) := ⟨rfl, rfl, rfl, by decide +kernel, rfl, by decide +kernel, by decide +kernel⟩
theorem ok_behindM {f fT fW fN CR CU CB CO fR fU : Addr} {fd fdT fdW fdN fdR fdU : FuncData} {M : Int} (F : Fun K "behind" "Row.behind" sBehindM f fd) (cR : Cls K CR) (nR : NoAttr K CR "stretches") (R : MkR P w K mg base M CR CU CB fR fU fdR fdU)
    (GT : FnOk P w K mg base CX0 2 fT fdT ["self"] (spTotal CR)) (mT : Meth K CR "total" fT) (bT : Binds K fdT ["self"] [])
    (GW : FnOk P w K mg base CX0 2 fW fdW ["value", "least", "most"] spWithin) (AW : At K mg "is_within" fW fdW ["value", "least", "most"])
    (GN : FnOk P w K mg base CX0 2 fN fdN ["pairs", "many"] spBehind) (AN : At K mg "numbers_behind" fN fdN ["pairs", "many"]) (TO : Err P w K mg base "OutsideRow" CO ["number"]) :
    FnOk P w K mg base (L2.CX P w) 8 f fd ["self", "many"] (spPart CR CO fun l m => l.drop m) := by
  refine F.okX scBehindM (fun vs H Q E h => ?_) (fun cdv A outer s H vs Q E hr h => ?_)
  · obtain ⟨r, ps, v, o, rfl, _⟩ := h
    rfl
  · obtain ⟨r, ps, v, o, rfl, hR, hl, hk, hE, k⟩ := h
    have nd := scBehindM.nd
    have hr2 := hr.mono (show 2 ≤ 7 by decide)
    refine ⟨_, (pss_cons (ps_if (pt_not (pt_val (pe_call GW hr2 rfl AW.mg AW.kp AW.bd .nil pass0 (pa_cons (pv 1) (pa_cons pe_int (pa_cons (pe_meth0 (pv 0) cR mT GT hr2 bT .nil pass0) pa_nil))))))
(pss_one (ps_raise rfl (takes_of rfl rfl rfl rfl) (pmk_er TO hr2 (by decide) rfl (pl_var (pv 1) pl_nil))))
pss_nil)
(pss_one (ps_ret (pe_make (E := E) R.mR R.oR hr rfl R.gR R.bR .nil (passX (takes_of rfl rfl rfl rfl)) (pa_cons (pe_make R.mU R.oU hr2 rfl R.gU R.bU .nil pass0 (pa_cons (pe_call GN hr2 rfl AN.mg AN.kp AN.bd .nil pass0 (pa_cons (pe_fld (pv 0) (by rfl)) (pa_cons (pv 1) pa_nil))) pa_nil)) pa_nil))))), ?_⟩
    obtain ⟨dx, t, hR1, hT⟩ := id hR
    refine ⟨_, rfl, _, rfl, r, dx, _, rfl, hR1, rfl, r, ps, rfl, hR, fun H1 s1 => ⟨v, o, 0, _, rfl, hk.same s1, fun H2 s2 => ⟨_, rfl, ?_⟩⟩⟩
    have s3 := s1.trans s2
    refine ite2 (fun c => ?_) (fun c => ?_)
    · have c2 : wth v 0 ((flat ps).length : Int) = false := by simpa using c
      exact ⟨[v], ⟨v, [], rfl, rfl, rfl⟩, rfl, fun d H' s4 n e => hE c2 d H' (s3.trans s4) (s3.free n) e⟩
    · have c2 : wth v 0 ((flat ps).length : Int) = true := by simpa using c
      obtain ⟨m, rfl, hm⟩ := wth_nat c2
      refine ⟨_, rfl, r, CR, dx, _, _, rfl, s3 _ _ hR1, cR, nR, rfl, _, rfl, t, ps, m, rfl, (hT.same s3).row, hm, fun t2 qs H3 s4 n2 gd hf => ?_⟩
      have s5 := s3.trans s4
      exact mk_row (gd.tup (by omega)) fun r2 H' s6 n3 hv => k m rfl hm r2 qs H' (s5.trans s6) (s5.free n3) hv gd.le hf
end
end K23
namespace K23
open PySem PySem.Spec PyProof.Rows L2 RwM Rw EV
abbrev sAreSame : Stmt := top 32
abbrev sIsRow : Stmt := top 33
abbrev sStrOf : Stmt := top 34
abbrev sAddM : Stmt := inClass (top 31) 1
abbrev sEqM : Stmt := inClass (top 31) 2
/-- a row in any form: its numbers, and how many pairs at most tell them -/
inductive RA (C : Addr) (H : Hp) : V → List Int → Nat → Prop where
  | row {r : Addr} {ps : PS} (h : RowV C H r ps) : RA C H (.ref r) (flat ps) ps.length
  | plain {a : Addr} {ns : List Int} (h : SqA H a (ns.map V.int)) (l : ns.length ≤ 100000) : RA C H (.ref a) ns (ns.length / 20 + 1)
theorem RA.same {C : Addr} {H H' : Hp} {v : V} {l : List Int} {n : Nat} (h : RA C H v l n) (s : Same H H') : RA C H' v l n := by
  cases h with
  | row h => exact .row (h.same s)
  | plain h l => exact .plain (h.same fun o e => s _ _ e) l
theorem RA.any {K : PySem.W.Frag} {C : Addr} {H : Hp} {v : V} {l : List Int} {n : Nat} (h : RA C H v l n) : ∃ b, AnyK K C H v b ∧ (b = true → ∃ r ps, v = .ref r ∧ RowV C H r ps ∧ l = flat ps ∧ n = ps.length) ∧ (b = false → ∃ a, v = .ref a ∧ SqA H a (l.map V.int) ∧ l.length ≤ 100000 ∧ n = l.length / 20 + 1) := by
  cases h with
  | @row r ps h =>
    obtain ⟨dx, t, h1, _⟩ := id h
    exact ⟨true, .yes h1, fun _ => ⟨r, ps, rfl, h, rfl, rfl⟩, fun z => absurd z (by decide)⟩
  | @plain a ns h l => exact ⟨false, .no (SqA.kind h), (fun z => absurd z (by decide)), fun _ => ⟨a, rfl, h, l, rfl⟩⟩
def spStrOf (C : Addr) : Sp := fun vs H Q _ => ∃ (v : V) (l : List Int) (n : Nat), vs = [v] ∧ RA C H v l n ∧ ∀ (t : Addr) (qs : PS) (H' : Hp), Same H H' → TupAt H' t qs → flat qs = l → qs.length ≤ n → Q (.ref t) H'
def spIsRow (C : Addr) : Sp := fun vs H Q _ => ∃ (v : V) (l : List Int) (n : Nat), vs = [v] ∧ RA C H v l n ∧ ∀ H', Same H H' → Q (.bl true) H'
section
variable {P : Program} {w : World} {K : PySem.W.Frag} {mg : Str → Option Value} {base : Heap}
theorem scStrOf : FnScope ["row"] ["row"] (defScope sStrOf) := ⟨rfl, rfl, rfl, by decide +kernel, rfl, by decide +kernel, by decide +kernel⟩
theorem ok_strOf {f fP CR : Addr} {fd fdP : FuncData} (F : Fun K "stretches_of" "stretches_of" sStrOf f fd) (zS : mg "isinstance" = none) (zT : mg "tuple" = none) (mR : mg "Row" = some (.ref CR)) (cR : OwnC K CR) (nR : NoAttr K CR "stretches")
    (GP : FnOk P w K mg base CX0 2 fP fdP ["numbers"] spPacked) (AP : At K mg "packed" fP fdP ["numbers"]) :
    FnOk P w K mg base CX0 3 f fd ["row"] (spStrOf CR) := by
  refine F.ok scStrOf (fun vs H Q E h => ?_) (fun cdv A outer s H vs Q E hr h => ?_)
  · obtain ⟨v, l, n, rfl, _⟩ := h
    rfl
  · obtain ⟨v, l, n, rfl, hA, k⟩ := h
    have nd := scStrOf.nd
    have bx : bootBuiltins "isinstance" = some (.builtin "isinstance") := by decide +kernel
    have bt : bootBuiltins "tuple" = some (.type "tuple") := by decide +kernel
    refine ⟨_, (pss_cons (ps_if (pt_val (pe_callB (call_isOwn cR) (by rfl) zS bx (pa_cons (pv 0) (pa_cons (pe_glob (v := .ref CR) rfl mR rfl) pa_nil))))
(pss_one (ps_ret (pe_fld (pv 0) (by rfl))))
pss_nil)
(pss_one (ps_ret (pe_call GP hr rfl AP.mg AP.kp AP.bd .nil pass0 (pa_cons (pe_callTy (r := rTupO K) call_tupO (by rfl) zT bt (pa_cons (pv 0) pa_nil)) pa_nil))))), ?_⟩
    obtain ⟨b, an, hy, hn⟩ := hA.any (K := K)
    refine ⟨_, rfl, v, b, rfl, an, _, rfl, ite2 (fun c => ?_) (fun c => ?_)⟩
    · obtain ⟨r, ps, rfl, ⟨dx, t, h1, h2⟩, rfl, rfl⟩ := hy c
      exact ⟨_, rfl, r, CR, dx, _, _, rfl, h1, cR.ins.cl, nR, rfl, k t ps H (.refl _) h2 rfl (Nat.le_refl _)⟩
    · obtain ⟨a, rfl, h1, h2, rfl⟩ := hn (Bool.eq_false_iff.mpr c)
      refine ⟨_, rfl, ?_⟩
      dsimp only [tNil]
      refine tupO h1 fun t H1 s1 ht => ?_
      exact ⟨t, l, rfl, ht, h2, fun t2 qs H' s2 n2 gd hf => k t2 qs H' (s1.trans s2) (gd.tup (by omega)) hf gd.le⟩
theorem scIsRow : FnScope ["value"] ["value"] (defScope sIsRow) := ⟨rfl, rfl, rfl, by decide +kernel, rfl, by decide +kernel, by decide +kernel⟩
theorem ok_isRow {f fI CR : Addr} {fd fdI : FuncData} (F : Fun K "is_row" "is_row" sIsRow f fd) (zS : mg "isinstance" = none) (mR : mg "Row" = some (.ref CR)) (cR : OwnC K CR)
    (GI : FnOk P w K mg base CX0 2 fI fdI ["value"] spIsInts) (AI : At K mg "is_integers" fI fdI ["value"]) :
    FnOk P w K mg base CX0 3 f fd ["value"] (spIsRow CR) := by
  refine F.ok scIsRow (fun vs H Q E h => ?_) (fun cdv A outer s H vs Q E hr h => ?_)
  · obtain ⟨v, l, n, rfl, _⟩ := h
    rfl
  · obtain ⟨v, l, n, rfl, hA, k⟩ := h
    have nd := scIsRow.nd
    have bx : bootBuiltins "isinstance" = some (.builtin "isinstance") := by decide +kernel
    refine ⟨_, (pss_one (ps_ret (pe_or (pe_callB (call_isOwn cR) (by rfl) zS bx (pa_cons (pv 0) (pa_cons (pe_glob (v := .ref CR) rfl mR rfl) pa_nil))) (pe_one (pe_call GI hr rfl AI.mg AI.kp AI.bd .nil pass0 (pa_cons (pv 0) pa_nil)))))), ?_⟩
    obtain ⟨b, an, hy, hn⟩ := hA.any (K := K)
    refine ⟨_, rfl, v, b, rfl, an, _, rfl, ite2 (fun c => k H (.refl _)) (fun c => ?_)⟩
    obtain ⟨a, rfl, h1, h2, rfl⟩ := hn (Bool.eq_false_iff.mpr c)
    exact ⟨_, rfl, a, l, rfl, h1, h2, fun H' s => k H' s⟩
end
end K23
namespace K23
open PySem PySem.Spec PyProof.Rows L2 RwM Rw EV
/-- as tuples are ordered -/
def lexLt : List Int → List Int → Bool
  | _, [] => false
  | [], _ :: _ => true
  | a :: as, b :: bs => if a = b then lexLt as bs else decide (a < b)
theorem lexLt_cp : ∀ (u v : List Int), (cp u v = v.length → lexLt u v = false) ∧ (cp u v ≠ v.length → cp u v = u.length → lexLt u v = true) ∧
    (∀ x y, u[cp u v]? = some x → v[cp u v]? = some y → lexLt u v = decide (x < y))
  | u, [] => by
    rw [cp_nil_right]
    refine ⟨fun _ => by cases u <;> rfl, fun h => absurd rfl h, fun x y _ h => by cases h⟩
  | [], b :: bs => by
    rw [cp_nil_left]
    exact ⟨fun h => (by simp at h), fun _ _ => rfl, fun x y h => by cases h⟩
  | a :: as, b :: bs => by
    obtain ⟨h1, h2, h3⟩ := lexLt_cp as bs
    rw [cp_cons]
    by_cases e : a = b
    · rw [if_pos e]
      have e2 : lexLt (a :: as) (b :: bs) = lexLt as bs := if_pos e
      rw [e2]
      refine ⟨fun h => h1 (Nat.succ.inj h), fun n h => h2 (fun q => n (congrArg Nat.succ q)) (Nat.succ.inj h), fun x y p q => h3 x y ?_ ?_⟩
      · simpa using p
      · simpa using q
    · rw [if_neg e]
      have e2 : lexLt (a :: as) (b :: bs) = decide (a < b) := if_neg e
      refine ⟨fun h => (by simp at h), fun _ h => (by simp at h), fun x y p q => ?_⟩
      cases p
      cases q
      exact e2
theorem cp_same_iff {u v : List Int} : (decide (u = v)) = (decide (u.length = v.length) && decide (u.length = cp u v)) := by
  by_cases h1 : u.length = v.length
  · by_cases h2 : u.length = cp u v
    · rw [decide_eq_true h1, decide_eq_true h2, decide_eq_true (cp_full h2.symm h1)]; rfl
    · rw [decide_eq_false h2, Bool.and_false]
      exact decide_eq_false fun e => h2 (by rw [e, cp_self])
  · rw [decide_eq_false h1, Bool.false_and]
    exact decide_eq_false fun e => h1 (by rw [e])
theorem vdec (a b : Nat) : decide (V.int (a : Int) = V.int (b : Int)) = decide (a = b) := by
  by_cases h : a = b
  · rw [h, decide_eq_true rfl, decide_eq_true rfl]
  · rw [decide_eq_false h, decide_eq_false fun e => h (by injection e with e; omega)]
def spCommonM (C : Addr) : Sp := fun vs H Q _ => ∃ (r : Addr) (ps : PS) (v : V) (l : List Int) (n : Nat), vs = [.ref r, v] ∧ RowV C H r ps ∧ RA C H v l n ∧ ∀ H', Same H H' → Q (.int ((cp (flat ps) l : Nat) : Int)) H'
def spBefore (C : Addr) : Sp := fun vs H Q _ => ∃ (r : Addr) (ps : PS) (v : V) (l : List Int) (n : Nat), vs = [.ref r, v] ∧ RowV C H r ps ∧ RA C H v l n ∧ ∀ H', Same H H' → Q (.bl (lexLt (flat ps) l)) H'
def spAreSame : Sp := fun vs H Q _ => ∃ (a b : Addr) (ps qs : PS), vs = [.ref a, .ref b] ∧ TupAt H a ps ∧ TupAt H b qs ∧ ∀ H', Same H H' → Q (.bl (decide (flat ps = flat qs))) H'
section
variable {P : Program} {w : World} {K : PySem.W.Frag} {mg : Str → Option Value} {base : Heap}
theorem scCommonM : FnScope ["self", "other"] ["self", "other"] (defScope sCommonM) := ⟨rfl, rfl, rfl, by decide +kernel, rfl, by decide +kernel, by decide +kernel⟩
theorem ok_commonM {f fS fC CR : Addr} {fd fdS fdC : FuncData} (F : Fun K "common" "Row.common" sCommonM f fd) (cR : Cls K CR) (nR : NoAttr K CR "stretches")
    (GS : FnOk P w K mg base CX0 3 fS fdS ["row"] (spStrOf CR)) (AS : At K mg "stretches_of" fS fdS ["row"]) (GC : FnOk P w K mg base CX0 2 fC fdC ["pairs", "other_pairs"] spCommon) (AC : At K mg "count_common" fC fdC ["pairs", "other_pairs"]) :
    FnOk P w K mg base CX0 4 f fd ["self", "other"] (spCommonM CR) := by
  refine F.ok scCommonM (fun vs H Q E h => ?_) (fun cdv A outer s H vs Q E hr h => ?_)
  · obtain ⟨r, ps, v, l, n, rfl, _⟩ := h
    rfl
  · obtain ⟨r, ps, v, l, n, rfl, ⟨dx, t, h1, h2⟩, hA, k⟩ := h
    have nd := scCommonM.nd
    have hr2 := hr.mono (show 2 ≤ 3 by decide)
    refine ⟨_, (pss_one (ps_ret (pe_call GC hr2 rfl AC.mg AC.kp AC.bd .nil pass0 (pa_cons (pe_fld (pv 0) (by rfl)) (pa_cons (pe_call GS hr rfl AS.mg AS.kp AS.bd .nil pass0 (pa_cons (pv 1) pa_nil)) pa_nil))))), ?_⟩
    refine ⟨_, rfl, r, CR, dx, _, _, rfl, h1, cR, nR, rfl, _, rfl, v, l, n, rfl, hA, fun t2 qs H1 s1 hT hf hl => ?_⟩
    exact ⟨t, t2, ps, qs, rfl, h2.same s1, hT, fun H' s2 => by rw [hf]; exact k H' (s1.trans s2)⟩
theorem scAreSame : FnScope ["pairs", "other_pairs", "many"] ["pairs", "other_pairs"] (defScope sAreSame) := ⟨rfl, rfl, rfl, by decide +kernel, rfl, by decide +kernel, by decide +kernel⟩
theorem ok_areSame {f fN fC : Addr} {fd fdN fdC : FuncData} (F : Fun K "are_same" "are_same" sAreSame f fd)
    (GN : FnOk P w K mg base CX0 1 fN fdN ["pairs"] spCount) (AN : At K mg "count_numbers" fN fdN ["pairs"]) (GC : FnOk P w K mg base CX0 2 fC fdC ["pairs", "other_pairs"] spCommon) (AC : At K mg "count_common" fC fdC ["pairs", "other_pairs"]) :
    FnOk P w K mg base CX0 3 f fd ["pairs", "other_pairs"] spAreSame := by
  refine F.ok scAreSame (fun vs H Q E h => ?_) (fun cdv A outer s H vs Q E hr h => ?_)
  · obtain ⟨a, b, ps, qs, rfl, _⟩ := h
    rfl
  · obtain ⟨a, b, ps, qs, rfl, h1, h2, k⟩ := h
    have nd := scAreSame.nd
    have hr1 := hr.mono (show 1 ≤ 2 by decide)
    refine ⟨_, (pss_cons (ps_set (i := 2) nd rfl (Or.inl rfl) (pe_call GN hr1 rfl AN.mg AN.kp AN.bd .nil pass0 (pa_cons (pv 0) pa_nil)))
(pss_one (ps_ret (pe_and (pe_cmpR op_eq (pv 2) (pe_call GN hr1 rfl AN.mg AN.kp AN.bd .nil pass0 (pa_cons (pv 1) pa_nil)) (nomark _)) (pe_one (pe_cmpR op_eq (pv 2) (pe_call GC hr rfl AC.mg AC.kp AC.bd .nil pass0 (pa_cons (pv 0) (pa_cons (pv 1) pa_nil))) (nomark _))))))), ?_⟩
    refine ⟨_, rfl, a, ps, rfl, h1.row, fun H1 s1 => ?_⟩
    refine ⟨_, rfl, _, rfl, b, qs, rfl, (h2.same s1).row, fun H2 s2 => ?_⟩
    have s3 := s1.trans s2
    refine ⟨rfl, _, rfl, ite2 (fun c => ?_) (fun c => ?_)⟩
    · rw [vdec] at c
      refine ⟨_, rfl, _, rfl, _, rfl, a, b, ps, qs, rfl, h1.same s3, h2.same s3, fun H3 s4 => ⟨rfl, ?_⟩⟩
      have k2 := k H3 (s3.trans s4)
      rw [cp_same_iff, c, Bool.true_and] at k2
      rw [vdec]
      exact k2
    · rw [vdec] at c
      have k2 := k H2 s3
      rw [cp_same_iff, Bool.eq_false_iff.mpr c, Bool.false_and] at k2
      exact k2
theorem scBefore : FnScope ["self", "other", "others", "same"] ["self", "other"] (defScope sBefore) := ⟨rfl, rfl, rfl, by decide +kernel, rfl, by decide +kernel, by decide +kernel⟩
theorem ok_before {f fS fC fN fT fA CR : Addr} {fd fdS fdC fdN fdT fdA : FuncData} (F : Fun K "before" "Row.before" sBefore f fd) (cR : Cls K CR) (nR : NoAttr K CR "stretches")
    (GS : FnOk P w K mg base CX0 3 fS fdS ["row"] (spStrOf CR)) (AS : At K mg "stretches_of" fS fdS ["row"]) (GC : FnOk P w K mg base CX0 2 fC fdC ["pairs", "other_pairs"] spCommon) (AC : At K mg "count_common" fC fdC ["pairs", "other_pairs"])
    (GN : FnOk P w K mg base CX0 1 fN fdN ["pairs"] spCount) (AN : At K mg "count_numbers" fN fdN ["pairs"]) (GT : FnOk P w K mg base CX0 2 fT fdT ["self"] (spTotal CR)) (mT : Meth K CR "total" fT) (bT : Binds K fdT ["self"] [])
    (GA : FnOk P w K mg base CX0 1 fA fdA ["pairs", "index"] spNumAt) (AA : At K mg "number_at" fA fdA ["pairs", "index"]) :
    FnOk P w K mg base CX0 4 f fd ["self", "other"] (spBefore CR) := by
  refine F.ok scBefore (fun vs H Q E h => ?_) (fun cdv A outer s H vs Q E hr h => ?_)
  · obtain ⟨r, ps, v, l, n, rfl, _⟩ := h
    rfl
  · obtain ⟨r, ps, v, l, n, rfl, hR, hA, k⟩ := h
    obtain ⟨dx, t, h1, h2⟩ := id hR
    have nd := scBefore.nd
    have hr1 := hr.mono (show 1 ≤ 3 by decide)
    have hr2 := hr.mono (show 2 ≤ 3 by decide)
    refine ⟨_, (pss_cons (ps_set (i := 2) nd rfl (Or.inl rfl) (pe_call GS hr rfl AS.mg AS.kp AS.bd .nil pass0 (pa_cons (pv 1) pa_nil)))
(pss_cons (ps_set (i := 3) nd rfl (Or.inl rfl) (pe_call GC hr2 rfl AC.mg AC.kp AC.bd .nil pass0 (pa_cons (pe_fld (pv 0) (by rfl)) (pa_cons (pv 2) pa_nil))))
(pss_cons (ps_if (pt_cmpR op_eq (pv 3) (pe_call GN hr1 rfl AN.mg AN.kp AN.bd .nil pass0 (pa_cons (pv 2) pa_nil)) (nomark _))
(pss_one (ps_ret pe_bl))
pss_nil)
(pss_cons (ps_if (pt_cmpR op_eq (pv 3) (pe_meth0 (pv 0) cR mT GT hr2 bT .nil pass0) (nomark _))
(pss_one (ps_ret pe_bl))
pss_nil)
(pss_one (ps_ret (pe_cmpR op_lt (pe_call GA hr1 rfl AA.mg AA.kp AA.bd .nil pass0 (pa_cons (pe_fld (pv 0) (by rfl)) (pa_cons (pv 3) pa_nil))) (pe_call GA hr1 rfl AA.mg AA.kp AA.bd .nil pass0 (pa_cons (pv 2) (pa_cons (pv 3) pa_nil))) (nomark _)))))))), ?_⟩
    refine ⟨_, rfl, v, l, n, rfl, hA, fun t2 qs H1 s1 hT hf hl => ?_⟩
    subst hf
    refine ⟨_, rfl, r, CR, dx, _, _, rfl, s1 _ _ h1, cR, nR, rfl, _, rfl, t, t2, ps, qs, rfl, h2.same s1, hT, fun H2 s2 => ?_⟩
    have s12 := s1.trans s2
    obtain ⟨l1, l2, l3⟩ := lexLt_cp (flat ps) (flat qs)
    refine ⟨_, rfl, _, rfl, t2, qs, rfl, (hT.same s2).row, fun H3 s3 => ⟨rfl, _, rfl, ite2 (fun c => ?_) (fun c => ?_)⟩⟩
    · rw [vdec] at c
      have k2 := k H3 (s12.trans s3)
      rw [l1 (of_decide_eq_true c)] at k2
      exact k2
    · rw [vdec] at c
      have c2 : cp (flat ps) (flat qs) ≠ (flat qs).length := fun e => c (decide_eq_true e)
      have s13 := s12.trans s3
      have hT3 := (hT.same s2).same s3
      refine ⟨_, rfl, _, rfl, r, dx, _, rfl, s13 _ _ h1, rfl, r, ps, rfl, hR.same s13, fun H4 s4 => ⟨rfl, _, rfl, ite2 (fun d => ?_) (fun d => ?_)⟩⟩
      · rw [vdec] at d
        have k2 := k H4 (s13.trans s4)
        rw [l2 c2 (of_decide_eq_true d)] at k2
        exact k2
      · rw [vdec] at d
        have d2 : cp (flat ps) (flat qs) ≠ (flat ps).length := fun e => d (decide_eq_true e)
        have b1 := cp_le_left (flat ps) (flat qs)
        have b2 := cp_le_right (flat ps) (flat qs)
        have s14 := s13.trans s4
        have g1 : (flat ps)[cp (flat ps) (flat qs)]? = some ((flat ps)[cp (flat ps) (flat qs)]'(by omega)) := List.getElem?_eq_getElem (by omega)
        have g2 : (flat qs)[cp (flat ps) (flat qs)]? = some ((flat qs)[cp (flat ps) (flat qs)]'(by omega)) := List.getElem?_eq_getElem (by omega)
        refine ⟨_, rfl, r, CR, dx, _, _, rfl, s14 _ _ h1, cR, nR, rfl, _, rfl, t, ps, _, _, rfl, (h2.same s14).row, g1, fun H5 s5 => ?_⟩
        refine ⟨_, rfl, _, rfl, t2, qs, _, _, rfl, ((hT3.same s4).same s5).row, g2, fun H6 s6 => ⟨_, _, rfl, rfl, ?_⟩⟩
        have k2 := k H6 ((s14.trans s5).trans s6)
        rw [l3 _ _ g1 g2] at k2
        exact k2
end
end K23
namespace K23
open PySem PySem.Spec PyProof.Rows L2 RwM Rw EV
/-- an expression that is not reached -/
def tNo : TE := fun _ _ _ => False
theorem pe_no {X : Cx} {e : Expr} : PE X e tNo := ⟨fun _ _ _ _ _ _ h => h.elim⟩
theorem catN {K : PySem.W.Frag} {H : Hp} {a b : Addr} {xs ys : List V} {Q : VK} (ha : H a = some (.tup xs)) (hb : H b = some (.tup ys)) (hl : xs.length + ys.length ≤ sizeLine) (q : ∀ (l : Addr) (H' : Hp), Same H H' → H' l = some (.tup (xs ++ ys)) → Q (.ref l) H') : rCatA K (.ref a) (.ref b) H Q := by
  refine ⟨a, b, xs, ys, rfl, rfl, SqT.of ha, SqT.of hb, hl, fun e => ?_, fun _ e => ?_, fun _ _ p np => q p _ (sameNew np) upd_same⟩
  · subst e
    exact q b H (.refl _) hb
  · subst e
    exact q a H (.refl _) (by rw [List.append_nil]; exact ha)
def spEqM (C : Addr) (K : PySem.W.Frag) : Sp := fun vs H Q _ => ∃ (r : Addr) (ps : PS) (v : V), vs = [.ref r, v] ∧ RowV C H r ps ∧
  ((∃ (r2 : Addr) (qs : PS), v = .ref r2 ∧ RowV C H r2 qs ∧ ∀ H', Same H H' → Q (.bl (decide (flat ps = flat qs))) H') ∨ (AnyK K C H v false ∧ Q (.bl false) H))
section
variable {P : Program} {w : World} {K : PySem.W.Frag} {mg : Str → Option Value} {base : Heap}
theorem scEqM : FnScope ["self", "other"] ["self", "other"] (defScope sEqM) := ⟨rfl, rfl, rfl, by decide +kernel, rfl, by decide +kernel, by decide +kernel⟩
theorem ok_eqM {f fS CR : Addr} {fd fdS : FuncData} (F : Fun K "__eq__" "Row.__eq__" sEqM f fd) (zS : mg "isinstance" = none) (mR : mg "Row" = some (.ref CR)) (cR : OwnC K CR) (nR : NoAttr K CR "stretches")
    (GS : FnOk P w K mg base CX0 3 fS fdS ["pairs", "other_pairs"] spAreSame) (AS : At K mg "are_same" fS fdS ["pairs", "other_pairs"]) :
    FnOk P w K mg base CX0 4 f fd ["self", "other"] (spEqM CR K) := by
  refine F.ok scEqM (fun vs H Q E h => ?_) (fun cdv A outer s H vs Q E hr h => ?_)
  · obtain ⟨r, ps, v, rfl, _⟩ := h
    rfl
  · obtain ⟨r, ps, v, rfl, ⟨dx, t, h1, h2⟩, h⟩ := h
    have nd := scEqM.nd
    have bx : bootBuiltins "isinstance" = some (.builtin "isinstance") := by decide +kernel
    refine ⟨_, (pss_one (ps_ret (pe_and (pe_callB (call_isOwn cR) (by rfl) zS bx (pa_cons (pv 1) (pa_cons (pe_glob (v := .ref CR) rfl mR rfl) pa_nil))) (pe_one (pe_call GS hr rfl AS.mg AS.kp AS.bd .nil pass0 (pa_cons (pe_fld (pv 0) (by rfl)) (pa_cons (pe_fld (pv 1) (by rfl)) pa_nil))))))), ?_⟩
    rcases h with ⟨r2, qs, rfl, ⟨dx2, t2, h3, h4⟩, k⟩ | ⟨an, q⟩
    · refine ⟨_, rfl, .ref r2, true, rfl, .yes h3, _, rfl, ite2 (fun _ => ?_) (fun z => absurd rfl z)⟩
      exact ⟨_, rfl, r, CR, dx, _, _, rfl, h1, cR.ins.cl, nR, rfl, _, rfl, r2, CR, dx2, _, _, rfl, h3, cR.ins.cl, nR, rfl, t, t2, ps, qs, rfl, h2, h4, k⟩
    · exact ⟨_, rfl, v, false, rfl, an, _, rfl, ite2 (fun z => absurd z Bool.false_ne_true) (fun _ => q)⟩
def spAddM (CR : Addr) : Sp := fun vs H Q _ => ∃ (r : Addr) (ps : PS) (v : V) (l : List Int) (n : Nat), vs = [.ref r, v] ∧ RowV CR H r ps ∧ RA CR H v l n ∧ ps.length + n ≤ 9000 ∧
  ∀ (r2 : Addr) (qs : PS) (H' : Hp), Same H H' → H r2 = none → RowV CR H' r2 qs → qs.length ≤ ps.length + n → flat qs = flat ps ++ l → Q (.ref r2) H'
theorem scAddM : FnScope ["self", "other"] ["self", "other"] (defScope sAddM) := ⟨rfl, rfl, rfl, by decide +kernel, rfl, by decide +kernel, by decide +kernel⟩
theorem ok_addM {f fS fI fM fR fU CR CU CB : Addr} {fd fdS fdI fdM fdR fdU : FuncData} {M : Int} (F : Fun K "__add__" "Row.__add__" sAddM f fd) (cR : Cls K CR) (nR : NoAttr K CR "stretches") (R : MkR P w K mg base M CR CU CB fR fU fdR fdU)
    (GI : FnOk P w K mg base CX0 3 fI fdI ["value"] (spIsRow CR)) (AI : At K mg "is_row" fI fdI ["value"])
    (GS : FnOk P w K mg base CX0 3 fS fdS ["row"] (spStrOf CR)) (AS : At K mg "stretches_of" fS fdS ["row"])
    (GM : FnOk P w K mg base CX0 1 fM fdM ["pairs"] spMerged) (AM : At K mg "merged" fM fdM ["pairs"]) :
    FnOk P w K mg base (L2.CX P w) 8 f fd ["self", "other"] (spAddM CR) := by
  refine F.okX scAddM (fun vs H Q E h => ?_) (fun cdv A outer s H vs Q E hr h => ?_)
  · obtain ⟨r, ps, v, l, n, rfl, _⟩ := h
    rfl
  · obtain ⟨r, ps, v, l, n, rfl, ⟨dx, t, h1, h2⟩, hA, hl, k⟩ := h
    have nd := scAddM.nd
    have hr1 := hr.mono (show 1 ≤ 7 by decide)
    have hr2 := hr.mono (show 2 ≤ 7 by decide)
    have hr3 := hr.mono (show 3 ≤ 7 by decide)
    refine ⟨_, (pss_cons (ps_if (pt_not (pt_val (pe_call GI hr3 rfl AI.mg AI.kp AI.bd .nil pass0 (pa_cons (pv 1) pa_nil))))
(pss_one (ps_ret pe_no))
pss_nil)
(pss_one (ps_ret (pe_make (E := E) R.mR R.oR hr rfl R.gR R.bR .nil (passX (takes_of rfl rfl rfl rfl)) (pa_cons (pe_make R.mU R.oU hr2 rfl R.gU R.bU .nil pass0 (pa_cons (pe_call GM hr1 rfl AM.mg AM.kp AM.bd .nil pass0 (pa_cons (pe_op op_catA (pe_fld (pv 0) (by rfl)) (pe_call GS hr3 rfl AS.mg AS.kp AS.bd .nil pass0 (pa_cons (pv 1) pa_nil))) pa_nil)) pa_nil)) pa_nil))))), ?_⟩
    refine ⟨_, rfl, v, l, n, rfl, hA, fun H1 s1 => ⟨_, rfl, ite2 (fun c => absurd c Bool.false_ne_true) (fun _ => ?_)⟩⟩
    refine ⟨_, rfl, r, CR, dx, _, _, rfl, s1 _ _ h1, cR, nR, rfl, _, rfl, v, l, n, rfl, hA.same s1, fun t2 qs H2 s2 hT hf hl2 => ?_⟩
    have s12 := s1.trans s2
    obtain ⟨⟨ws, hw, hP⟩, p1, p2, p3⟩ := h2.same s12
    obtain ⟨⟨zs, hz, hQ⟩, q1, q2, q3⟩ := hT
    refine catN hw hz (by rw [hP.len, hQ.len, sizeLine_eq]; omega) fun t3 H3 s3 h3 => ?_
    refine ⟨t3, ws ++ zs, ps ++ qs, rfl, .inr h3, (hP.same s3).append (hQ.same s3), by rw [List.length_append]; omega, fun p hp => ?_, fun t4 us H4 s4 n4 gd hf4 => ?_⟩
    · rcases List.mem_append.mp hp with z | z
      · exact ⟨p2 p z, (p3 p z).2⟩
      · exact ⟨q2 p z, (q3 p z).2⟩
    · have s14 := (s12.trans s3).trans s4
      have le4 : us.length ≤ ps.length + qs.length := by have := gd.le; rwa [List.length_append] at this
      exact mk_row (gd.tup (by rw [List.length_append]; omega)) fun r2 H' s6 n3 hv => k r2 us H' (s14.trans s6) (s14.free n3) hv (by omega) (by rw [hf4, flat_append, hf])
end
end K23
namespace K23
open PySem PySem.Spec PyProof.Rows L2 RwM Rw EV
def spPlain (CR CT : Addr) : Sp := fun vs H Q E => ∃ (r : Addr) (ps : PS) (n : Int), vs = [.ref r, .int n] ∧ RowV CR H r ps ∧ (n < ((flat ps).length : Int) → errAt CT H E "most" (.int n)) ∧
  (((flat ps).length : Int) ≤ n → (flat ps).length ≤ 100000 ∧ ∀ (t : Addr) (H' : Hp), Same H H' → H t = none → H' t = some (.tup ((flat ps).map V.int)) → Q (.ref t) H')
section
variable {P : Program} {w : World} {K : PySem.W.Frag} {mg : Str → Option Value} {base : Heap}
theorem scPlain : FnScope ["self", "most"] ["self", "most"] (defScope sPlain) := ⟨rfl, rfl, rfl, by decide +kernel, rfl, by decide +kernel, by decide +kernel⟩
theorem ok_plain {f fT fS CR CT : Addr} {fd fdT fdS : FuncData} {dvs : List V} {kws : List (Str × V)} (F : FunD K "plain" "Row.plain" (defArgs sPlain) (defBody sPlain) (defScope sPlain) dvs kws f fd) (cR : Cls K CR) (nR : NoAttr K CR "stretches")
    (GT : FnOk P w K mg base CX0 2 fT fdT ["self"] (spTotal CR)) (mT : Meth K CR "total" fT) (bT : Binds K fdT ["self"] [])
    (GS : FnOk P w K mg base CX0 1 fS fdS ["pairs"] spSpelled) (AS : At K mg "spelled" fS fdS ["pairs"]) (TM : Err P w K mg base "TooMany" CT ["most"]) :
    FnOk P w K mg base (L2.CX P w) 3 f fd ["self", "most"] (spPlain CR CT) := by
  refine F.ok scPlain (fun vs H Q E h => ?_) (fun cdv A outer s H vs Q E hr h => ?_)
  · obtain ⟨r, ps, n, rfl, _⟩ := h
    rfl
  · obtain ⟨r, ps, n, rfl, hR, hE, k⟩ := h
    obtain ⟨dx, t, h1, h2⟩ := id hR
    have nd := scPlain.nd
    have hr1 := hr.mono (show 1 ≤ 2 by decide)
    have hr2 := hr
    refine ⟨_, (pss_cons (ps_if (pt_cmpR op_gt (pe_meth0 (pv 0) cR mT GT hr2 bT .nil pass0) (pv 1) (nomark _))
(pss_one (ps_raise rfl (takes_of rfl rfl rfl rfl) (pmk_er TM hr2 (by decide) rfl (pl_var (pv 1) pl_nil))))
pss_nil)
(pss_one (ps_ret (pe_call GS hr1 rfl AS.mg AS.kp AS.bd .nil pass0 (pa_cons (pe_fld (pv 0) (by rfl)) pa_nil))))), ?_⟩
    refine ⟨_, rfl, r, dx, _, rfl, h1, rfl, r, ps, rfl, hR, fun H1 s1 => ?_⟩
    refine ⟨_, rfl, _, _, rfl, rfl, _, rfl, ite2 (fun c => ?_) (fun c => ?_)⟩
    · have c2 : n < ((flat ps).length : Int) := of_decide_eq_true c
      exact ⟨[.int n], ⟨.int n, [], rfl, rfl, rfl⟩, rfl, fun d H' s4 m e => hE c2 d H' (s1.trans s4) (s1.free m) e⟩
    · have c2 : ((flat ps).length : Int) ≤ n := by
        have z : ¬ n < ((flat ps).length : Int) := fun z => c (decide_eq_true z)
        omega
      obtain ⟨k1, k2⟩ := k c2
      exact ⟨_, rfl, r, CR, dx, _, _, rfl, s1 _ _ h1, cR, nR, rfl, t, ps, rfl, (h2.same s1).row, k1, fun t2 H' s2 n2 ht => k2 t2 H' (s1.trans s2) (s1.free n2) ht⟩
end
end K23
namespace K23
open PySem PySem.Spec PyProof.Rows L2 RwM Rw EV
abbrev sBegin : Stmt := top 36
abbrev sDraw : Stmt := top 37
abbrev sPick : Stmt := top 38
abbrev kCells : Key := Sum.inr "cells"
abbrev kAt : Key := Sum.inr "at"
abbrev kRest : Key := Sum.inr "rest"
def tapeKv (l : Addr) (at' rest : Int) : List (Key × V) := [(kCells, .ref l), (kAt, .int at'), (kRest, .int rest)]
/-- the tape stands at p; at most n cells were asked for -/
structure TapeAt (H : Hp) (p l : Addr) (ns : List Int) (n : Nat) : Prop where
  ob : ∃ at' rest : Int, H p = some (.dK (tapeKv l at' rest)) ∧ 0 ≤ at' ∧ at' ≤ n
  ce : H l = some (.lst (ns.map V.int))
  le : 0 < ns.length ∧ ns.length ≤ 63
theorem sCS : ¬ (("cells" : Str) = "at") := by decide +kernel
theorem sCR : ¬ (("cells" : Str) = "rest") := by decide +kernel
theorem sSR : ¬ (("at" : Str) = "rest") := by decide +kernel
theorem sRS : ¬ (("rest" : Str) = "at") := by decide +kernel
theorem nCS : (kCells : Key) ≠ kAt := by decide +kernel
theorem nCR : (kCells : Key) ≠ kRest := by decide +kernel
theorem nSR : (kAt : Key) ≠ kRest := by decide +kernel
theorem v_cells (l : Addr) (s r : Int) : valV (tapeKv l s r) kCells = some (.ref l) := by
  unfold valV tapeKv
  rw [List.find?_cons_of_pos (by simp)]
  rfl
theorem v_at (l : Addr) (s r : Int) : valV (tapeKv l s r) kAt = some (.int s) := by
  unfold valV tapeKv
  rw [List.find?_cons_of_neg (by simpa using nCS), List.find?_cons_of_pos (by simp)]
  rfl
theorem v_rest (l : Addr) (s r : Int) : valV (tapeKv l s r) kRest = some (.int r) := by
  unfold valV tapeKv
  rw [List.find?_cons_of_neg (by simpa using nCR), List.find?_cons_of_neg (by simpa using nSR), List.find?_cons_of_pos (by simp)]
  rfl
theorem put_rest (l : Addr) (s r z : Int) : putK (tapeKv l s r) kRest (.int z) = tapeKv l s z := by
  unfold tapeKv
  simp [putK, sCR, sSR]
theorem put_at (l : Addr) (s r z : Int) : putK (tapeKv l s r) kAt (.int z) = tapeKv l z r := by
  unfold tapeKv
  simp [putK, sCS, sRS]
theorem merge_tape (l : Addr) : mergeK [] (tapeKv l 0 0) = tapeKv l 0 0 := by
  unfold tapeKv
  simp [mergeK, putK, sCS, sCR, sSR, sRS]
theorem TapeAt.same {H H' : Hp} {p l : Addr} {ns : List Int} {n : Nat} (h : TapeAt H p l ns n) (s : Same H H') : TapeAt H' p l ns n := by
  obtain ⟨⟨sp, r, e, h1, h2⟩, c, le⟩ := h
  exact ⟨⟨sp, r, s _ _ e, h1, h2⟩, s _ _ c, le⟩
theorem TapeAt.more {H : Hp} {p l : Addr} {ns : List Int} {n m : Nat} (h : TapeAt H p l ns n) (k : n ≤ m) : TapeAt H p l ns m := by
  obtain ⟨⟨sp, r, e, h1, h2⟩, c, le⟩ := h
  exact ⟨⟨sp, r, e, h1, by omega⟩, c, le⟩
theorem kNE {H : Hp} {p l : Addr} {ns : List Int} {n : Nat} (h : TapeAt H p l ns n) : p ≠ l := by
  obtain ⟨⟨sp, r, e, _, _⟩, c, _⟩ := h
  exact ne_of e c (by intro z; cases z)
theorem g_rest {H : Hp} {p l : Addr} {a b : Int} (e : H p = some (.dK (tapeKv l a b))) : DGet H p (.str "rest") (some (.int b)) := by
  have z := DGet.k (k := kRest) e
  rw [v_rest] at z
  exact z
theorem g_at {H : Hp} {p l : Addr} {a b : Int} (e : H p = some (.dK (tapeKv l a b))) : DGet H p (.str "at") (some (.int a)) := by
  have z := DGet.k (k := kAt) e
  rw [v_at] at z
  exact z
theorem g_cells {H : Hp} {p l : Addr} {a b : Int} (e : H p = some (.dK (tapeKv l a b))) : DGet H p (.str "cells") (some (.ref l)) := by
  have z := DGet.k (k := kCells) e
  rw [v_cells] at z
  exact z
theorem p_rest {H : Hp} {p l : Addr} {a b c : Int} (e : H p = some (.dK (tapeKv l a b))) : DPut H p (.str "rest") (.int c) (upd H p (.dK (tapeKv l a c))) := by
  have z := DPut.k (k := kRest) (v := .int c) e (by show 3 < sizeLine; decide)
  rw [put_rest] at z
  exact z
theorem p_at {H : Hp} {p l : Addr} {a b c : Int} (e : H p = some (.dK (tapeKv l a b))) : DPut H p (.str "at") (.int c) (upd H p (.dK (tapeKv l c b))) := by
  have z := DPut.k (k := kAt) (v := .int c) e (by show 3 < sizeLine; decide)
  rw [put_at] at z
  exact z

/-- the cells of a script -/
def cells (ns : List Int) : List Int := if ns = [] then [0] else ns
def spBegin (K : PySem.W.Frag) : Sp := fun vs H Q _ => ∃ (a : Addr) (ns : List Int), vs = [.ref a] ∧ SqL K H a (ns.map V.int) ∧ ns.length ≤ 63 ∧
  ∀ (p l : Addr) (H' : Hp), Same H H' → H p = none → H l = none → p ≠ l → TapeAt H' p l (cells ns) 0 → Q (.ref p) H'
section
variable {P : Program} {w : World} {K : PySem.W.Frag} {mg : Str → Option Value} {base : Heap}
theorem scBegin : FnScope ["_law_script"] ["_law_script"] (defScope sBegin) := ⟨rfl, rfl, rfl, by decide +kernel, rfl, by decide +kernel, by decide +kernel⟩
theorem ok_begin {f : Addr} {fd : FuncData} (F : Fun K "_law_begin" "_law_begin" sBegin f fd) (zL : mg "list" = none) (zI : mg "int" = none) (zN : mg "len" = none) : FnOk P w K mg base CX0 1 f fd ["_law_script"] (spBegin K) := by
  refine F.ok scBegin (fun vs H Q E h => ?_) (fun cdv A outer s H vs Q E hr h => ?_)
  · obtain ⟨a, ns, rfl, _⟩ := h
    rfl
  · obtain ⟨a, ns, rfl, hS, hlen, k⟩ := h
    have nd := scBegin.nd
    have bl : bootBuiltins "list" = some (.type "list") := by decide +kernel
    have bi : bootBuiltins "int" = some (.type "int") := by decide +kernel
    refine ⟨_, (pss_one (ps_ret (pe_disp (pps_cons pe_str (pe_op op_cat (pe_callTy call_list_of (by rfl) zL bl (pa_cons (pe_slice sl_list (pv 0) po_none (po_some pe_int)) pa_nil)) (pe_op op_rep (pe_lst (pa_cons pe_int pa_nil)) (pe_callTy call_int1 (by rfl) zI bi (pa_cons (pe_cmpR op_eq (pe_callB call_len_seq (by rfl) zN PySem.boot_len (pa_cons (pv 0) pa_nil)) pe_int (nomark _)) pa_nil)))) (pps_cons pe_str pe_int (pps_cons pe_str pe_int pps_nil))) rfl rfl (by simp) (by decide)))), ?_⟩
    intro p hp
    have s1 := sameNew (o := .dK []) hp
    refine ⟨_, rfl, 63, rfl, a, _, rfl, s1.seq hS, fun q hq => ?_⟩
    have cut : cutV (ns.map V.int) none (some ((63 : Nat) : Int)) = (ns.take 63).map V.int := cut_take ns 63
    rw [List.take_of_length_le hlen] at cut
    have cut2 : cutV (ns.map V.int) none (some 63) = ns.map V.int := cut
    rw [cut2]
    have s2 := s1.trans (sameNew (o := .lst (ns.map V.int)) hq)
    refine ⟨q, _, rfl, .inl (SqL.of upd_same), fun l hl => ?_⟩
    have sl := sameNew (o := .lst (ns.map V.int)) hl
    have s3 := s2.trans sl
    have hp3 := sl _ _ ((sameNew (o := .lst (ns.map V.int)) hq) _ _ (upd_same : (upd H p (.dK [])) p = _))
    have hl3 : (upd (upd (upd H p (.dK [])) q (.lst (ns.map V.int))) l (.lst (ns.map V.int))) l = some (.lst (ns.map V.int)) := upd_same
    generalize upd (upd (upd H p (.dK [])) q (.lst (ns.map V.int))) l (.lst (ns.map V.int)) = H3 at s3 hp3 hl3 ⊢
    refine ⟨by show 1 ≤ sizeLine; decide, fun z hz => ?_⟩
    have sz := sameNew (o := .lst [V.int 0]) hz
    have s4 := s3.trans sz
    refine ⟨_, rfl, a, _, rfl, .inl (s4.seq hS), rfl, .inr ⟨_, rfl, ?_⟩⟩
    have em : ∀ b : Bool, b = decide (ns = []) → ns.map V.int ++ (List.replicate (if b = true then (1 : Int) else 0).toNat [V.int 0]).flatten = (cells ns).map V.int := fun b e => by
      subst e
      unfold cells
      by_cases y : ns = []
      · subst y; rfl
      · rw [if_neg y, decide_eq_false y]
        exact List.append_nil _
    have eb : decide (V.int ((ns.map V.int).length : Int) = V.int 0) = decide (ns = []) := by
      rw [List.length_map]
      cases ns with
      | nil => rfl
      | cons n r =>
        have h1 : V.int (((n :: r).length : Nat) : Int) ≠ V.int 0 := fun e => by
          injection e with e
          rw [List.length_cons] at e
          omega
        rw [decide_eq_false h1, decide_eq_false (List.cons_ne_nil n r)]
    have em2 := em _ eb
    have kb : ∀ b : Bool, (0 : Int) ≤ (if b = true then (1 : Int) else 0) ∧ (if b = true then (1 : Int) else 0) ≤ 1 := fun b => by cases b <;> decide
    have kb2 := kb (decide (V.int ((ns.map V.int).length : Int) = V.int 0))
    dsimp only
    generalize (if decide (V.int ((ns.map V.int).length : Int) = V.int 0) = true then (1 : Int) else 0) = kk at em2 kb2 ⊢
    refine ⟨z, kk, _, rfl, rfl, upd_same, by omega, by omega, by show 1 * kk.toNat ≤ _; rw [sizeLine_eq]; omega, fun rr hrr => ?_⟩
    have sr := sameNew (o := .lst (List.replicate kk.toNat [V.int 0]).flatten) hrr
    have hl4 := sr _ _ (sz _ _ hl3)
    have hp4 := sr _ _ (sz _ _ hp3)
    have s5 := s4.trans sr
    have hlen2 : (ns.map V.int).length + (List.replicate kk.toNat [V.int 0]).flatten.length ≤ 64 := by
      rw [List.length_map, List.length_flatten, List.map_replicate, List.sum_replicate_nat]
      show ns.length + kk.toNat * 1 ≤ 64
      omega
    refine ⟨l, rr, _, _, rfl, rfl, hl4, upd_same, by rw [sizeLine_eq]; omega, fun c hc => ?_⟩
    rw [em2]
    have sc := sameNew (o := .lst ((cells ns).map V.int)) hc
    have npc : p ≠ c := ne_of_none hp4 hc
    refine ⟨sc _ _ hp4, tapeKv c 0 0, rfl, by show 3 ≤ 15; decide, ?_⟩
    rw [merge_tape]
    refine k p c _ (fun b o e => ?_) hp (s5.free hc) npc ⟨⟨0, 0, upd_same, by omega, by omega⟩, by rw [upd_ne npc.symm, upd_same], ?_⟩
    · rw [upd_ne (ne_of_none e hp)]
      exact sc _ _ (s5 _ _ e)
    · unfold cells
      split
      · decide
      · rename_i y
        exact ⟨List.length_pos_iff.mpr y, hlen⟩
end
end K23
namespace K23
open PySem PySem.Spec PyProof.Rows L2 RwM Rw EV
theorem pow400 : (10 : Nat) ^ 400 < 2 ^ 9000 := by decide +kernel
theorem cdivW {x m : Int} (h : 0 < m) (h9 : m ≤ 10 ^ 400) : CDivW x m := by
  refine ⟨h, (Nat.log2_lt (by omega)).mpr (Nat.lt_of_le_of_lt ?_ pow400)⟩
  have e : ((m.natAbs : Nat) : Int) ≤ ((10 ^ 400 : Nat) : Int) := by
    rw [Int.natAbs_of_nonneg (Int.le_of_lt h)]
    have e2 : ((10 ^ 400 : Nat) : Int) = 10 ^ 400 := by decide +kernel
    rw [e2]
    exact h9
  exact Int.ofNat_le.mp e
theorem ite2_no {A B : Prop} (h : B) : if false = true then A else B := h
def spDraw : Sp := fun vs H Q _ => ∃ (p l : Addr) (ns : List Int) (n : Nat) (m : Int), vs = [.ref p, .int m] ∧ TapeAt H p l ns n ∧ n ≤ 1000000 ∧ 0 < m ∧ m ≤ 10 ^ 400 ∧
  ∀ (d : Int) (H' : Hp), But p H H' → TapeAt H' p l ns (n + 1) → 0 ≤ d → d < m → Q (.int d) H'
section
variable {P : Program} {w : World} {K : PySem.W.Frag} {mg : Str → Option Value} {base : Heap}
abbrev nmDraw : List Str := ["_law_tape", "_law_limit", "_law_at", "_law_span", "_law_cell", "_law_mixed", "_law_found"]
theorem scDraw : FnScope nmDraw ["_law_tape", "_law_limit"] (defScope sDraw) := ⟨rfl, rfl, rfl, by decide +kernel, rfl, by decide +kernel, by decide +kernel⟩
theorem ok_draw {f : Addr} {fd : FuncData} (F : Fun K "_law_draw" "_law_draw" sDraw f fd) (zI : mg "int" = none) (zN : mg "len" = none) : FnOk P w K mg base CX0 1 f fd ["_law_tape", "_law_limit"] spDraw := by
  refine F.ok scDraw (fun vs H Q E h => ?_) (fun cdv A outer s H vs Q E hr h => ?_)
  · obtain ⟨p, l, ns, n, m, rfl, _⟩ := h
    rfl
  · obtain ⟨p, l, ns, n, m, rfl, hT, hn, m0, m9, k⟩ := h
    have nd := scDraw.nd
    have hu64 := hu64_of hr
    have hu := hu_of hr
    have bi : bootBuiltins "int" = some (.type "int") := by decide +kernel
    refine ⟨_, (pss_cons (ps_if (pt_cmpR op_lt (pe_dget hu (pv 0) pe_str (fun _ _ => rfl)) (pv 1) (nomark _))
(pss_cons (ps_par rfl nd (i := 2) (j := 3) rfl rfl (by decide) rfl rfl (pa_cons (pe_dget hu (pv 0) pe_str (fun _ _ => rfl)) (pa_cons (pe_callB (r := rLenS K) call_lenS (by rfl) zN PySem.boot_len (pa_cons (pe_dget hu (pv 0) pe_str (fun _ _ => rfl)) pa_nil)) pa_nil)) (by rfl))
(pss_cons (ps_asg (pe_tup (pa_cons (pe_ix ix_list (pe_dget hu (pv 0) pe_str (fun _ _ => rfl)) (pe_op op_mod (pe_callTy call_int1 (by rfl) zI bi (pa_cons (pv 2) pa_nil)) (pv 3)) (fun _ _ => rfl)) (pa_cons (pe_op op_add (pv 2) pe_int) pa_nil))) (pg_tup rfl (pgs_cons (pg_name (i := 4) nd rfl (Or.inl rfl)) (pgs_cons (pg_sub (pv 0) pe_str (set_dict hu)) pgs_nil))))
(pss_cons (ps_set (i := 5) nd rfl (Or.inl rfl) (pe_op op_add (pe_op op_add (pe_op op_mod (pe_callTy call_int1 (by rfl) zI bi (pa_cons (pv 4) pa_nil)) pe_int) (pe_op op_mul pe_int (pv 2))) pe_int))
(pss_cons (ps_dput hu (pv 0) pe_str (pe_op op_mod (pe_callTy call_int1 (by rfl) zI bi (pa_cons (pe_op op_add (pe_op op_pow (pv 5) pe_int) (pe_op op_mul (pe_op op_mul (pe_op op_mul pe_int (pv 2)) (pv 2)) (pv 5))) pa_nil)) (pe_op op_add (pe_op op_pow pe_int pe_int) pe_int)) rfl)
(pss_one (ps_if (PW.pt (pw_and (pt_cmpR op_ge (pv 4) (pe_op op_pow pe_int pe_int) (nomark _)) (pw_and1 (pt_cmpR op_lt (pv 2) (pv 3) (nomark _)))))
(pss_one (ps_dput hu (pv 0) pe_str (pe_op op_sub (pv 4) (pe_op op_pow pe_int pe_int)) rfl))
pss_nil))))))
pss_nil)
(pss_cons (ps_asg (pe_tup (pa_cons (pe_op op_mod (pe_callTy call_int1 (by rfl) zI bi (pa_cons (pe_dget hu (pv 0) pe_str (fun _ _ => rfl)) pa_nil)) (pv 1)) (pa_cons (pe_op op_fdivW (pe_dget hu (pv 0) pe_str (fun _ _ => rfl)) (pv 1)) pa_nil))) (pg_tup rfl (pgs_cons (pg_name (i := 6) nd rfl (Or.inl rfl)) (pgs_cons (pg_sub (pv 0) pe_str (set_dict hu)) pgs_nil))))
(pss_one (ps_ret (pv 6))))), ?_⟩
    obtain ⟨⟨sp, rt, e0, s0, s9⟩, ce, le⟩ := id hT
    have npl : p ≠ l := fun z => by rw [z, ce] at e0; cases e0
    have cd : ∀ x, CDivW x m := fun x => cdivW m0 m9
    have fin : ∀ (a r : Int) (H1 : Hp), H1 p = some (.dK (tapeKv l a r)) → H1 l = some (.lst (ns.map V.int)) → But p H H1 → 0 ≤ a → a ≤ (n + 1 : Nat) → ∀ (T : Addr), H1 T = none →
        Q (.int (r % m)) (upd (upd H1 T (.tup [.int (r % m), .int (r / m)])) p (.dK (tapeKv l a (r / m)))) := fun a r H1 h1 h2 hb a0 a9 T nT => by
      have sT := sameNew (o := .tup [.int (r % m), .int (r / m)]) nT
      exact k _ _ (hb.trans ((But.of sT).trans .put)) ⟨⟨a, r / m, upd_same, a0, a9⟩, by rw [upd_ne npl.symm]; exact sT _ _ h2, le⟩ (Int.emod_nonneg _ (by omega)) (Int.emod_lt_of_pos _ m0)
    refine ⟨_, rfl, p, .int rt, rfl, g_rest e0, _, rfl, rt, m, rfl, rfl, _, rfl, ?_⟩
    refine ite2 (fun _ => ?_) (fun _ => ?_)
    rotate_left
    · refine ⟨_, rfl, p, .int rt, rfl, g_rest e0, .inl ⟨rt, rfl, _, rfl, rt, m, rfl, rfl, m0, _, rfl, p, .int rt, rfl, g_rest e0, _, rfl, rt, m, rfl, rfl, cd _, by show 2 ≤ sizeLine; decide, fun T nT => ?_⟩⟩
      have sT := sameNew (o := .tup [.int (rt % m), .int (rt / m)]) nT
      refine ⟨T, _, rfl, SqT.of upd_same, rfl, .int (rt % m), [.int (rt / m)], rfl, .int (rt / m), [], rfl, _, rfl, p, _, rfl, p_rest (sT _ _ e0), rfl, ?_⟩
      exact ⟨_, rfl, fin sp rt H e0 ce (.refl p H) s0 (by omega) T nT⟩
    · refine ⟨_, rfl, p, .int sp, rfl, g_at e0, _, rfl, p, .ref l, rfl, g_cells e0, l, _, rfl, .inl (SqL.of ce), _, _, rfl, ?_⟩
      have hL : (0 : Int) < ((ns.map V.int).length : Int) := by rw [List.length_map]; have := le.1; omega
      have h0 : 0 ≤ sp % ((ns.map V.int).length : Int) := Int.emod_nonneg _ (by omega)
      have h9 : sp % ((ns.map V.int).length : Int) < ((ns.map V.int).length : Int) := Int.emod_lt_of_pos _ hL
      obtain ⟨j, hj⟩ : ∃ j : Nat, sp % ((ns.map V.int).length : Int) = (j : Int) := ⟨_, (Int.toNat_of_nonneg h0).symm⟩
      have hjl : j < ns.length := by rw [List.length_map] at h9 hj; omega
      obtain ⟨c, hc⟩ : ∃ c, ns[j]? = some c := ⟨_, List.getElem?_eq_getElem hjl⟩
      refine ⟨_, rfl, p, .ref l, rfl, g_cells e0, _, rfl, .inl ⟨sp, rfl, _, rfl, sp, _, rfl, rfl, hL, l, _, _, .int c, rfl, rfl, SqL.of ce, (by rw [hj]; exact atI_nat (by rw [List.getElem?_map, hc]; rfl)), _, rfl, sp, 1, rfl, rfl, by show 2 ≤ sizeLine; decide, fun T nT => ?_⟩⟩
      have sT := sameNew (o := .tup [.int c, .int (sp + 1)]) nT
      refine ⟨T, _, rfl, SqT.of upd_same, rfl, .int c, [.int (sp + 1)], rfl, .int (sp + 1), [], rfl, _, rfl, p, _, rfl, p_at (sT _ _ e0), rfl, ?_⟩
      have e1 : (upd (upd H T (.tup [.int c, .int (sp + 1)])) p (.dK (tapeKv l (sp + 1) rt))) p = some (.dK (tapeKv l (sp + 1) rt)) := upd_same
      have c1 : (upd (upd H T (.tup [.int c, .int (sp + 1)])) p (.dK (tapeKv l (sp + 1) rt))) l = some (.lst (ns.map V.int)) := by rw [upd_ne npl.symm]; exact sT _ _ ce
      have b1 : But p H (upd (upd H T (.tup [.int c, .int (sp + 1)])) p (.dK (tapeKv l (sp + 1) rt))) := (But.of sT).trans .put
      generalize upd (upd H T (.tup [.int c, .int (sp + 1)])) p (.dK (tapeKv l (sp + 1) rt)) = H1 at e1 c1 b1 ⊢
      have kk : -(2 ^ 64) < (70001 : Int) ∧ (70001 : Int) < 2 ^ 64 := by decide
      refine ⟨_, rfl, .inl ⟨c, rfl, c, 2305843009213693907, rfl, rfl, (by show (0 : Int) < 2305843009213693907; decide), _, rfl, 70001, sp, rfl, rfl, .inl kk, _, _, rfl, rfl, _, _, rfl, rfl, ?_⟩⟩
      have x0 : 0 ≤ c % 2305843009213693907 := Int.emod_nonneg _ (by decide)
      have x9 : c % 2305843009213693907 < 2305843009213693907 := Int.emod_lt_of_pos _ (by decide)
      obtain ⟨mx, hmx⟩ : ∃ mx, mx = c % 2305843009213693907 + 70001 * sp + 20011 := ⟨_, rfl⟩
      dsimp only
      rw [← hmx]
      have y0 : -(2 ^ 64) < mx ∧ mx < 2 ^ 64 := by constructor <;> omega
      have pw : CPow mx 11 := ⟨by decide, by decide, by omega⟩
      have z1 : -(2 ^ 64) < (91 : Int) ∧ (91 : Int) < 2 ^ 64 := by decide
      have z2 : -(2 ^ 64) < sp ∧ sp < 2 ^ 64 := by constructor <;> omega
      refine ⟨_, rfl, mx, 11, rfl, rfl, pw, _, rfl, 91, sp, rfl, rfl, .inl z1, _, rfl, _, sp, rfl, rfl, .inr z2, _, rfl, _, mx, rfl, rfl, .inr y0, _, _, rfl, rfl, .inl ⟨_, rfl, ?_⟩⟩
      refine ⟨10, 47, rfl, rfl, ⟨by decide, by decide, by decide⟩, _, _, rfl, rfl, _, _, rfl, rfl, ?_, ?_⟩
      · show (0 : Int) < 10 ^ (47 : Int).toNat + 9
        decide
      · refine ⟨_, rfl, p, _, rfl, p_rest e1, ?_⟩
        have gen : ∀ r1 : Int, (upd H1 p (.dK (tapeKv l (sp + 1) r1))) p = some (.dK (tapeKv l (sp + 1) r1)) ∧ (upd H1 p (.dK (tapeKv l (sp + 1) r1))) l = some (.lst (ns.map V.int)) ∧ But p H (upd H1 p (.dK (tapeKv l (sp + 1) r1))) := fun r1 => ⟨upd_same, by rw [upd_ne npl.symm]; exact c1, b1.trans .put⟩
        obtain ⟨e2, c2, b2⟩ := gen _
        have pw18 : CPow 10 18 := ⟨by decide, by decide, by decide⟩
        refine ⟨_, rfl, 10, 18, rfl, rfl, pw18, _, _, rfl, rfl, _, rfl, ?_⟩
        refine ite2 (fun _ => ?_) (fun _ => ?_)
        · refine ⟨_, rfl, _, rfl, _, _, rfl, rfl, _, rfl, ?_⟩
          refine ite2 (fun _ => ?_) (fun _ => ?_)
          · refine ⟨_, rfl, 10, 18, rfl, rfl, pw18, _, _, rfl, rfl, _, rfl, p, _, rfl, p_rest e2, ?_⟩
            have e3 : ∀ r2 : Int, ∀ H2 : Hp, H2 l = some (.lst (ns.map V.int)) → But p H H2 → (upd H2 p (.dK (tapeKv l (sp + 1) r2))) p = some (.dK (tapeKv l (sp + 1) r2)) ∧ (upd H2 p (.dK (tapeKv l (sp + 1) r2))) l = some (.lst (ns.map V.int)) ∧ But p H (upd H2 p (.dK (tapeKv l (sp + 1) r2))) := fun r2 H2 q1 q2 => ⟨upd_same, by rw [upd_ne npl.symm]; exact q1, q2.trans .put⟩
            obtain ⟨f1, f2, f3⟩ := e3 _ _ c2 b2
            refine ⟨_, rfl, p, .int _, rfl, g_rest f1, .inl ⟨_, rfl, _, rfl, _, m, rfl, rfl, m0, _, rfl, p, .int _, rfl, g_rest f1, _, rfl, _, m, rfl, rfl, cd _, by show 2 ≤ sizeLine; decide, fun T2 nT2 => ?_⟩⟩
            refine ⟨T2, _, rfl, SqT.of upd_same, rfl, _, [_], rfl, _, [], rfl, _, rfl, p, _, rfl, p_rest ((sameNew nT2) _ _ f1), rfl, ?_⟩
            exact ⟨_, rfl, fin (sp + 1) _ _ f1 f2 f3 (by omega) (by omega) T2 nT2⟩
          · refine ⟨_, rfl, p, .int _, rfl, g_rest e2, .inl ⟨_, rfl, _, rfl, _, m, rfl, rfl, m0, _, rfl, p, .int _, rfl, g_rest e2, _, rfl, _, m, rfl, rfl, cd _, by show 2 ≤ sizeLine; decide, fun T2 nT2 => ?_⟩⟩
            refine ⟨T2, _, rfl, SqT.of upd_same, rfl, _, [_], rfl, _, [], rfl, _, rfl, p, _, rfl, p_rest ((sameNew nT2) _ _ e2), rfl, ?_⟩
            exact ⟨_, rfl, fin (sp + 1) _ _ e2 c2 b2 (by omega) (by omega) T2 nT2⟩
        · show (if false = true then _ else _)
          refine ite2_no ?_
          refine ⟨_, rfl, p, .int _, rfl, g_rest e2, .inl ⟨_, rfl, _, rfl, _, m, rfl, rfl, m0, _, rfl, p, .int _, rfl, g_rest e2, _, rfl, _, m, rfl, rfl, cd _, by show 2 ≤ sizeLine; decide, fun T2 nT2 => ?_⟩⟩
          refine ⟨T2, _, rfl, SqT.of upd_same, rfl, _, [_], rfl, _, [], rfl, _, rfl, p, _, rfl, p_rest ((sameNew nT2) _ _ e2), rfl, ?_⟩
          exact ⟨_, rfl, fin (sp + 1) _ _ e2 c2 b2 (by omega) (by omega) T2 nT2⟩
end
end K23
namespace K23
open PySem PySem.Spec PyProof.Rows L2 RwM Rw EV
abbrev sIs : Stmt := top 41
def spPick : Sp := fun vs H Q _ => ∃ (p l t : Addr) (ns : List Int) (n : Nat) (xs : List V), vs = [.ref p, .ref t] ∧ TapeAt H p l ns n ∧ n ≤ 1000000 ∧ H t = some (.lst xs) ∧ 0 < xs.length ∧ xs.length ≤ 1000 ∧
  ∀ (j : Nat) (x : V) (H' : Hp), xs[j]? = some x → TapeAt H' p l ns (n + 1) → But p H H' → Q x H'
/-- is b the truth value t -/
def isTr (v : V) (b : Bool) : Bool := decide (v = .bl b)
def spIs : Sp := fun vs H Q _ => ∃ (a b : Bool), vs = [.bl a, .bl b] ∧ Q (.bl (a == b)) H
section
variable {P : Program} {w : World} {K : PySem.W.Frag} {mg : Str → Option Value} {base : Heap}
abbrev nmPick : List Str := ["_law_tape", "_law_some"]
theorem scPick : FnScope nmPick nmPick (defScope sPick) := ⟨rfl, rfl, rfl, by decide +kernel, rfl, by decide +kernel, by decide +kernel⟩
theorem ok_pick {f fD : Addr} {fd fdD : FuncData} (F : Fun K "_law_pick" "_law_pick" sPick f fd) (zN : mg "len" = none) (GD : FnOk P w K mg base CX0 1 fD fdD ["_law_tape", "_law_limit"] spDraw)
    (AD : At K mg "_law_draw" fD fdD ["_law_tape", "_law_limit"]) : FnOk P w K mg base CX0 2 f fd nmPick spPick := by
  refine F.ok scPick (fun vs H Q E h => ?_) (fun cdv A outer s H vs Q E hr h => ?_)
  · obtain ⟨p, l, t, ns, n, xs, rfl, _⟩ := h
    rfl
  · obtain ⟨p, l, t, ns, n, xs, rfl, Pn, hn, ht, h0, h9, k⟩ := h
    have nd := scPick.nd
    refine ⟨_, (pss_one (ps_ret (pe_ix ix_list (pv 1) (pe_call GD hr rfl AD.mg AD.kp AD.bd .nil pass0 (pa_cons (pv 0) (pa_cons (pe_callB (r := rLenS K) call_lenS (by rfl) zN PySem.boot_len (pa_cons (pv 1) pa_nil)) pa_nil))) (fun _ _ => rfl)))), ?_⟩
    refine ⟨_, rfl, _, rfl, _, rfl, t, xs, rfl, .inl (SqL.of ht), p, l, ns, n, _, rfl, Pn, hn, by omega, by omega, fun d H' hb Pn' d0 d9 => ?_⟩
    have ntp : t ≠ p := by
      obtain ⟨⟨sp, r, e, _, _⟩, _, _⟩ := Pn
      exact ne_of ht e (by intro z; cases z)
    obtain ⟨j, hj⟩ : ∃ j : Nat, d = (j : Int) := ⟨_, (Int.toNat_of_nonneg d0).symm⟩
    subst hj
    have hjl : j < xs.length := by omega
    have hx := List.getElem?_eq_getElem hjl
    exact ⟨t, xs, (j : Int), _, rfl, rfl, SqL.of (hb t _ ntp ht), atI_nat hx, k j _ H' hx Pn' hb⟩
end
end K23
namespace K23
open PySem PySem.Spec PyProof.Rows L2 RwM Rw EV
/-- is: of two truth values -/
theorem op_isBl {X : Cx} : OpR X (compareOp .Is) (fun x y H Q => ∃ a b, x = .bl a ∧ y = .bl b ∧ Q (.bl (a == b)) H) := by
  intro pins s σ H x y v u Q I rx ry h
  obtain ⟨a, b, rfl, rfl, q⟩ := h
  cases rx
  cases ry
  exact is_bool (fin_bl I q rfl)
section
variable {P : Program} {w : World} {K : PySem.W.Frag} {mg : Str → Option Value} {base : Heap}
theorem scIs : FnScope ["_law_value", "_law_truth"] ["_law_value", "_law_truth"] (defScope sIs) := ⟨rfl, rfl, rfl, by decide +kernel, rfl, by decide +kernel, by decide +kernel⟩
theorem ok_is {f : Addr} {fd : FuncData} (F : Fun K "_law_is" "_law_is" sIs f fd) : FnOk P w K mg base CX0 1 f fd ["_law_value", "_law_truth"] spIs := by
  refine F.ok scIs (fun vs H Q E h => ?_) (fun cdv A outer s H vs Q E hr h => ?_)
  · obtain ⟨a, b, rfl, _⟩ := h
    rfl
  · obtain ⟨a, b, rfl, q⟩ := h
    have nd := scIs.nd
    refine ⟨_, (pss_one (ps_ret (pe_ifExp (pt_truth (pv 1) (fun _ => rfl)) (pe_cmpR op_isBl (pv 0) pe_bl (nomark _)) (pe_cmpR op_isBl (pv 0) pe_bl (nomark _))))), ?_⟩
    cases b with
    | true =>
      refine ⟨_, rfl, _, rfl, ite2 (fun _ => ?_) (fun c => absurd rfl c)⟩
      exact ⟨_, rfl, a, true, rfl, rfl, q⟩
    | false =>
      refine ⟨_, rfl, _, rfl, ite2 (fun c => absurd c Bool.false_ne_true) (fun _ => ?_)⟩
      exact ⟨_, rfl, a, false, rfl, rfl, q⟩
end
end K23
namespace K23
open PySem PySem.Spec PyProof.Rows L2 RwM Rw EV
abbrev sTen : Stmt := top 40
def zK (k : Int) : Str := ⟨(List.replicate k.toNat ("0" : Str).cps).foldl (· ++ ·) #[]⟩
def TenK (k : Int) : Prop := 0 ≤ k ∧ k ≤ 300 ∧ PySem.intText? (("1" : Str) ++ zK k) = some (10 ^ k.toNat) ∧ (("1" : Str) ++ zK k).length ≤ 640 ∧ (zK k).length = k.toNat
instance (k : Int) : Decidable (TenK k) := by unfold TenK; infer_instance
theorem ten300 : TenK 300 := by decide +kernel
theorem tenAll : ∀ k : Fin 61, TenK ((k.val : Nat) : Int) := by decide +kernel
theorem ten60 {d : Int} (h : 0 ≤ d) (h9 : d < 60) : TenK d := by
  have e := tenAll ⟨d.toNat, by omega⟩
  have z : ((d.toNat : Nat) : Int) = d := Int.toNat_of_nonneg h
  rw [← z]
  exact e
theorem one0 : ("0" : Str).length = 1 := by decide +kernel
theorem shortAll : ∀ k : Fin 301, Builtin.Str.tooLong (("0" : Str).length * k.val) = false := by decide +kernel
theorem divAll : ∀ k : Fin 301, 1 ≤ k.val → ¬ ((("0" : Str).length : Int) > (2 ^ 63 - 1) / ((k.val : Nat) : Int)) := by decide +kernel
/-- '0' * k -/
theorem op_mulZ {X : Cx} : OpR X (binaryOp .Mult) (fun x y H Q => ∃ k : Int, x = .str "0" ∧ y = .int k ∧ TenK k ∧ Q (.str (zK k)) H) := by
  intro pins s σ H x y v u Q I rx ry h
  obtain ⟨k, rfl, rfl, T, q⟩ := h
  obtain ⟨t, rfl⟩ := rx
  obtain ⟨t2, rfl⟩ := ry
  obtain ⟨k0, k9, _, _, hlen⟩ := T
  refine PySem.P.mul_str (by simp only [Bool.or_eq_false_iff, decide_eq_false_iff_not]; omega) (fun c _ => ?_) (fun c _ => ?_) ?_
  · have z := divAll ⟨k.toNat, by omega⟩ (by show 1 ≤ k.toNat; omega)
    have e : ((k.toNat : Nat) : Int) = k := Int.toNat_of_nonneg k0
    rw [← e]
    exact z
  · have z := shortAll ⟨k.toNat, by omega⟩
    exact z
  · by_cases c : k < 1
    · obtain rfl : k = 0 := by omega
      rw [if_pos c]
      exact ⟨by decide +kernel, .str _, H, I.tok _, ⟨_, rfl⟩, q⟩
    · rw [if_neg c]
      by_cases c1 : (k == 1 || ("0" : Str).length == 0) = true
      · rw [if_pos c1]
        obtain rfl : k = 1 := by
          rw [one0] at c1
          simpa using c1
        exact ⟨.str _, H, I.tok _, ⟨_, rfl⟩, q⟩
      · rw [if_neg c1]
        exact ⟨by show (zK k).length ≤ sizeLine; rw [hlen, sizeLine_eq]; omega, .str _, H, I.tok _, ⟨_, rfl⟩, q⟩
def spTen : Sp := fun vs H Q _ => ∃ k : Int, vs = [.int k] ∧ TenK k ∧ Q (.int (10 ^ k.toNat)) H
section
variable {P : Program} {w : World} {K : PySem.W.Frag} {mg : Str → Option Value} {base : Heap}
theorem scTen : FnScope ["_law_figures"] ["_law_figures"] (defScope sTen) := ⟨rfl, rfl, rfl, by decide +kernel, rfl, by decide +kernel, by decide +kernel⟩
theorem ok_ten {f : Addr} {fd : FuncData} (F : Fun K "_law_ten" "_law_ten" sTen f fd) (zI : mg "int" = none) : FnOk P w K mg base CX0 1 f fd ["_law_figures"] spTen := by
  refine F.ok scTen (fun vs H Q E h => ?_) (fun cdv A outer s H vs Q E hr h => ?_)
  · obtain ⟨k, rfl, _⟩ := h
    rfl
  · obtain ⟨k, rfl, T, q⟩ := h
    have nd := scTen.nd
    have bi : bootBuiltins "int" = some (.type "int") := by decide +kernel
    refine ⟨_, (pss_one (ps_ret (pe_callTy call_int_str (by rfl) zI bi (pa_cons (pe_op op_add_str pe_str (pe_op op_mulZ pe_str (pv 0))) pa_nil)))), ?_⟩
    refine ⟨_, rfl, k, rfl, rfl, T, _, _, rfl, rfl, ?_, ?_⟩
    · rw [T.2.2.2.2, sizeLine_eq]
      have := T.2.1
      show _ + k.toNat ≤ _
      have e : ("1" : Str).length = 1 := by decide +kernel
      rw [e]
      omega
    · exact ⟨_, _, rfl, T.2.2.1, T.2.2.2.1, q⟩
end
end K23
namespace K23
open PySem PySem.Spec PyProof.Rows L2 RwM Rw EV
theorem TapeAt.pt {H : Hp} {p l : Addr} {ns : List Int} {n : Nat} (h : TapeAt H p l ns n) : ∃ kv, H p = some (.dK kv) := by
  obtain ⟨⟨sp, r, e, _, _⟩, _, _⟩ := h
  exact ⟨_, e⟩
theorem TapeAt.ne {H : Hp} {p l D : Addr} {ns : List Int} {n : Nat} (h : TapeAt H p l ns n) (hD : H D = none) : p ≠ D := by
  obtain ⟨kv, e⟩ := h.pt
  exact ne_of_none e hD
theorem TapeAt.neL {H : Hp} {p l D : Addr} {ns : List Int} {n : Nat} (h : TapeAt H p l ns n) (hD : H D = none) : l ≠ D := ne_of_none h.ce hD
/-- another object is written -/
theorem TapeAt.upd {H : Hp} {p l D : Addr} {o : HO} {ns : List Int} {n : Nat} (h : TapeAt H p l ns n) (h1 : p ≠ D) (h2 : l ≠ D) : TapeAt (upd H D o) p l ns n := by
  obtain ⟨⟨sp, r, e, k1, k2⟩, c, le⟩ := h
  exact ⟨⟨sp, r, by rw [upd_ne h1]; exact e, k1, k2⟩, by rw [upd_ne h2]; exact c, le⟩
/-- what stands beside the tape stays when a draw is made -/
theorem PairAt.tape {k : Addr} {kv : List (Key × V)} {H H' : Hp} {v : V} {p : List Int × Int} (h : PairAt H v p) (hk : H k = some (.dK kv)) (s : But k H H') : PairAt H' v p := by
  obtain ⟨q, a, e, h1, h2⟩ := h
  exact ⟨q, a, e, s _ _ (ne_of h1 hk (by intro z; cases z)) h1, s _ _ (ne_of h2 hk (by intro z; cases z)) h2⟩
theorem Prs.tape {k : Addr} {kv : List (Key × V)} {H H' : Hp} {vs : List V} {ps : PS} (h : Prs H vs ps) (hk : H k = some (.dK kv)) (s : But k H H') : Prs H' vs ps := L2.Paired.mapP h fun _ _ z => PairAt.tape z hk s
theorem But.updN {k D : Addr} {o : HO} {H H' : Hp} (b : But k H H') (hD : H D = none) : But k H (upd H' D o) := fun c u nc e => by
  rw [upd_ne (ne_of_none e hD)]
  exact b c u nc e
theorem But.free {k D : Addr} {H H' : Hp} (b : But k H H') (n : D ≠ k) (hD : H' D = none) : H D = none := by
  cases e : H D with
  | none => rfl
  | some o => rw [b D o n e] at hD; cases hD
/-- a draw with a written limit -/
theorem rd_draw {σ : L2.St} {H : Hp} {Q : VK} {E : XK} {i : Nat} {p l : Addr} {ns : List Int} {n : Nat} {m : Int} (h0 : σ[i]? = some (some (.ref p))) (hT : TapeAt H p l ns n) (hn : n ≤ 1000000) (hm : 0 < m ∧ m ≤ 10 ^ 400)
    (q : ∀ (d : Int) (H' : Hp), But p H H' → TapeAt H' p l ns (n + 1) → 0 ≤ d → d < m → Q (.int d) H') : ∃ v, σ[i]? = some (some v) ∧ spDraw [v, .int m] H Q E := ⟨_, h0, p, l, ns, n, m, rfl, hT, hn, hm.1, hm.2, q⟩
theorem gN {i : Nat} {x : V} {σ : L2.St} {H : Hp} {Q : L2.St → Hp → Prop} (h : Q (σ.set i (some x)) H) : gName i x σ H Q := h
theorem pow_le400 {k : Nat} (h : k ≤ 400) : (10 : Int) ^ k ≤ 10 ^ 400 := by
  have e : (10 : Int) ^ k = ((10 ^ k : Nat) : Int) := by
    rw [Int.natCast_pow]
    rfl
  have e2 : (10 : Int) ^ 400 = ((10 ^ 400 : Nat) : Int) := by decide +kernel
  rw [e, e2]
  exact Int.ofNat_le.mpr (Nat.pow_le_pow_right (by decide) h)
abbrev sGreat : Stmt := top 39
/-- draws of the tape, one behind another -/
def Drawn (p l : Addr) (ns : List Int) (n k : Nat) (H H' : Hp) : Prop := But p H H' ∧ ∃ m, TapeAt H' p l ns m ∧ m ≤ n + k
def spGreat : Sp := fun vs H Q _ => ∃ (p l : Addr) (ns : List Int) (n : Nat) (c : Int), vs = [.ref p, .int c] ∧ TapeAt H p l ns n ∧ n ≤ 900000 ∧ 0 ≤ c ∧ c < 10 ^ 400 ∧
  ∀ (d : Int) (n' : Nat) (H' : Hp), But p H H' → TapeAt H' p l ns n' → n' ≤ n + 4 → 0 ≤ d → d ≤ c → Q (.int d) H'
section
variable {P : Program} {w : World} {K : PySem.W.Frag} {mg : Str → Option Value} {base : Heap}
abbrev nmGreat : List Str := ["_law_tape", "_law_cap", "_law_sort", "_law_found"]
theorem scGreat : FnScope nmGreat ["_law_tape", "_law_cap"] (defScope sGreat) := ⟨rfl, rfl, rfl, by decide +kernel, rfl, by decide +kernel, by decide +kernel⟩
theorem ok_great {f fD fP fT : Addr} {fd fdD fdP fdT : FuncData} (F : Fun K "_law_great" "_law_great" sGreat f fd) (zMn : mg "min" = none) (zMx : mg "max" = none) (GD : FnOk P w K mg base CX0 1 fD fdD ["_law_tape", "_law_limit"] spDraw)
    (AD : At K mg "_law_draw" fD fdD ["_law_tape", "_law_limit"]) (GP : FnOk P w K mg base CX0 2 fP fdP nmPick spPick) (AP : At K mg "_law_pick" fP fdP nmPick)
    (GT : FnOk P w K mg base CX0 1 fT fdT ["_law_figures"] spTen) (AT : At K mg "_law_ten" fT fdT ["_law_figures"]) : FnOk P w K mg base CX0 3 f fd ["_law_tape", "_law_cap"] spGreat := by
  refine F.ok scGreat (fun vs H Q E h => ?_) (fun cdv A outer s H vs Q E hr h => ?_)
  · obtain ⟨p, l, ns, n, c, rfl, _⟩ := h
    rfl
  · obtain ⟨p, l, ns, n, c, rfl, hT, hn, c0, c9, k⟩ := h
    have nd := scGreat.nd
    have bm : bootBuiltins "min" = some (.builtin "min") := by decide +kernel
    have bM : bootBuiltins "max" = some (.builtin "max") := by decide +kernel
    have hr1 := hr.mono (show 1 ≤ 2 by decide)
    refine ⟨_, (pss_cons (ps_set (i := 2) nd rfl (Or.inl rfl) (pe_call GD hr1 rfl AD.mg AD.kp AD.bd .nil pass0 (pa_cons (pv 0) (pa_cons pe_int pa_nil))))
(pss_cons (ps_if (pt_cmpR op_lt (pv 2) pe_int (nomark _))
(pss_one (ps_ret (pe_callB (call_min2 rfl) (by rfl) zMn bm (pa_cons (pv 1) (pa_cons (pe_call GP hr rfl AP.mg AP.kp AP.bd .nil pass0 (pa_cons (pv 0) (pa_cons (pe_lst (pa_cons (pe_call GD hr1 rfl AD.mg AD.kp AD.bd .nil pass0 (pa_cons (pv 0) (pa_cons pe_int pa_nil))) (pa_cons (pe_call GD hr1 rfl AD.mg AD.kp AD.bd .nil pass0 (pa_cons (pv 0) (pa_cons pe_int pa_nil))) pa_nil))) pa_nil))) pa_nil)))))
pss_nil)
(pss_cons (ps_if (pt_cmpR op_eq (pv 2) pe_int (nomark _))
(pss_one (ps_ret (pe_callB (call_max2 rfl) (by rfl) zMx bM (pa_cons pe_int (pa_cons (pe_op op_sub (pv 1) (pe_call GD hr1 rfl AD.mg AD.kp AD.bd .nil pass0 (pa_cons (pv 0) (pa_cons pe_int pa_nil)))) pa_nil)))))
pss_nil)
(pss_cons (ps_set (i := 3) nd rfl (Or.inl rfl) (pe_call GD hr1 rfl AD.mg AD.kp AD.bd .nil pass0 (pa_cons (pv 0) (pa_cons (pe_op op_add (pv 1) pe_int) pa_nil))))
(pss_one (ps_ret (pe_ifExp (pt_cmpR op_eq (pv 2) pe_int (nomark _)) (pv 3) (pe_op op_fdivW (pv 3) (pe_call GT hr1 rfl AT.mg AT.kp AT.bd .nil pass0 (pa_cons (pe_call GD hr1 rfl AD.mg AD.kp AD.bd .nil pass0 (pa_cons (pv 0) (pa_cons pe_int pa_nil))) pa_nil)))))))))), ?_⟩
    have hd4 : (400 : Int) ≤ 10 ^ 400 := by decide +kernel
    refine ⟨_, rfl, p, l, ns, n, 5, rfl, hT, by omega, by decide, by decide +kernel, fun so H1 b1 T1 s0 s9 => ?_⟩
    refine gN ?_
    dsimp only [List.set]
    refine ⟨_, rfl, so, 2, rfl, rfl, _, rfl, ite2 (fun _ => ?_) (fun _ => ?_)⟩
    · refine ⟨_, rfl, ?_⟩
      refine ⟨_, rfl, ?_⟩
      refine ⟨_, rfl, p, l, ns, _, 13, rfl, T1, by omega, by decide, by decide +kernel, fun x H2 b2 T2 x0 x9 => ?_⟩
      refine ⟨_, rfl, p, l, ns, _, 400, rfl, T2, by omega, by decide, by decide +kernel, fun y H3 b3 T3 y0 y9 => ?_⟩
      refine ⟨by show 2 ≤ sizeLine; decide, fun L hL => ?_⟩
      have sL := sameNew (o := .lst [.int x, .int y]) hL
      refine ⟨p, l, L, ns, _, [.int x, .int y], rfl, T3.same sL, by omega, upd_same, by show 0 < 2; decide, by show 2 ≤ 1000; decide, fun j v H4 hj T4 b4 => ?_⟩
      obtain ⟨z, rfl, z0⟩ : ∃ z : Int, v = .int z ∧ 0 ≤ z := by
        match j, hj with
        | 0, hj => exact ⟨x, (Option.some.inj hj).symm, x0⟩
        | 1, hj => exact ⟨y, (Option.some.inj hj).symm, y0⟩
      refine ⟨_, _, rfl, k _ _ H4 (((b1.trans b2).trans b3).trans ((But.of sL).trans b4)) T4 (by omega) ?_ ?_⟩
      · split <;> omega
      · split <;> omega
    · refine ⟨_, rfl, rfl, _, rfl, ite2 (fun _ => ?_) (fun _ => ?_)⟩
      · refine ⟨_, rfl, _, rfl, p, l, ns, _, 50, rfl, T1, by omega, by decide, by decide +kernel, fun x H2 b2 T2 x0 x9 => ?_⟩
        refine ⟨c, x, rfl, rfl, _, _, rfl, k _ _ H2 (b1.trans b2) T2 (by omega) ?_ ?_⟩
        · split <;> omega
        · split <;> omega
      · refine ⟨_, rfl, _, rfl, c, 1, rfl, rfl, p, l, ns, _, _, rfl, T1, by omega, by omega, by omega, fun x H2 b2 T2 x0 x9 => ?_⟩
        refine gN ?_
        dsimp only [List.set]
        refine ⟨_, rfl, rfl, _, rfl, ite2 (fun _ => ?_) (fun _ => ?_)⟩
        · exact ⟨_, rfl, k x _ H2 (b1.trans b2) T2 (by omega) x0 (by omega)⟩
        · refine ⟨_, rfl, _, rfl, p, l, ns, _, 60, rfl, T2, by omega, by decide, by decide +kernel, fun y H3 b3 T3 y0 y9 => ?_⟩
          refine ⟨y, rfl, ten60 y0 y9, x, _, rfl, rfl, cdivW ?_ ?_, k _ _ H3 ((b1.trans b2).trans b3) T3 (by omega) ?_ ?_⟩
          · exact Int.pow_pos (by decide)
          · exact pow_le400 (by omega)
          · exact Int.ediv_nonneg x0 (Int.le_of_lt (Int.pow_pos (by decide)))
          · exact Int.le_trans (Int.ediv_le_self _ x0) (by omega)
end
end K23
namespace K23
open PySem PySem.Spec PyProof.Rows L2 RwM Rw EV
abbrev sBulk : Stmt := top 43
abbrev sNumber : Stmt := top 44
section
variable {P : Program} {w : World} {K : PySem.W.Frag} {mg : Str → Option Value} {base : Heap}
abbrev nmBulk : List Str := ["_law_stretches", "_law_word", "_law_times"]
theorem scBulk : FnScope nmBulk ["_law_stretches"] (defScope sBulk) := ⟨rfl, rfl, rfl, by decide +kernel, rfl, by decide +kernel, by decide +kernel⟩
theorem ok_bulk {f : Addr} {fd : FuncData} (F : Fun K "_law_bulk" "_law_bulk" sBulk f fd) (zS : mg "sum" = none) (zN : mg "len" = none) : FnOk P w K mg base CX0 1 f fd ["_law_stretches"] spCount := by
  refine F.ok scBulk (fun vs H Q E h => ?_) (fun cdv A outer s H vs Q E hr h => ?_)
  · obtain ⟨a, ps, rfl, _⟩ := h
    rfl
  · obtain ⟨a, ps, rfl, ⟨⟨ws, hA, hP⟩, hl, h0, h9⟩, k⟩ := h
    have nd := scBulk.nd
    have bs : bootBuiltins "sum" = some (.builtin "sum") := by decide +kernel
    refine ⟨_, (pss_one (ps_ret (pe_callB (cr_sum rfl) (by rfl) zS bs (pa_cons (pe_lc (own := [("_law_word", 1), ("_law_times", 2)]) (g := gTup K 2 (gCons (gName 1) (gCons (gName 2) gNil))) (tt := tYes) rfl nd (pi_seqV (pv 0)) (blkOk_by (N := nmBulk) (sc := defScope sBulk) (by decide +kernel)) (fun _ _ _ _ _ => pg_tup rfl (pgs_cons (pg_name (i := 1) nd rfl (Or.inl rfl)) (pgs_cons (pg_name (i := 2) nd rfl (Or.inl rfl)) pgs_nil))) (fun _ _ _ _ _ => pts_nil) (fun _ _ _ _ _ => (pe_op op_mul (pe_callB (r := rLenS K) call_lenS (by rfl) zN PySem.boot_len (pa_cons (pv 1) pa_nil)) (pv 2)))) pa_nil)))), ?_⟩
    have lw := hP.len
    refine ⟨a, ws, rfl, hA, fun J wk D hD => lc_it wk (fun i H' => Same H H' ∧ H' D = some (.lst (((ps.take i).map fun p => (p.1.length : Int) * p.2).map V.int))) ⟨sameNew hD, upd_same⟩ (fun i H' _ h o e => h.1 _ _ e) ?_ ?_⟩
    · rintro i x H' H'' hi ⟨s', hD'⟩ ⟨rfl, hx⟩
      obtain ⟨⟨pw, pt⟩, hp, q, aw, rfl, hqq, haw⟩ := (hP.same s').get hx
      have hpl := (h9 _ (List.mem_of_getElem? hp)).2
      have hpl2 : pw.length ≤ 100000 := hpl
      refine ⟨q, [.ref aw, .int pt], rfl, SqT.of hqq, rfl, .ref aw, [.int pt], rfl, .int pt, [], rfl, rfl, ?_⟩
      refine ⟨rfl, ?_⟩
      refine ⟨_, rfl, aw, _, rfl, .inr (SqT.of haw), _, rfl, _, pt, rfl, rfl, .inl ?_, _, hD', ?_, ?_, ?_⟩
      · rw [List.length_map]; constructor <;> omega
      · rw [List.length_map, List.length_map, List.length_take, sizeLine_eq]; omega
      · exact fun b o e => by rw [upd_ne (ne_of_none e hD)]; exact s' b o e
      · rw [upd_same, List.take_succ, hp, List.map_append, List.map_append, List.length_map]
        rfl
    · rintro H' ⟨s', hD'⟩
      have e1 : ps.take ws.length = ps := by rw [lw, List.take_length]
      rw [e1] at hD'
      refine ⟨D, _, rfl, SqL.of hD', ?_⟩
      have e2 := cnt_flat ps h0
      unfold cnt at e2
      rw [e2]
      exact k H' s'
/-- the number at a place, by going through the stretches -/
def numV : PS → Int → V
  | [], _ => .non
  | (u, t) :: r, m => if m < (u.length : Int) * t then .int (u.getD (m % (u.length : Int)).toNat 0) else numV r (m - (u.length : Int) * t)
def spNumber : Sp := fun vs H Q _ => ∃ (a : Addr) (ps : PS) (m : Int), vs = [.ref a, .int m] ∧ RowAt H a ps ∧ ∀ H', Same H H' → Q (numV ps m) H'
abbrev nmNumber : List Str := ["_law_stretches", "_law_index", "_law_word", "_law_times"]
theorem scNumber : FnScope nmNumber ["_law_stretches", "_law_index"] (defScope sNumber) := ⟨rfl, rfl, rfl, by decide +kernel, rfl, by decide +kernel, by decide +kernel⟩
theorem ok_number {f : Addr} {fd : FuncData} (F : Fun K "_law_number" "_law_number" sNumber f fd) (zN : mg "len" = none) (zI : mg "int" = none) :
    FnOk P w K mg base CX0 1 f fd ["_law_stretches", "_law_index"] spNumber := by
  refine F.ok scNumber (fun vs H Q E h => ?_) (fun cdv A outer s H vs Q E hr h => ?_)
  · obtain ⟨a, ps, m, rfl, _⟩ := h
    rfl
  · obtain ⟨a, ps, m, rfl, ⟨⟨ws, hA, hP⟩, hl, h0, h9⟩, k⟩ := h
    have nd := scNumber.nd
    have bi : bootBuiltins "int" = some (.type "int") := by decide +kernel
    refine ⟨_, (pss_cons (ps_for PassesOwn.never rfl (pi_seqV (pv 0)) (pg_tup rfl (pgs_cons (pg_name (i := 2) nd rfl (Or.inl rfl)) (pgs_cons (pg_name (i := 3) nd rfl (Or.inl rfl)) pgs_nil)))
(pss_cons (ps_if (pt_cmpR op_lt (pv 1) (pe_op op_mul (pe_callB (r := rLenS K) call_lenS (by rfl) zN PySem.boot_len (pa_cons (pv 2) pa_nil)) (pv 3)) (nomark _))
(pss_one (ps_ret (pe_ix ix_tup (pv 2) (pe_op op_mod (pe_callTy call_int1 (by rfl) zI bi (pa_cons (pv 1) pa_nil)) (pe_callB (r := rLenS K) call_lenS (by rfl) zN PySem.boot_len (pa_cons (pv 2) pa_nil))) (fun _ _ => rfl))))
pss_nil)
(pss_one (ps_set (i := 1) nd rfl (Or.inl rfl) (pe_op op_sub (pv 1) (pe_op op_mul (pe_callB (r := rLenS K) call_lenS (by rfl) zN PySem.boot_len (pa_cons (pv 2) pa_nil)) (pv 3)))))))
(pss_one (ps_ret pe_non))), ?_⟩
    have lw := hP.len
    refine ⟨a, ws, rfl, hA, fun J wk => for_it wk
      (fun i σ H' => ∃ (mi : Int) (x2 x3 : Option V), σ = [some (.ref a), some (.int mi), x2, x3] ∧ numV (ps.drop i) mi = numV ps m ∧ Same H H')
      ⟨m, none, none, rfl, rfl, .refl _⟩ ?_ ?_ ?_⟩
    · rintro i σ H' hi ⟨mi, x2, x3, rfl, hf, sH⟩ o ho
      exact sH _ _ ho
    · rintro i y σ H' H'' hi ⟨mi, x2, x3, rfl, hf, sH⟩ ⟨rfl, hy⟩
      obtain ⟨⟨pw, pt⟩, hp, q, aw, rfl, hqq, haw⟩ := (hP.same sH).get hy
      have hpw0 : 0 < pw.length := (h9 (pw, pt) (List.mem_of_getElem? hp)).1
      have hpw9 : pw.length ≤ 100000 := (h9 (pw, pt) (List.mem_of_getElem? hp)).2
      have hd : ps.drop i = (pw, pt) :: ps.drop (i + 1) := by
        obtain ⟨g1, g2⟩ := List.getElem?_eq_some_iff.mp hp
        rw [List.drop_eq_getElem_cons g1, g2]
      rw [hd] at hf
      rw [numV] at hf
      have hb : -(2 ^ 64) < ((pw.map V.int).length : Int) ∧ ((pw.map V.int).length : Int) < 2 ^ 64 := by rw [List.length_map]; constructor <;> omega
      have hcm : (0 : Int) < ((pw.map V.int).length : Int) := by rw [List.length_map]; omega
      refine ⟨q, [.ref aw, .int pt], rfl, SqT.of hqq, rfl, .ref aw, [.int pt], rfl, .int pt, [], rfl, rfl, ?_⟩
      refine ⟨_, rfl, _, rfl, aw, _, rfl, .inr (SqT.of haw), _, rfl, _, pt, rfl, rfl, .inl hb, mi, _, rfl, rfl, _, rfl, ?_⟩
      dsimp only
      rw [List.length_map]
      refine ite2 (fun hlt => ?_) (fun hge => ?_)
      · rw [if_pos (by simpa using hlt)] at hf
        have e0 : 0 ≤ mi % (pw.length : Int) := Int.emod_nonneg _ (by omega)
        have e9 : mi % (pw.length : Int) < (pw.length : Int) := Int.emod_lt_of_pos _ (by omega)
        obtain ⟨j, hj⟩ : ∃ j : Nat, mi % (pw.length : Int) = (j : Int) := ⟨_, (Int.toNat_of_nonneg e0).symm⟩
        rw [hj, Int.toNat_natCast] at hf
        have hjl : j < pw.length := by omega
        have hx : pw[j]? = some (pw.getD j 0) := by
          rw [List.getD_eq_getElem?_getD, List.getElem?_eq_getElem hjl]
          rfl
        refine ⟨_, rfl, _, rfl, .inl ⟨mi, rfl, _, rfl, aw, _, rfl, .inr (SqT.of haw), mi, _, rfl, rfl, hcm, ?_⟩⟩
        dsimp only
        rw [List.length_map, hj]
        refine ⟨aw, _, _, .int (pw.getD j 0), rfl, rfl, SqT.of haw, atI_nat (by rw [List.getElem?_map, hx]; rfl), ?_⟩
        rw [hf]
        exact k _ sH
      · rw [if_neg (by simpa using hge)] at hf
        refine ⟨_, rfl, _, rfl, aw, _, rfl, .inr (SqT.of haw), _, rfl, _, pt, rfl, rfl, .inl hb, mi, _, rfl, rfl, ?_⟩
        dsimp only
        rw [List.length_map]
        exact ⟨_, some (.ref aw), some (.int pt), rfl, hf, sH⟩
    · rintro σ H' ⟨mi, x2, x3, rfl, hf, sH⟩
      rw [lw, List.drop_length] at hf
      have q := k H' sH
      rw [← hf] at q
      exact q
end
end K23
namespace K23
open PySem PySem.Spec PyProof.Rows L2 RwM Rw EV
abbrev sStrips : Stmt := top 42
/-- words and times of a drawn row -/
def GoodS (ps : PS) : Prop := ∀ q ∈ ps, 1 ≤ q.1.length ∧ q.1.length ≤ 4 ∧ (∀ z ∈ q.1, 0 ≤ z ∧ z ≤ 3) ∧ 0 ≤ q.2 ∧ q.2 ≤ 10 ^ 300
def spStrips : Sp := fun vs H Q _ => ∃ (p l : Addr) (ns : List Int) (n : Nat), vs = [.ref p] ∧ TapeAt H p l ns n ∧ n ≤ 800000 ∧
  ∀ (r : Addr) (ws : List V) (ps : PS) (n' : Nat) (H' : Hp), But p H H' → H r = none → TapeAt H' p l ns n' → n' ≤ n + 100 → H' r = some (.lst ws) → Prs H' ws ps → 1 ≤ ps.length → ps.length ≤ 4 →
    GoodS ps → Q (.ref r) H'
/-- the scope of the comprehension in the def's second row -/
def scOf1 (s : Stmt) : Scope := match defBody s with
  | [_, .Assign _ (.ListComp _ _ sc _) _, _] => sc
  | _ => defScope s
theorem pair_snoc {α β : Type} {R : α → β → Prop} {x : α} {y : β} : ∀ {xs : List α} {ys : List β}, Paired R xs ys → R x y → Paired R (xs ++ [x]) (ys ++ [y])
  | _, _, .nil, h => .cons h .nil
  | _, _, .cons a r, h => .cons a (pair_snoc r h)
theorem pair_get {α β : Type} {R : α → β → Prop} {x : α} : ∀ {xs : List α} {ys : List β} {i : Nat}, Paired R xs ys → xs[i]? = some x → ∃ y, ys[i]? = some y ∧ R x y
  | _, _, _, .nil, e => by simp at e
  | _, _, 0, .cons r _, e => ⟨_, rfl, by cases e; exact r⟩
  | _, _, i + 1, .cons _ r, e => pair_get (i := i) r e
theorem cap300 : (10 : Int) ^ (300 : Int).toNat = 10 ^ 300 := by decide +kernel
theorem cap0 : (0 : Int) ≤ 10 ^ (300 : Int).toNat := by decide +kernel
theorem cap9 : (10 : Int) ^ (300 : Int).toNat < 10 ^ 400 := by decide +kernel
def WordsAt (H : Hp) (us : List V) (wss : List (List Int)) : Prop := Paired (fun v u => ∃ a, v = V.ref a ∧ H a = some (.tup (u.map V.int))) us wss
def GoodWs (wss : List (List Int)) : Prop := ∀ u ∈ wss, 1 ≤ u.length ∧ u.length ≤ 4 ∧ ∀ z ∈ u, 0 ≤ z ∧ z ≤ 3
theorem WordsAt.tape {k : Addr} {kv : List (Key × V)} {H H' : Hp} {us : List V} {wss : List (List Int)} (h : WordsAt H us wss) (hk : H k = some (.dK kv)) (s : But k H H') : WordsAt H' us wss :=
  L2.Paired.mapP h fun _ _ ⟨a, e, h1⟩ => ⟨a, e, s _ _ (ne_of h1 hk (by intro z; cases z)) h1⟩
theorem WordsAt.but {D : Addr} {xs : List V} {H H' : Hp} {us : List V} {wss : List (List Int)} (h : WordsAt H us wss) (hD : H D = some (.lst xs)) (s : But D H H') : WordsAt H' us wss :=
  L2.Paired.mapP h fun _ _ ⟨a, e, h1⟩ => ⟨a, e, s _ _ (ne_of h1 hD (by intro z; cases z)) h1⟩
section
variable {P : Program} {w : World} {K : PySem.W.Frag} {mg : Str → Option Value} {base : Heap}
abbrev nmStrips : List Str := ["_law_tape", "_law_cap", "_law_words", "_law_k", "_law_n", "_law_word"]
theorem scStrips : FnScope nmStrips ["_law_tape"] (defScope sStrips) := ⟨rfl, rfl, rfl, by decide +kernel, rfl, by decide +kernel, by decide +kernel⟩
theorem ok_strips {f fD fP fT fG : Addr} {fd fdD fdP fdT fdG : FuncData} (F : Fun K "_law_strips" "_law_strips" sStrips f fd) (zT : mg "tuple" = none) (zR : mg "range" = none) (GD : FnOk P w K mg base CX0 1 fD fdD ["_law_tape", "_law_limit"] spDraw)
    (AD : At K mg "_law_draw" fD fdD ["_law_tape", "_law_limit"]) (GP : FnOk P w K mg base CX0 2 fP fdP nmPick spPick) (AP : At K mg "_law_pick" fP fdP nmPick)
    (GT : FnOk P w K mg base CX0 1 fT fdT ["_law_figures"] spTen) (AT : At K mg "_law_ten" fT fdT ["_law_figures"]) (GG : FnOk P w K mg base CX0 3 fG fdG ["_law_tape", "_law_cap"] spGreat) (AG : At K mg "_law_great" fG fdG ["_law_tape", "_law_cap"]) : FnOk P w K mg base CX0 4 f fd ["_law_tape"] spStrips := by
  refine F.ok scStrips (fun vs H Q E h => ?_) (fun cdv A outer s H vs Q E hr h => ?_)
  · obtain ⟨p, l, ns, n, rfl, _⟩ := h
    rfl
  · obtain ⟨p, l, ns, n, rfl, hT, hn, k⟩ := h
    have nd := scStrips.nd
    have hr1 := hr.mono (show 1 ≤ 3 by decide)
    have hr2 := hr.mono (show 2 ≤ 3 by decide)
    have bt : bootBuiltins "tuple" = some (.type "tuple") := by decide +kernel
    refine ⟨_, (pss_cons (ps_set (i := 1) nd rfl (Or.inr rfl) (pe_call GT hr1 rfl AT.mg AT.kp AT.bd .nil pass0 (pa_cons pe_int pa_nil)))
(pss_cons (ps_setLc (i := 2) (own := [("_law_k", 3)]) (g := gName 3) (tt := tYes) rfl nd rfl rfl (sw_true rfl rfl rfl (by decide +kernel)) (pi_range1 rfl zR (pa_cons (pe_op op_add pe_int (pe_call GD hr1 rfl AD.mg AD.kp AD.bd .nil pass0 (pa_cons (pv 0) (pa_cons pe_int pa_nil)))) pa_nil)) (blkOk_by (N := nmStrips) (sc := defScope sStrips) (by decide +kernel)) (fun _ _ _ _ _ => pg_name (i := 3) nd rfl (Or.inl rfl)) (fun _ _ _ _ _ => pts_nil) (fun _ _ _ _ _ => (pe_callTy (r := rTupO K) call_tupO (by rfl) zT bt (pa_cons (pe_lc (own := [("_law_n", 4)]) (g := gName 4) (tt := tYes) rfl nd (pi_range1 rfl zR (pa_cons (pe_op op_add pe_int (pe_call GD hr1 rfl AD.mg AD.kp AD.bd .nil pass0 (pa_cons (pv 0) (pa_cons pe_int pa_nil)))) pa_nil)) (blkOk_by (N := nmStrips) (sc := relS (scOf1 sStrips) (defScope sStrips)) (by decide +kernel)) (fun _ _ _ _ _ => pg_name (i := 4) nd rfl (Or.inl rfl)) (fun _ _ _ _ _ => pts_nil) (fun _ _ _ _ _ => (pe_call GD hr1 rfl AD.mg AD.kp AD.bd .nil pass0 (pa_cons (pv 0) (pa_cons (pe_call GP hr2 rfl AP.mg AP.kp AP.bd .nil pass0 (pa_cons (pv 0) (pa_cons (pe_lst (pa_cons pe_int (pa_cons pe_int (pa_cons pe_int pa_nil)))) pa_nil))) pa_nil))))) pa_nil))))
(pss_one (ps_ret (pe_lc (own := [("_law_word", 5)]) (g := gName 5) (tt := tYes) rfl nd (pi_list (pv 2)) (blkOk_by (N := nmStrips) (sc := defScope sStrips) (by decide +kernel)) (fun _ _ _ _ _ => pg_name (i := 5) nd rfl (Or.inl rfl)) (fun _ _ _ _ _ => pts_nil) (fun _ _ _ _ _ => (pe_tup (pa_cons (pv 5) (pa_cons (pe_call GG hr rfl AG.mg AG.kp AG.bd .nil pass0 (pa_cons (pv 0) (pa_cons (pv 1) pa_nil))) pa_nil))))))))), ?_⟩
    refine ⟨300, rfl, ten300, ?_⟩
    refine gN ?_
    dsimp only [List.set]
    refine ⟨_, rfl, p, l, ns, n, 4, rfl, hT, by omega, by decide, by decide +kernel, fun d H1 b1 T1 d0 d1 => ?_⟩
    refine ⟨_, _, rfl, rfl, _, rfl, by omega, by omega, fun D hD => ?_⟩
    have pD := T1.ne hD
    have lD := T1.neL hD
    refine lc_it walk_range (fun i H2 => But p H H2 ∧ ∃ us wss m, TapeAt H2 p l ns m ∧ m ≤ n + 1 + 9 * i ∧ H2 D = some (.lst us) ∧ WordsAt H2 us wss ∧ wss.length = i ∧ GoodWs wss) ?_ (fun _ _ _ _ => trivial) ?_ ?_
    · exact ⟨b1.trans (But.of (sameNew hD)), [], [], n + 1, T1.same (sameNew hD), by omega, upd_same, .nil, rfl, fun q hq => absurd hq (by simp)⟩
    · rintro i x G G1 hi ⟨bG, us, wss, m, TG, hm, hDG, hP, hlen, hW⟩ ⟨rfl, rfl⟩
      refine ⟨rfl, _, rfl, p, l, ns, m, 4, rfl, TG, by omega, by decide, by decide +kernel, fun d2 H2 b2 T2 e0 e1 => ?_⟩
      refine ⟨_, _, rfl, rfl, _, rfl, by omega, by omega, fun D2 hD2 => ?_⟩
      have pD2 := T2.ne hD2
      have lD2 := T2.neL hD2
      have hDH2 := b2 _ _ (Ne.symm pD) hDG
      have DD2 : D ≠ D2 := ne_of_none hDH2 hD2
      obtain ⟨kv, ekv⟩ := TG.pt
      have P2 := WordsAt.tape hP ekv b2
      refine lc_it walk_range (fun j H3 => But p H2 H3 ∧ ∃ (zs : List Int) (m2 : Nat), TapeAt H3 p l ns m2 ∧ m2 ≤ m + 1 + 2 * j ∧ H3 D2 = some (.lst (zs.map V.int)) ∧ zs.length = j ∧ ∀ z ∈ zs, 0 ≤ z ∧ z ≤ 3) ?_ (fun _ _ _ _ => trivial) ?_ ?_
      · exact ⟨But.of (sameNew hD2), [], m + 1, T2.same (sameNew hD2), by omega, upd_same, rfl, fun z hz => absurd hz (by simp)⟩
      · rintro j x G2 G3 hj ⟨bI, zs, m2, TI, hm2, hI, hl2, hz⟩ ⟨rfl, rfl⟩
        refine ⟨rfl, _, rfl, _, rfl, by show 3 ≤ sizeLine; decide, fun L hL => ?_⟩
        have sL := sameNew (o := .lst [.int 1, .int 2, .int 4]) hL
        refine ⟨p, l, L, ns, m2, [.int 1, .int 2, .int 4], rfl, TI.same sL, by omega, upd_same, by show 0 < 3; decide, by show 3 ≤ 1000; decide, fun jj v H4 hv T4 b4 => ?_⟩
        obtain ⟨z, rfl, z0, z4⟩ : ∃ z : Int, v = .int z ∧ 0 < z ∧ z ≤ 4 := by
          match jj, hv with
          | 0, hv => exact ⟨1, (Option.some.inj hv).symm, by decide, by decide⟩
          | 1, hv => exact ⟨2, (Option.some.inj hv).symm, by decide, by decide⟩
          | 2, hv => exact ⟨4, (Option.some.inj hv).symm, by decide, by decide⟩
        refine ⟨p, l, ns, m2 + 1, z, rfl, T4, by omega, z0, Int.le_trans z4 (by decide +kernel), fun y H5 b5 T5 y0 y9 => ?_⟩
        have bb := ((But.of sL).trans b4).trans b5
        refine ⟨_, bb _ _ (Ne.symm pD2) hI, by rw [List.length_map, sizeLine_eq]; omega, But.updN (bI.trans bb) hD2, zs ++ [y], m2 + 2, T5.upd pD2 lD2, by omega, ?_, by rw [List.length_append, hl2]; rfl, fun q hq => ?_⟩
        · rw [upd_same, List.map_append]; rfl
        · rcases List.mem_append.mp hq with h | h
          · exact hz q h
          · rw [List.mem_singleton.mp h]; omega
      · rintro G2 ⟨bI, zs, m2, TI, hm2, hI, hl2, hz⟩
        dsimp only [tNil]
        refine tupO (.inl hI) fun t G3 sT ht => ?_
        have bA : But p H2 G3 := bI.trans (But.of sT)
        obtain ⟨kv2, ekv2⟩ := T2.pt
        have P4 := WordsAt.tape P2 ekv2 bA
        have hD4 := bA _ _ (Ne.symm pD) hDH2
        have bF : But D G3 (upd G3 D (.lst (us ++ [.ref t]))) := fun c o nc e => by rw [upd_ne nc]; exact e
        have lul : us.length = wss.length := Paired.length P4
        refine ⟨us, hD4, by rw [lul, hlen, sizeLine_eq]; omega, ?_, us ++ [.ref t], wss ++ [zs], m2, (TI.same sT).upd pD lD, by omega, upd_same, WordsAt.but (pair_snoc P4 ⟨t, rfl, ht⟩) hD4 bF, by rw [List.length_append, hlen]; rfl, fun y hy => ?_⟩
        · intro c o nc e
          have ncD : c ≠ D := ne_of_none e (But.free b1 (Ne.symm pD) hD)
          rw [upd_ne ncD]
          exact bA c o nc (b2 c o nc (bG c o nc e))
        · rcases List.mem_append.mp hy with h | h
          · exact hW y h
          · rw [List.mem_singleton.mp h]
            exact ⟨by omega, by omega, hz⟩
    · rintro G ⟨bG, us, wss, m, TG, hm, hDG, hP, hlen, hW⟩
      refine gN ?_
      dsimp only [List.set]
      have lul : us.length = wss.length := Paired.length hP
      refine ⟨_, rfl, D, rfl, ⟨_, SqL.of hDG⟩, fun D3 hD3 => ?_⟩
      have pD3 := TG.ne hD3
      have lD3 := TG.neL hD3
      obtain ⟨kvG, ekvG⟩ := TG.pt
      have DD3 : D ≠ D3 := ne_of_none hDG hD3
      have hwl : wss.length = (1 + d).toNat := hlen
      refine lc_it (walk_list (xs := us)) (fun i H2 => But p G H2 ∧ ∃ (qs : List V) (ps : PS) (m2 : Nat), TapeAt H2 p l ns m2 ∧ m2 ≤ m + 4 * i ∧ H2 D3 = some (.lst qs) ∧ Prs H2 qs ps ∧ ps.length = i ∧ GoodS ps) ?_ ?_ ?_ ?_
      · exact ⟨But.of (sameNew hD3), [], [], m, TG.same (sameNew hD3), by omega, upd_same, .nil, rfl, fun q hq => absurd hq (by simp)⟩
      · rintro i H2 hi ⟨b2, qs, ps, m2, TI, hm2, hq, hPq, hl2, hG⟩
        exact SqL.of (b2 _ _ (Ne.symm pD) hDG)
      · rintro i y H2 H3 hi ⟨b2, qs, ps, m2, TI, hm2, hq, hPq, hl2, hG⟩ ⟨rfl, hy⟩
        obtain ⟨u, hu, a, rfl, ha⟩ := pair_get hP hy
        have ha3 := b2 _ _ (ne_of ha ekvG (by intro z; cases z)) ha
        have hgu := hW u (List.mem_of_getElem? hu)
        refine ⟨rfl, _, rfl, _, rfl, _, rfl, p, l, ns, m2, _, rfl, TI, by omega, cap0, cap9, fun g n' H4 b4 T4 hn' g0 g9 => ?_⟩
        refine ⟨by show 2 ≤ sizeLine; decide, fun q hq' => ?_⟩
        have sq := sameNew (o := .tup [.ref a, .int g]) hq'
        have bA := b4.trans (But.of sq)
        obtain ⟨kv3, ekv3⟩ := TI.pt
        have P4 := Prs.tape hPq ekv3 bA
        have ha4 := b4 _ _ (ne_of ha3 ekv3 (by intro z; cases z)) ha3
        have PA : PairAt (upd H4 q (.tup [.ref a, .int g])) (.ref q) (u, g) := ⟨q, a, rfl, upd_same, sq _ _ ha4⟩
        have hD4 := bA _ _ (Ne.symm pD3) hq
        have T5 := T4.same sq
        have bF : But D3 (upd H4 q (.tup [.ref a, .int g])) (upd (upd H4 q (.tup [.ref a, .int g])) D3 (.lst (qs ++ [.ref q]))) := fun c o nc e => by rw [upd_ne nc]; exact e
        refine ⟨qs, hD4, by rw [hPq.len, hl2, sizeLine_eq]; omega, But.updN (b2.trans bA) hD3, qs ++ [.ref q], ps ++ [(u, g)], n', T5.upd pD3 lD3, by omega, upd_same, Prs.but (Prs.snoc P4 PA) hD4 bF, by rw [List.length_append, hl2]; rfl, fun y hy2 => ?_⟩
        rcases List.mem_append.mp hy2 with h | h
        · exact hG y h
        · rw [List.mem_singleton.mp h]
          exact ⟨hgu.1, hgu.2.1, hgu.2.2, g0, Int.le_trans g9 (Int.le_of_eq cap300)⟩
      · rintro H2 ⟨b2, qs, ps, m2, TI, hm2, hq, hPq, hl2, hG⟩
        exact k D3 qs ps m2 H2 (bG.trans b2) (But.free bG (Ne.symm pD3) hD3) TI (by omega) hq hPq (by omega) (by omega) hG
end
end K23
/-! a try with several clauses «except X as n:», all with one name n -/
namespace TryN
open PySem PySem.Spec PyProof.Rows L2
/-- what the suite of a clause does: told by where the exception stands, its class and its dict -/
abbrev Sui := Addr → Value → Option Addr → TS
/-- behind a suite the name in slot i is gone -/
def gone (i : Nat) (D : Ends) : Ends where
  nx σ G := D.nx (σ.set i none) G
  rt := D.rt
  bk σ G := D.bk (σ.set i none) G
  ct σ G := D.ct (σ.set i none) G
def wants (K : PySem.W.Frag) (i : Nat) (Wo : WX) (D : Ends) : List (Value × Sui) → WX
  | [] => Wo
  | (k, t) :: r => fun cls d σ G => ∃ b, PySem.W.exmOne K cls k = some b ∧
      (b = true → ∀ a, G a = none → t a cls d (gone i D) (σ.set i (some (.ref a))) G) ∧ (b = false → wants K i Wo D r cls d σ G)
inductive Cls (X : Cx) (n : Str) : List ExceptHandler → List (Value × Sui) → Prop
  | nil : Cls X n [] []
  | cons {x : Str} {k : Value} {t : Sui} {b1 : Stmt} {bs : List Stmt} {q1 q2 : Pos} {hds : List ExceptHandler} {l : List (Value × Sui)} (hc : Names X x k)
      (ht : ∀ (a : Addr) (oe : Obj) (cls : Value) (d : Option Addr) (pp : List (Addr × Obj)), Zc cls d oe → (∃ vs, oe.data = .fields vs) → PSs (X.suite a ((a, oe) :: pp)) (b1 :: bs) (t a cls d)) (rest : Cls X n hds l) :
      Cls X n (.ExceptHandler (some (.Name x q1)) (some n) (b1 :: bs) q2 :: hds) ((k, t) :: l)
section
variable {X : Cx} {n : Str} {i : Nat} {body : List Stmt} {h1 : ExceptHandler} {hds : List ExceptHandler} {l : List (Value × Sui)} {pos : Pos} {tb : WX → TS} {Wo : WX}
theorem ps_tryN (hs : X.stack = X.env :: X.outer) (hf : X.env.frame = some X.env.locals) (hN : X.N.Nodup) (hi : X.N[i]? = some n) (hln : X.env.kindOf n = some .local) (tk : Takes X Wo)
    (hb : ∀ (W : WX) (pp : List (Addr × Obj)) (xe : Value → Shared → Prop), Takes (X.tr pp xe) W → PassesOwn (model X.prog X.w) X.A X.env xe → PSs (X.tr pp xe) body (tb W))
    (hh : Cls X n (h1 :: hds) l) : PS X (.Try body (h1 :: hds) [] [] pos) (fun D σ G => tb (wants X.K i Wo D l) D σ G) := by
  refine ⟨fun pins s0 σ G D I hyp => ?_⟩
  have good := I.ok
  have fr0 : X.A.frames = some (X.env :: X.outer) := by rw [good.frames, hs]
  have locn : Loc X.env.scope n := .inl hln
  refine wpAny_Try_except ?_
  refine wpAny_mono ((hb (wants X.K i Wo D l) (X.pn ++ pins) (fun z s1 => wpAny (model X.prog X.w) X.A (noteFrame z X.env) (fun _ s2 => wpAny (model X.prog X.w) X.A (setFlight z none) (fun _ s3 =>
    wpAny (model X.prog X.w) X.A (handleBy z X.env (h1 :: hds)) (SP X pins D) X.xe s3) X.xe s2) X.xe s1) (fun u sA xx => ?_) PassesOwn.looking).run [] s0 σ G D (I.toTry _) hyp) (fun fl s1 out => ?_) (fun z s1 hz => hz)
  · obtain ⟨a, B, sI, pinsI, σI, GI, cls, d, rfl, JI, nb, up, sky, na, os, ag, want⟩ := xx
    have J0 : Inv X pins σI GI sI := JI.ofTry good
    have sky0 : Sky B (X.env :: X.outer) a (Zc cls d) X.env.locals sA.heap := by rw [← hs]; exact sky
    show wpAny (model X.prog X.w) X.A (noteFrame (.ref a) X.env) _ _ _
    refine Sky.land Zc.steady fr0 hf sky0 fun hA flA upA => ?_
    have JA : Inv X pins σI GI { sA with heap := hA } := J0.landed nb flA.1 (up.trans upA) os ag
    obtain ⟨oA, vA, gA, zA, dA⟩ := flA.there
    have offF : ∀ {h : Heap} {o : Obj} {vs : Array Value}, h.FunFrames B (X.env :: X.outer) → h.get? a = some o → o.data = .fields vs → a ∉ frs (X.env :: X.outer) := fun {h o vs} ff e dd mem => by
      obtain ⟨_, o2, e2, isnt⟩ := ff.mem mem
      rw [e] at e2; cases e2
      exact isnt _ dd
    have out0 := offF flA.2.2.1 gA dA
    have noL : a ≠ X.env.locals := fun z => out0 (List.mem_filterMap.mpr ⟨X.env, List.mem_cons_self, by rw [hf, z]⟩)
    have noF : a ∉ X.fs := fun mem => by
      obtain ⟨e, he, q⟩ := List.mem_filterMap.mp mem
      exact out0 (List.mem_filterMap.mpr ⟨e, List.mem_cons_of_mem _ he, q⟩)
    have SA := JA.suite gA dA na noL noF
    have go : ∀ {hds2 : List ExceptHandler} {l2 : List (Value × Sui)}, Cls X n hds2 l2 → wants X.K i Wo D l2 cls d σI GI →
        wpAny (model X.prog X.w) X.A (handleBy (.ref a) X.env hds2) (SP X pins D) X.xe { sA with heap := hA } := by
      intro hds2 l2 hk
      induction hk with
      | nil =>
        intro w
        refine wpAny_handleBy_nil ?_
        obtain ⟨k1, k2, k3, oe, vs, T, oT, tz, e1, e2, e3, e4, e5⟩ := id flA
        unfold PySem.passOn
        refine wpAny_bind (wpAny_field e1 e3 e4 ?_)
        rw [if_neg (show ¬ ((Value.ref T == Value.none) = true) from by simp)]
        have last : wpAny (model X.prog X.w) X.A (setFlight (.ref a) X.env.frame) (fun _ sB => wpAny (model X.prog X.w) X.A (throw (.ref a) : Sem Flow) (SP X pins D) X.xe sB) X.xe { sA with heap := hA } := by
          rw [hf]
          refine HandSPX.setFlight_upZ flA fun hB skyB upB => wpAny_throw (tk _ _ ?_)
          exact ⟨a, B, sI, pins, σI, GI, cls, d, rfl, J0, nb, (up.trans upA).trans upB, .inr (.inr (by rw [hs]; exact skyB)), na, os, ag, w⟩
        first
          | exact wpAny_bind (wpAny_pure (wpAny_bind last))
          | exact wpAny_bind last
      | @cons x k t b1 bs q1 q2 hds3 l3 hc ht rest ih =>
        intro w
        obtain ⟨b, eb, yes, no⟩ := w
        refine wpAny_handleBy_cons (codeAny_handlers_test ?_) (by intro q; cases q)
        have LT : PySem.W.Looks (model X.prog X.w) hA (typeOf (.ref a)) cls := fun A Q E s kk q => wpAny_typeOf_ref (kk _ _ gA) (by rw [zA.1]; exact q)
        have LM := PySem.W.exm_one (M := model X.prog X.w) (JA.kIn) LT eb
        have test : ∀ {Q : Value → Shared → Prop} {E : Value → Shared → Prop}, Q k { sA with heap := hA } → wpAny (model X.prog X.w) (X.A.mark (some (.ref a))) (eval (.Name x q1) X.env) Q E { sA with heap := hA } := fun {Q E} q => by
          obtain ⟨hg, hdbg, hm | ⟨hm, hv, hnn⟩⟩ := hc
          · exact ld_glob (X := X.suite a ((a, oA) :: (X.pn ++ pins))) SA hg hm q hdbg
          · exact ld_blt (X := X.suite a ((a, oA) :: (X.pn ++ pins))) SA hg hm hv q hnn hdbg
        refine test (LM.here ?_)
        cases b with
        | true =>
          refine codeAny_handlers_suite_as ?_
          refine HandSPX.lands_againZ flA fun hB flB upB => ?_
          have JB : Inv X pins σI GI { sA with heap := hB } := J0.landed nb flB.1 ((up.trans upA).trans upB) os ag
          obtain ⟨oB, vB, gB, zB, dB⟩ := flB.there
          have SB := JB.suite gB dB na noL noF
          refine store_ok (X := X.suite a ((a, oB) :: (X.pn ++ pins))) (v := .ref a) SB hN hi locn rfl (fun sC SC => ?_) (.inr hln)
          refine wpAny_mono ((ht a oB cls d (X.pn ++ pins) zB ⟨_, dB⟩).run [] sC _ GI _ SC (yes rfl a na)) (fun fl sD out => ?_) (fun _ _ z => False.elim z)
          have fin : ∀ {σD : L2.St} {GD : Hp} {Q : Shared → Prop}, Inv (X.suite a ((a, oB) :: (X.pn ++ pins))) [] σD GD sD → (∀ sE, Inv X pins (σD.set i none) GD sE → Q sE) →
              wpAny (model X.prog X.w) X.A (do bindName X.env n .none; unbindBehindTheSuite X.env n q2) (fun _ sE => Q sE) X.xe sD := fun {σD GD Q} SD hq => gone_ok (SD.unsuite good) hN hi hln hq
          cases fl with
          | next =>
            obtain ⟨σD, GD, SD, qD⟩ := out
            exact fin SD fun sE JE => ⟨_, _, JE, qD⟩
          | brk =>
            obtain ⟨σD, GD, SD, qD⟩ := out
            exact fin SD fun sE JE => ⟨_, _, JE, qD⟩
          | cont =>
            obtain ⟨σD, GD, SD, qD⟩ := out
            exact fin SD fun sE JE => ⟨_, _, JE, qD⟩
          | ret u =>
            obtain ⟨vD, σD, GD, SD, rD, qD⟩ := out
            exact fin SD fun sE JE => ⟨_, _, _, JE, rD, qD⟩
        | false =>
          show wpAny _ X.A (handleBy (.ref a) X.env hds3) _ _ _
          exact ih (no rfl)
    exact go hh want
  · cases fl with
    | next =>
      obtain ⟨σD, GD, JD, q⟩ := out
      exact wpAny_execs_nil ⟨σD, GD, JD.ofTry good, q⟩
    | brk =>
      obtain ⟨σD, GD, JD, q⟩ := out
      exact ⟨σD, GD, JD.ofTry good, q⟩
    | cont =>
      obtain ⟨σD, GD, JD, q⟩ := out
      exact ⟨σD, GD, JD.ofTry good, q⟩
    | ret u =>
      obtain ⟨vD, σD, GD, JD, r, q⟩ := out
      exact ⟨vD, σD, GD, JD.ofTry good, r, q⟩
end
end TryN
namespace EV
open PySem PySem.Spec PyProof.Rows L2
/-- an own exception class without an __init__ of its own -/
structure Err0 (K : PySem.W.Frag) (mg : Str → Option Value) (x : Str) (C : Addr) : Prop where
  ex : PySem.W.excIn K C [.type "ValueError", .type "Exception", .type "BaseException", .type "object"] "ValueError.__new__" = true
  gC : mg x = some (.ref C)
  kC : PySem.W.keepIn K (.ref C) = true
  exC : PySem.W.subIn K (.ref C) (.type "BaseException") = some true
  tyC : PySem.W.typeIn K (.ref C) = some (.type "type")
section
variable {X : Cx} {x : Str} {C : Addr} {p pos : Pos}
theorem pmk_er0 (T : Err0 X.K X.mg x C) (hg : Gl X x) (hdb : (x == ("__debug__" : Str)) = false := by decide) :
    PMk X (.Call (.Name x p) [] [] pos) (fun _ H Q => Q (.ref C) none H) := by
  intro pins s σ H Q I q
  refine wpAny_Call_Name_kw (ld_glob I hg T.gC ?_ hdb)
  refine PySem.W.callWith_K0 I.kIn T.kC ?_
  show wpAny _ _ (call (.ref C) []) _ _ _
  obtain ⟨bm, N, nm, qn, bs, hdct, sn, sub, ab, col, dd, k0, k1, k2, k3, k5, mN, hC, hN, hni, W⟩ := exc_obj I.kIn T.ex
  refine wpAny_call_exc_subT F.excBase_ValueError W hC hN hni (fun h' e hm => ?_) (by rw [sizeLine_eq]; decide)
  exact mk_of I hm (raises_own T.exC T.tyC) q (I.hok.gone hm.new)
/-- kept -/
theorem pe_er0 (T : Err0 X.K X.mg x C) (hg : Gl X x) (hdb : (x == ("__debug__" : Str)) = false := by decide) :
    PE X (.Call (.Name x p) [] [] pos) (fun _ H Q => ∀ (a : Addr) (H' : Hp), Same H H' → H a = none → H' a = some (exv a C none) → Q (.ref a) H') := by
  refine ⟨fun pins s σ H Q I q => ?_⟩
  refine (pe_val (pmk_er0 (p := p) (pos := pos) T hg hdb)).run pins s σ H Q I ⟨C, rfl, fun a ha => ?_⟩
  refine q a _ (fun b o z => ?_) ha upd_same
  rw [upd_ne (ne_of_none z ha)]
  exact z
/-- an exception held as a value -/
def ExAt (H : Hp) (a C : Addr) : Prop := ∃ d, H a = some (exv a C d) ∧ (d = none ∨ ∃ dx fs, d = some dx ∧ H dx = some (.xd fs))
theorem ExAt.same {H H' : Hp} {a C : Addr} (h : ExAt H a C) (s : Same H H') : ExAt H' a C := by
  obtain ⟨d, e, z⟩ := h
  refine ⟨d, s _ _ e, ?_⟩
  rcases z with z | ⟨dx, fs, z, e2⟩
  · exact .inl z
  · exact .inr ⟨dx, fs, z, s _ _ e2⟩
theorem inst_at {pins : List (Addr × Obj)} {σ : L2.St} {H : Hp} {s : Shared} {a : Addr} (I : Inv X pins σ H s) (h : ExAt H a C) : ∃ oe od, PySem.W.InstAt s.heap a oe C od := by
  obtain ⟨d, e, z⟩ := h
  obtain ⟨⟨oe, vs, ho, hc, hdi, hda⟩, _, _⟩ : ObjOk X.prog X.w H s.heap a (exv a C d) := I.hok a _ e
  rcases z with z | ⟨dx, fs, z, e2⟩
  · subst z
    exact ⟨oe, none, ho, hc, by unfold PySem.W.notCls; rw [hda] <;> rfl, by rw [hdi]; trivial⟩
  · subst z
    obtain ⟨mA, hns, hr⟩ : ObjOk X.prog X.w H s.heap dx (.xd fs) := I.hok dx _ e2
    obtain ⟨od, hod, _⟩ := lookIn_ns hns
    exact ⟨oe, some od, ho, hc, by unfold PySem.W.notCls; rw [hda] <;> rfl, by rw [hdi]; exact hod⟩
theorem kit_er {a : Addr} {oe : Obj} {od : Option Obj} (T : ExcC X.K C) : PySem.W.KitX X.K (.ref a) (.ref C) (fun h => PySem.W.InstAt h a oe C od) := by
  obtain ⟨cd, hcd, _⟩ := PySem.W.any_some T.hd
  exact PySem.W.kitx_exc (by rw [hcd]; rfl) T.hg T.hk T.hs T.ha T.hn T.ht T.hm
def rIsX (K : PySem.W.Frag) : List V → Hp → VK → Prop := fun xs H Q => ∃ (a C : Addr) (c : V) (u : Value) (b : Bool), xs = [.ref a, c] ∧ ExAt H a C ∧ ExcC K C ∧ ClsV c u ∧ PySem.W.kitOne K (.ref C) u = some b ∧ Q (.bl b) H
def rIsXT (K : PySem.W.Frag) : List V → Hp → VK → Prop := fun xs H Q => ∃ (a C tp : Addr) (cs : List V) (us : List Value) (b : Bool), xs = [.ref a, .ref tp] ∧ ExAt H a C ∧ ExcC K C ∧ H tp = some (.tup cs) ∧ Paired ClsV cs us ∧ PySem.W.kitAny K (.ref C) us = some b ∧ Q (.bl b) H
theorem call_isX : CallR X (.builtin "isinstance") (rIsX X.K) := by
  intro pins s σ H xs us Q I r ⟨a, D, c, u, b, ex, ha, T, k, e, q⟩
  subst ex
  obtain ⟨u1, u2, rfl, r1, r2⟩ := vals2 r
  cases (show u1 = Value.ref a from r1)
  have e2 := k.eq r2
  subst e2
  obtain ⟨oe, od, J⟩ := inst_at I ha
  exact PySem.W.kia_one (kit_er T) I.kIn J e (fun z => nomatch z) fun tk => ⟨.bl b, H, I.tok tk, rfl, q⟩
theorem call_isXT : CallR X (.builtin "isinstance") (rIsXT X.K) := by
  intro pins s σ H xs us Q I r ⟨a, D, tp, cs, ws, b, ex, ha, T, hT, k, e, q⟩
  subst ex
  obtain ⟨u1, u2, rfl, r1, r2⟩ := vals2 r
  cases (show u1 = Value.ref a from r1)
  cases (show u2 = Value.ref tp from r2)
  obtain ⟨oe, od, J⟩ := inst_at I ha
  obtain ⟨_, its, rv, o, h1, h2, n, h3⟩ := (show ObjOk X.prog X.w H s.heap tp (.tup cs) from I.hok tp _ hT)
  have e3 := ClsV.all k rv
  subst e3
  obtain ⟨oc, odd, dt, sl⟩ := o
  simp only at h2 h3
  subst h2 h3
  exact PySem.W.kia_tup (kit_er T) I.kIn J h1 e (fun z => nomatch z) fun tk => ⟨.bl b, H, I.tok tk, rfl, q⟩
end
end EV
namespace K23
open PySem PySem.Spec PyProof.Rows L2 RwM Rw EV TryN
/-- isinstance(e, c), e the caught exception with its dict -/
def rIsP (K : PySem.W.Frag) (a : Addr) (cls : Value) (d : Option Addr) : List V → Hp → VK → Prop := fun xs H Q =>
  ∃ (C dd : Addr) (fs : List (Str × V)) (c : V) (u : Value) (b : Bool), xs = [.ref a, c] ∧ cls = .ref C ∧ d = some dd ∧ H dd = some (.xd fs) ∧ ExcC K C ∧ ClsV c u ∧ PySem.W.kitOne K (.ref C) u = some b ∧ Q (.bl b) H
theorem call_isP {X : Cx} {a : Addr} {cls : Value} {d : Option Addr} {oe : Obj} {pn : List (Addr × Obj)} (hz : Zc cls d oe) (hf : ∃ vs, oe.data = .fields vs) :
    CallR (X.suite a ((a, oe) :: pn)) (.builtin "isinstance") (rIsP X.K a cls d) := by
  intro pins s σ H xs us Q I r ⟨C, dd, fs, c, u, b, ex, ec, ed, hdd, T, k, e, q⟩
  subst ex ec ed
  obtain ⟨u1, u2, rfl, r1, r2⟩ := vals2 r
  cases (show u1 = Value.ref a from r1)
  have e2 := k.eq r2
  subst e2
  obtain ⟨ha, _⟩ := I.pin (a, oe) (List.mem_append_left _ List.mem_cons_self)
  obtain ⟨vs, hd⟩ := hf
  obtain ⟨mA, hns, hr⟩ : ObjOk X.prog X.w H s.heap dd (.xd fs) := I.hok dd _ hdd
  obtain ⟨od, ho, hl⟩ := lookIn_ns hns
  have J : PySem.W.InstAt s.heap a oe C (some od) := ⟨ha, hz.1, by unfold PySem.W.notCls; rw [hd] <;> rfl, by rw [hz.2]; exact ho⟩
  exact PySem.W.kia_one (kit_er T) I.kIn J e (fun z => nomatch z) fun tk => ⟨.bl b, H, I.tok tk, rfl, q⟩
/-- what repr shows -/
def Shown (H : Hp) (v : V) (z : Str) : Prop :=
  (∃ i, v = .int i ∧ i.natAbs.log2 < 1920 ∧ z = toString i) ∨ (v = .bl true ∧ z = "True") ∨ (v = .non ∧ z = "None") ∨ (v = .str "0" ∧ z = "'0'") ∨ (∃ a, v = .ref a ∧ H a = some (.lst [.int 0]) ∧ z = "[0]")
theorem Shown.same {H H' : Hp} {v : V} {z : Str} (h : Shown H v z) (s : Same H H') : Shown H' v z := by
  rcases h with h | h | h | h | ⟨a, h1, h2, h3⟩
  · exact .inl h
  · exact .inr (.inl h)
  · exact .inr (.inr (.inl h))
  · exact .inr (.inr (.inr (.inl h)))
  · exact .inr (.inr (.inr (.inr ⟨a, h1, s _ _ h2, h3⟩)))
theorem call_shown {X : Cx} (hg : X.A.guards = some []) (hu : X.A.units + 64 < cLine) : CallR X (.builtin "repr") (fun xs H Q => ∃ v z, xs = [v] ∧ Shown H v z ∧ Q (.str z) H) := by
  intro pins s σ H xs us Q I r ⟨v, z, ex, h, q⟩
  subst ex
  rcases h with ⟨i, rfl, hi, rfl⟩ | ⟨rfl, rfl⟩ | ⟨rfl, rfl⟩ | ⟨rfl, rfl⟩ | ⟨a, rfl, ha, rfl⟩
  · obtain ⟨u, rfl, t, rfl⟩ := vals1 r
    exact PySem.P.repr_of_int hi ⟨.str _, H, I.tok _, ⟨_, rfl⟩, q⟩
  · obtain ⟨u, rfl, rfl⟩ := vals1 r
    exact PySem.P.repr_of_bool ⟨.str _, H, I.tok _, ⟨_, rfl⟩, q⟩
  · obtain ⟨u, rfl, rfl⟩ := vals1 r
    exact PySem.P.repr_of_none ⟨.str _, H, I.tok _, ⟨_, rfl⟩, q⟩
  · obtain ⟨u, rfl, t, rfl⟩ := vals1 r
    have e : reprText "0" = "'0'" := by decide +kernel
    refine PySem.P.repr_of_str ⟨.str _, H, I.tok _, ⟨_, rfl⟩, by rw [e]; exact q⟩ ?_
    rw [e, sizeLine_eq]
    decide +kernel
  · obtain ⟨u, rfl, rfl⟩ := vals1 r
    obtain ⟨_, its, n, rv, hget⟩ : ObjOk X.prog X.w H s.heap a (.lst [.int 0]) := I.hok a _ ha
    obtain ⟨u, rfl, t, rfl⟩ := vals1 rv
    have rd : Reads s.heap (.ref a) (.list [.int 0]) [a] := reads_list_at hget rfl rfl (.cons (.int 0 t) .nil)
    have e : (PyData.list [.int 0]).shown = "[0]" := by decide +kernel
    have h9 : (PyData.list [.int 0]).depth ≤ 60 := by decide +kernel
    refine repr_of_reads' rd (by decide +kernel) (fun z => absurd z (by decide +kernel)) hg (by omega) (fun _ _ z => z) (fun h' u tk k => ⟨.str _, H, I.kept k, ⟨_, rfl⟩, by rw [e]; exact q⟩) ?_
    rw [e, sizeLine_eq]
    decide +kernel
end K23
namespace K23
open PySem PySem.Spec PyProof.Rows L2 RwM Rw EV TryN LamX
abbrev sRai : Stmt := top 46
abbrev nmRai : List Str := ["_law_call", "_law_found", "e"]
theorem scRai : FnScope nmRai ["_law_call"] (defScope sRai) := ⟨rfl, rfl, rfl, by decide +kernel, rfl, by decide +kernel, by decide +kernel⟩
/-- the classes that the clauses name -/
structure RaiF (K : PySem.W.Frag) (mg : Str → Option Value) (CO CT : Addr) : Prop where
  gO : mg "OutsideRow" = some (.ref CO)
  gT : mg "TooMany" = some (.ref CT)
  xOO : PySem.W.exmOne K (.ref CO) (.ref CO) = some true
  xTO : PySem.W.exmOne K (.ref CT) (.ref CO) = some false
  xTT : PySem.W.exmOne K (.ref CT) (.ref CT) = some true
  fO : XfC K CO
  fT : XfC K CT
  nO : PySem.W.findIn K (.ref CO) "number" = some none
  nT : PySem.W.findIn K (.ref CT) "most" = some none
/-- what is told of an exception of the call -/
def Told2 (CO CT : Addr) (cls : Value) (fs : List (Str × V)) (k : Str) (v : V) : Prop :=
  (cls = .ref CO ∧ fs.lookup ("number" : Str) = some v ∧ k = "outside") ∨ (cls = .ref CT ∧ fs.lookup ("most" : Str) = some v ∧ k = "many")
def eRai (CO CT : Addr) (Q : VK) : XK := fun cls d H => ∃ dd fs k v, d = some dd ∧ H dd = some (.xd fs) ∧ Told2 CO CT cls fs k v ∧
  ∀ (T : Addr) (H' : Hp), Same H H' → H T = none → H' T = some (.tup [.str k, v]) → Q (.ref T) H'
theorem takes_len {X : Cx} {W : WX} {k : Nat} (hk : X.N.length = k) (t : Takes X W) : Takes X (fun c d σ H => σ.length = k → W c d σ H) := fun u s2 ⟨a, B, sI, pins, σ, H, cls, d, e, I, nb, up, sky, na, os, ag, w⟩ =>
  t u s2 ⟨a, B, sI, pins, σ, H, cls, d, e, I, nb, up, sky, na, os, ag, w (I.len.trans hk)⟩
def TRai (CO CT : Addr) : (XK → Hp → VK → Prop) → Hp → VK → Prop := fun tl H Q =>
  tl (eRai CO CT Q) H (fun _ H1 => ∃ v, some (some (V.str "fine")) = some (some v) ∧ Q v H1)
section
variable {X : Cx} {CO CT g : Addr} {cdg : Value} {q : Str}
theorem raised_gives (R : RaiF X.K X.mg CO CT) :
    GivesTo X nmRai "_law_raised" (defScope sRai) g cdg (defBody sRai) "_law_call" q (TRai CO CT) := by
  intro f c' s H Q tl act hc h
  have nd := scRai.nd
  refine ⟨_, (pss_cons (ps_set (i := 1) nd rfl (Or.inl rfl) pe_str)
    (pss_cons (ps_tryN (i := 2) (n := "e") rfl rfl nd rfl rfl LamX.takes0
      (tb := fun W D σ H => ∃ Ech : XK, (∀ cls d σ' H', Ech cls d H' → σ'.length = 3 → W cls d σ' H') ∧ σ[0]? = some (some (.ref f)) ∧ H c' = some (CodeO c' q) ∧ tl Ech H (fun _ H1 => D.nx σ H1))
      (fun W pn xe tk _ => ?_)
      (Cls.cons (k := .ref CO) ⟨rfl, by decide, .inl R.gO⟩ (fun a oe cls d pp hz hf => (pss_one (ps_set (i := 1) nd rfl (Or.inl rfl) (pe_tup (pa_cons pe_str (pa_cons (pe_xf R.fO R.nO hz hf (pv 2)) pa_nil))))))
      (Cls.cons (k := .ref CT) ⟨rfl, by decide, .inl R.gT⟩ (fun a oe cls d pp hz hf => (pss_one (ps_set (i := 1) nd rfl (Or.inl rfl) (pe_tup (pa_cons pe_str (pa_cons (pe_xf R.fT R.nT hz hf (pv 2)) pa_nil)))))) .nil)))
    (pss_one (ps_ret (pv 1))))), ?_⟩
  · refine ⟨fun pins s2 σ H2 D I hyp => ?_⟩
    obtain ⟨Ech, hW, h1, h2, h3⟩ := hyp
    have hq := pss_one (ps_expr (pos := { line := 263, col := 8, endLine := 263, endCol := 19 }) (act _ pn xe Ech { line := 263, col := 8, endLine := 263, endCol := 17 } { line := 263, col := 8, endLine := 263, endCol := 19 } (takes_len (k := 3) rfl tk) hW))
    exact hq.run pins s2 σ H2 D I ⟨h1, h2, h3⟩
  · refine ⟨eRai CO CT Q, ?_, rfl, hc, h⟩
    rintro cls d σ2 G ⟨dd, fs, k, v, rfl, hdd, ht, kk⟩ hlen
    obtain ⟨x0, x1, x2, rfl⟩ : ∃ x0 x1 x2, σ2 = [x0, x1, x2] := by
      match σ2, hlen with
      | [x0, x1, x2], _ => exact ⟨x0, x1, x2, rfl⟩
    rcases ht with ⟨rfl, hl, rfl⟩ | ⟨rfl, hl, rfl⟩
    · refine ⟨true, R.xOO, fun _ a ha => ?_, fun z => nomatch z⟩
      refine ⟨_, rfl, rfl, rfl, dd, fs, v, rfl, hdd, hl, ?_⟩
      exact ⟨by show 2 ≤ sizeLine; decide, fun T hT => ⟨_, rfl, kk T _ (sameNew hT) hT upd_same⟩⟩
    · refine ⟨false, R.xTO, (fun z => nomatch z), fun _ => ⟨true, R.xTT, fun _ a ha => ?_, fun z => nomatch z⟩⟩
      refine ⟨_, rfl, rfl, rfl, dd, fs, v, rfl, hdd, hl, ?_⟩
      exact ⟨by show 2 ≤ sizeLine; decide, fun T hT => ⟨_, rfl, kk T _ (sameNew hT) hT upd_same⟩⟩
end
/-- _law_raised(lambda: ..) -/
theorem pe_raised {X : Cx} {T : List (Addr × Str)} {CO CT g c P : Addr} {fd : FuncData} {k : Nat} {params : Arguments} {body : Expr} {scope : Scope} {t : XK → TE} {p lpos pos : Pos} (Fr : Fun X.K "_law_raised" "_law_raised" sRai g fd) (Ar : At X.K X.mg "_law_raised" g fd ["_law_call"])
    (R : RaiF X.K X.mg CO CT) (hg : Gl X "_law_raised") (TB : TabB X.base X.mg c P) (hcode : X.env.code = .ref c) (hm : (P, X.env.qual ++ "<lambda>") ∈ T)
    (hu : ∀ p ∈ T, p.1 = P → p.2 = X.env.qual ++ "<lambda>") (hr : Room (k + 2) X.A) (L : LamS X.env.scope scope) (hdef : defaultsOf params X.env = ([], []))
    (bind0 : ∀ (q : Str) (cl : List (Str × Addr)) (pm cv ctv : Value), bindArgs (PySem.W.kla_fn "<lambda>" q params body scope cl pm cv ctv) ⟨[], []⟩ = pure [])
    (hbody : ∀ (A : Around) (outer : List Env) (s : Shared) (H : Hp) (E : XK) (f c' : Addr), Room k (A.deeper (lamEnv X scope s.heap.objs.size f c')) → PE (lamCx X A outer s H E scope f c') body (t E)) :
    PE X (.Call (.Name "_law_raised" p) [.Lambda params body scope lpos] [] pos) (tLam T (TRai CO CT) t) := by
  obtain ⟨oc, od, kV, doc, pm, an, cdv, ct, osl, rfl, lk, hcd⟩ := Fr.ex
  exact pe_lamcall hg Ar.mg Ar.kp lk hcd Ar.bd scRai rfl (Or.inl rfl) (raised_gives R) TB hcode hm hu hr L hdef bind0 hbody
end K23
namespace Rw
open PySem PySem.Spec PyProof.Rows L2
open AutoSeq1 (wpAny_loadPart') in
theorem mulWhole (l : Addr) (its : Array Value) (n : Nat) (dd : Option Addr) (sl : Array (Option Value)) (x : Int) (u : Tok) (c0 : (decide (x < -(2 ^ 63)) || decide (x ≥ 2 ^ 63)) = false) (c1 : (its.isEmpty || x == 1) = true) :
    Meets (Builtin.«tuple.__mul__» ⟨[.ref l, .int x u], []⟩) (fun _ R s => s.heap.get? l = some ⟨.type "tuple", dd, .seq its n, sl⟩ ∧ R (.ok (.ret (.ref l))) s) :=
  .of_wp fun P w A R s ⟨hl, h⟩ => by
    obtain ⟨hp, g, d, tk, os⟩ := s
    have f1 := AutoSeq1.idx_int
    wp_walk using wpAny_loadPart' hl
    repeat (first
      | (refine wpAny_ite_false (decide_eq_false (by rw [c0]; exact Bool.false_ne_true)) ?_; wp_walk using wpAny_loadPart' hl)
      | (refine wpAny_ite_true (decide_eq_true (by rw [c1])) ?_; wp_walk using wpAny_loadPart' hl))
    exact ⟨_, rfl, h⟩
open AutoSeq1 (wpAny_loadPart') in
theorem mulNone (l : Addr) (its : Array Value) (n : Nat) (dd : Option Addr) (sl : Array (Option Value)) (x : Int) (u : Tok) (c0 : (decide (x < -(2 ^ 63)) || decide (x ≥ 2 ^ 63)) = false) (c1 : (its.isEmpty || x == 1) = false) (c2 : (decide (x ≤ 0) || its.isEmpty) = true) :
    Meets (Builtin.«tuple.__mul__» ⟨[.ref l, .int x u], []⟩) (fun _ R s => s.heap.get? l = some ⟨.type "tuple", dd, .seq its n, sl⟩ ∧ R (.ok (.ret (.ref s.heap.objs.size))) { s with heap := s.heap.push { cls := .type "tuple", data := .seq #[] } }) :=
  .of_wp fun P w A R s ⟨hl, h⟩ => by
    obtain ⟨hp, g, d, tk, os⟩ := s
    have f1 := AutoSeq1.idx_int
    wp_walk using wpAny_loadPart' hl
    repeat (first
      | (refine wpAny_ite_false (decide_eq_false (by rw [c0]; exact Bool.false_ne_true)) ?_; wp_walk using wpAny_loadPart' hl)
      | (refine wpAny_ite_false (decide_eq_false (by rw [c1]; exact Bool.false_ne_true)) ?_; wp_walk using wpAny_loadPart' hl)
      | (refine wpAny_ite_true (decide_eq_true (by rw [c2])) ?_; wp_walk using wpAny_loadPart' hl))
    exact ⟨_, rfl, h⟩
/-- a tuple times an int -/
def rRepA (K : PySem.W.Frag) : R2 := fun x y H Q => ∃ (l : Addr) (k : Int) (xs : List V), x = .ref l ∧ y = .int k ∧ SqT K H l xs ∧ -(2 ^ 63) ≤ k ∧ k < 2 ^ 63 ∧ (2 ≤ k → k ≤ 1000 ∧ xs.length ≤ 1000) ∧
  ∀ (p : Addr) (H' : Hp), (∀ b o, H b = some o → H' b = some o) → SqT K H' p (List.replicate k.toNat xs).flatten → (H l = some (.tup xs) → H' p = some (.tup (List.replicate k.toNat xs).flatten)) → Q (.ref p) H'
theorem op_repA {X : Cx} : OpR X (binaryOp .Mult) (rRepA X.K) := by
  intro pins s σ H x y v u Q I rx ry ⟨l, k, xs, ex, ey, hT, h1, h2, h3, q⟩
  subst ex ey
  by_cases hne : xs ≠ [] ∧ 2 ≤ k
  · exact op_repT pins s σ H _ _ v u Q I rx ry ⟨l, k, xs, rfl, rfl, hT, hne.1, hne.2, (h3 hne.2).1, (h3 hne.2).2, fun p hp => q p _ (fun b o e => by rw [upd_ne (ne_of_none e hp)]; exact e) (SqT.of upd_same) (fun _ => upd_same)⟩
  · cases rx
    obtain ⟨t, rfl⟩ := ry
    obtain ⟨its, r, ⟨⟨cls, dd, data, sl⟩, ho, hc, n, hd⟩, hs⟩ := I.tuple hT
    simp only at hc hd
    subst hc hd
    have hle : its.length = xs.length := r.length.symm
    have c0 : (decide (k < -(2 ^ 63)) || decide (k ≥ 2 ^ 63)) = false := by rw [decide_eq_false (by omega), decide_eq_false (by omega)]; rfl
    by_cases hw : its = [] ∨ k = 1
    · have c1 : (its.toArray.isEmpty || k == 1) = true := by
        rcases hw with z | z
        · subst z; rfl
        · subst z; exact Bool.or_true _
      have ee : (List.replicate k.toNat xs).flatten = xs := by
        rcases hw with z | z
        · have z2 : xs = [] := List.eq_nil_of_length_eq_zero (by rw [← hle, z]; rfl)
          rw [z2, List.flatten_replicate_nil]
        · subst z; exact List.append_nil _
      refine wpAny_binaryOp_repeat_ref (T := "tuple") (U := "int") (by decide) ⟨_, ho, rfl⟩ (fun s' => typeIs_int s' k t) noFill_tuple_mul F.fills_int_mul F.slot_int_rmul repeat_tuple F.slot_int_index.lookup
        (call_meets F.slot_int_rmul (typeIs_int s k t) F.entry_int_rmul (F.args_int_rmul_2 _ _) (int_rmul_tuple k t l its.toArray n dd sl)
          ⟨ho, rfl, ⟨_, ho, rfl⟩, call_meets F.slot_tuple_mul ⟨_, ho, rfl⟩ F.entry_tuple_mul (F.args_tuple_mul_2 _ _) (mulWhole l its.toArray n dd sl k t c0 c1) ⟨ho, ?_⟩⟩)
      exact ⟨.ref l, H, I, rfl, q l H (fun _ _ e => e) (by rw [ee]; exact hT) (fun z => by rw [ee]; exact z)⟩
    · have hn : its ≠ [] := fun z => hw (.inl z)
      have hk : k ≤ 0 := by
        have z : k ≠ 1 := fun z => hw (.inr z)
        have z2 : ¬ 2 ≤ k := fun z => hne ⟨fun e => hn (List.eq_nil_of_length_eq_zero (by rw [hle, e]; rfl)), z⟩
        omega
      have hi : its.toArray.isEmpty = false := by
        cases its with
        | nil => exact absurd rfl hn
        | cons a b => rfl
      have c1 : (its.toArray.isEmpty || k == 1) = false := by
        rw [hi, Bool.false_or]
        exact beq_eq_false_iff_ne.mpr (by omega)
      have c2 : (decide (k ≤ 0) || its.toArray.isEmpty) = true := by rw [decide_eq_true hk]; rfl
      have ee : (List.replicate k.toNat xs).flatten = [] := by rw [Int.toNat_of_nonpos hk]; rfl
      refine wpAny_binaryOp_repeat_ref (T := "tuple") (U := "int") (by decide) ⟨_, ho, rfl⟩ (fun s' => typeIs_int s' k t) noFill_tuple_mul F.fills_int_mul F.slot_int_rmul repeat_tuple F.slot_int_index.lookup
        (call_meets F.slot_int_rmul (typeIs_int s k t) F.entry_int_rmul (F.args_int_rmul_2 _ _) (int_rmul_tuple k t l its.toArray n dd sl)
          ⟨ho, rfl, ⟨_, ho, rfl⟩, call_meets F.slot_tuple_mul ⟨_, ho, rfl⟩ F.entry_tuple_mul (F.args_tuple_mul_2 _ _) (mulNone l its.toArray n dd sl k t c0 c1 c2) ⟨ho, ?_⟩⟩)
      have fr := I.hok.fresh (Nat.le_refl _)
      refine ⟨.ref s.heap.objs.size, _, I.laid (t' := s.toks) (o := .tup []) (fun b ob q => Heap.get?_push_of_some _ q) (Nat.le_refl _) ⟨by show 0 ≤ sizeLine; exact Nat.zero_le _, _, .nil, IsTup.new _ _⟩, rfl, q _ _ (fun b o e => by rw [upd_ne (ne_of_none e fr)]; exact e) ?_ fun _ => ?_⟩
      · rw [ee]
        exact SqT.of upd_same
      · rw [ee]
        exact upd_same
end Rw
namespace K23
open PySem PySem.Spec PyProof.Rows L2 RwM Rw EV
/-! a stretch told otherwise -/
theorem rep_split (u : List Int) {t f : Int} (h0 : 0 ≤ f) (h1 : f ≤ t) : rep u f ++ rep u (t - f) = rep u t := by
  rw [← rep_add u h0 (by omega)]
  congr 1
  omega
theorem rep_many (u : List Int) {m : Int} (hm : 0 ≤ m) : ∀ k : Nat, rep (rep u m) (k : Int) = rep u (m * k)
  | 0 => by
    rw [rep_zero _ (by omega), rep_zero _ (by omega)]
  | k + 1 => by
    have e : ((k + 1 : Nat) : Int) = (k : Int) + 1 := by omega
    rw [e, rep_add _ (by omega) (by omega), rep_one, rep_many u hm k, Int.mul_add, Int.mul_one, rep_add u (Int.mul_nonneg hm (by omega)) hm]
theorem rep_bundle (u : List Int) {t m : Int} (ht : 0 ≤ t) (hm : 0 < m) : rep (rep u m) (t / m) ++ rep u (t % m) = rep u t := by
  have h0 : 0 ≤ t / m := Int.ediv_nonneg ht (Int.le_of_lt hm)
  obtain ⟨k, hk⟩ : ∃ k : Nat, t / m = (k : Int) := ⟨_, (Int.toNat_of_nonneg h0).symm⟩
  have e : m * (k : Int) + t % m = t := by
    rw [← hk]
    exact Int.mul_ediv_add_emod t m
  rw [hk, rep_many u (Int.le_of_lt hm), ← rep_add u (Int.mul_nonneg (Int.le_of_lt hm) (by omega)) (Int.emod_nonneg _ (by omega)), e]
theorem rep_turn (a b : List Int) : ∀ k : Nat, rep (b ++ a) (k : Int) ++ b = b ++ rep (a ++ b) (k : Int)
  | 0 => by
    rw [rep_zero _ (by omega), rep_zero _ (by omega), List.nil_append, List.append_nil]
  | k + 1 => by
    have e : ((k + 1 : Nat) : Int) = 1 + (k : Int) := by omega
    rw [e, rep_add _ (by omega) (by omega), rep_one, List.append_assoc, rep_turn a b k, rep_add _ (by omega) (by omega), rep_one]
    simp only [List.append_assoc]
theorem rep_round (a b : List Int) {t : Int} (h : 1 ≤ t) : a ++ (rep (b ++ a) (t - 1) ++ b) = rep (a ++ b) t := by
  obtain ⟨k, hk⟩ : ∃ k : Nat, t - 1 = (k : Int) := ⟨_, (Int.toNat_of_nonneg (by omega)).symm⟩
  have e : t = 1 + (k : Int) := by omega
  rw [hk, rep_turn, e, rep_add _ (by omega) (by omega), rep_one, List.append_assoc]
end K23
namespace K23
open PySem PySem.Spec PyProof.Rows L2 RwM Rw EV
abbrev sOth : Stmt := top 45
theorem cutV_take (xs : List V) (k : Nat) : cutV xs none (some (k : Int)) = xs.take k := by
  unfold cutV
  rw [HT.sIx_nat, HT.sIx_none, List.drop_zero, Nat.sub_zero]
  by_cases c : k ≤ xs.length
  · rw [Nat.min_eq_left c]
  · rw [Nat.min_eq_right (by omega), List.take_length, List.take_of_length_le (by omega)]
theorem cutV_drop (xs : List V) (k : Nat) : cutV xs (some (k : Int)) none = xs.drop k := by
  unfold cutV
  rw [HT.sIx_nat, HT.sIx_none]
  by_cases c : k ≤ xs.length
  · rw [Nat.min_eq_left c, List.take_of_length_le (by rw [List.length_drop]; omega)]
  · rw [Nat.min_eq_right (by omega), List.drop_of_length_le (by omega), List.drop_of_length_le (by omega), List.take_nil]
theorem cat_mono {x y : V} {H : Hp} {Q R : VK} (h : rCat x y H Q) (m : ∀ v H', Q v H' → R v H') : rCat x y H R := by
  obtain ⟨l, b, xs, zs, e1, e2, e3, e4, e5, q⟩ := h
  exact ⟨l, b, xs, zs, e1, e2, e3, e4, e5, fun p hp => m _ _ (q p hp)⟩
theorem pair_app {α β : Type} {R : α → β → Prop} : ∀ {xs xs2 : List α} {ys ys2 : List β}, Paired R xs ys → Paired R xs2 ys2 → Paired R (xs ++ xs2) (ys ++ ys2)
  | _, _, _, _, .nil, h => h
  | _, _, _, _, .cons a r, h => .cons a (pair_app r h)
theorem and_if {c1 c2 : TT} {A B : TS} {D : Ends} {σ : L2.St} {H : Hp} (b1 b2 : Bool) (h1 : ∀ Q : Bool → Hp → Prop, Q b1 H → c1 σ H Q) (h2 : ∀ Q : Bool → Hp → Prop, Q b2 H → c2 σ H Q) (hA : b1 = true → b2 = true → A D σ H) (hB : B D σ H) : tIfS (tAnd c1 c2) A B D σ H :=
  h1 _ (ite2 (fun e1 => h2 _ (ite2 (fun e2 => hA e1 e2) fun _ => hB)) fun _ => ite2 (fun z => absurd z (by decide)) fun _ => hB)
theorem and_if3 {c1 c2 c3 : TT} {A B : TS} {D : Ends} {σ : L2.St} {H : Hp} (b1 b2 b3 : Bool) (h1 : ∀ Q : Bool → Hp → Prop, Q b1 H → c1 σ H Q) (h2 : ∀ Q : Bool → Hp → Prop, Q b2 H → c2 σ H Q) (h3 : ∀ Q : Bool → Hp → Prop, Q b3 H → c3 σ H Q)
    (hA : b1 = true → b2 = true → b3 = true → A D σ H) (hB : B D σ H) : tIfS (tAnd c1 (tAnd c2 c3)) A B D σ H :=
  and_if b1 (b2 && b3) h1 (fun Q q => h2 _ (by cases b2 with
    | true => exact h3 _ q
    | false => exact q)) (fun e1 e2 => by
      cases b2 with
      | true => exact hA e1 rfl e2
      | false => cases e2) hB
/-- words and times of a row told otherwise -/
def GoodO (ps : PS) : Prop := ∀ q ∈ ps, 1 ≤ q.1.length ∧ q.1.length ≤ 20 ∧ (∀ z ∈ q.1, 0 ≤ z ∧ z ≤ 3) ∧ 0 ≤ q.2 ∧ q.2 ≤ 10 ^ 300
def spOth : Sp := fun vs H Q _ => ∃ (p l h : Addr) (ns : List Int) (n : Nat) (ws : List V) (ps : PS), vs = [.ref p, .ref h] ∧ TapeAt H p l ns n ∧ n ≤ 800000 ∧ H h = some (.lst ws) ∧ Prs H ws ps ∧ ps.length ≤ 4 ∧ GoodS ps ∧
  ∀ (r : Addr) (us : List V) (qs : PS) (n' : Nat) (H' : Hp), But p H H' → H r = none → TapeAt H' p l ns n' → n' ≤ n + 100 → H' r = some (.lst us) → Prs H' us qs → qs.length ≤ 12 → GoodO qs → flat qs = flat ps → Q (.ref r) H'
section
variable {P : Program} {w : World} {K : PySem.W.Frag} {mg : Str → Option Value} {base : Heap}
abbrev nmOth : List Str := ["_law_tape", "_law_stretches", "_law_found", "_law_word", "_law_times", "_law_path", "_law_at", "_law_first", "_law_many"]
theorem scOth : FnScope nmOth ["_law_tape", "_law_stretches"] (defScope sOth) := ⟨rfl, rfl, rfl, by decide +kernel, rfl, by decide +kernel, by decide +kernel⟩
theorem ok_oth {f fD fG : Addr} {fd fdD fdG : FuncData} (F : Fun K "_law_otherwise" "_law_otherwise" sOth f fd) (zN : mg "len" = none) (zI : mg "int" = none) (GD : FnOk P w K mg base CX0 1 fD fdD ["_law_tape", "_law_limit"] spDraw)
    (AD : At K mg "_law_draw" fD fdD ["_law_tape", "_law_limit"]) (GG : FnOk P w K mg base CX0 3 fG fdG ["_law_tape", "_law_cap"] spGreat) (AG : At K mg "_law_great" fG fdG ["_law_tape", "_law_cap"]) : FnOk P w K mg base CX0 4 f fd ["_law_tape", "_law_stretches"] spOth := by
  refine F.ok scOth (fun vs H Q E h => ?_) (fun cdv A outer s H vs Q E hr h => ?_)
  · obtain ⟨p, l, h, ns, n, ws, ps, rfl, _⟩ := h
    rfl
  · obtain ⟨p, l, h, ns, n, ws, ps, rfl, hT, hn, hh, hP, hlen, hW, k⟩ := h
    have nd := scOth.nd
    have hr1 := hr.mono (show 1 ≤ 3 by decide)
    have hu64 := hu64_of hr
    have hu := hu_of hr
    have bi : bootBuiltins "int" = some (.type "int") := by decide +kernel
    refine ⟨_, (pss_cons (ps_set (i := 2) nd rfl (Or.inl rfl) (pe_lst pa_nil))
(pss_cons (ps_for PassesOwn.never rfl (pi_seqV (pv 1)) (pg_tup rfl (pgs_cons (pg_name (i := 3) nd rfl (Or.inl rfl)) (pgs_cons (pg_name (i := 4) nd rfl (Or.inl rfl)) pgs_nil)))
(pss_cons (ps_par rfl nd (i := 5) (j := 6) rfl rfl (by decide) rfl rfl (pa_cons (pe_call GD hr1 rfl AD.mg AD.kp AD.bd .nil pass0 (pa_cons (pv 0) (pa_cons pe_int pa_nil))) (pa_cons (pe_call GD hr1 rfl AD.mg AD.kp AD.bd .nil pass0 (pa_cons (pv 0) (pa_cons (pe_callB (r := rLenS K) call_lenS (by rfl) zN PySem.boot_len (pa_cons (pv 3) pa_nil)) pa_nil))) pa_nil)) (by rfl))
(pss_one (ps_if (PW.pt (pw_and (pt_cmpR op_eq (pv 5) pe_int (nomark _)) (pw_and1 (pt_cmpR op_gt (pv 4) pe_int (nomark _)))))
(pss_cons (ps_set (i := 7) nd rfl (Or.inl rfl) (pe_call GG hr rfl AG.mg AG.kp AG.bd .nil pass0 (pa_cons (pv 0) (pa_cons (pv 4) pa_nil))))
(pss_one (ps_set (i := 2) nd rfl (Or.inl rfl) (pe_op op_cat (pv 2) (pe_lst (pa_cons (pe_tup (pa_cons (pv 3) (pa_cons (pv 7) pa_nil))) (pa_cons (pe_tup (pa_cons (pv 3) (pa_cons (pe_op op_sub (pv 4) (pv 7)) pa_nil))) pa_nil)))))))
(pss_one (ps_if (PW.pt (pw_and (pt_cmpR op_eq (pv 5) pe_int (nomark _)) (pw_and1 (pt_cmpR op_gt (pv 4) pe_int (nomark _)))))
(pss_cons (ps_set (i := 8) nd rfl (Or.inl rfl) (pe_op op_add pe_int (pe_call GD hr1 rfl AD.mg AD.kp AD.bd .nil pass0 (pa_cons (pv 0) (pa_cons pe_int pa_nil)))))
(pss_one (ps_set (i := 2) nd rfl (Or.inl rfl) (pe_op op_cat (pv 2) (pe_lst (pa_cons (pe_tup (pa_cons (pe_op op_repT (pv 3) (pv 8)) (pa_cons (pe_op op_fdiv (pv 4) (pv 8)) pa_nil))) (pa_cons (pe_tup (pa_cons (pv 3) (pa_cons (pe_op op_mod (pe_callTy call_int1 (by rfl) zI bi (pa_cons (pv 4) pa_nil)) (pv 8)) pa_nil))) pa_nil)))))))
(pss_one (ps_if (PW.pt (pw_and (pt_cmpR op_eq (pv 5) pe_int (nomark _)) (pw_and (pt_cmpR op_gt (pv 4) pe_int (nomark _)) (pw_and1 (pt_cmpR op_gt (pv 6) pe_int (nomark _))))))
(pss_one (ps_set (i := 2) nd rfl (Or.inl rfl) (pe_op op_cat (pv 2) (pe_lst (pa_cons (pe_tup (pa_cons (pe_slice sl_tupN (pv 3) po_none (po_some (pv 6))) (pa_cons pe_int pa_nil))) (pa_cons (pe_tup (pa_cons (pe_op op_catA (pe_slice sl_tupN (pv 3) (po_some (pv 6)) po_none) (pe_slice sl_tupN (pv 3) po_none (po_some (pv 6)))) (pa_cons (pe_op op_sub (pv 4) pe_int) pa_nil))) (pa_cons (pe_tup (pa_cons (pe_slice sl_tupN (pv 3) (po_some (pv 6)) po_none) (pa_cons pe_int pa_nil))) pa_nil)))))))
(pss_one (ps_expr (pe_bm PySem.F.plainAttrs_list PySem.F.slot_list_append PySem.F.type_list_append mt_append (pv 2) (pa_cons (pe_tup (pa_cons (pv 3) (pa_cons (pv 4) pa_nil))) pa_nil))))))))))))
(pss_one (ps_ret (pv 2))))), ?_⟩
    refine ⟨by show 0 ≤ sizeLine; exact Nat.zero_le _, fun f0 hf0 => ?_⟩
    refine gN ?_
    dsimp only [List.set]
    have s0 := sameNew (o := .lst []) hf0
    have lw := hP.len
    refine ⟨h, ws, rfl, .inl (s0 _ _ hh), fun J wk => for_it wk
      (fun i σ H' => ∃ (fd : Addr) (us : List V) (qs : PS) (m : Nat) (x3 x4 x5 x6 x7 x8 : Option V), σ = [some (.ref p), some (.ref h), some (.ref fd), x3, x4, x5, x6, x7, x8] ∧ But p H H' ∧ TapeAt H' p l ns m ∧ m ≤ n + 6 * i ∧ H fd = none ∧ H' fd = some (.lst us) ∧ Prs H' us qs ∧ qs.length ≤ 3 * i ∧ GoodO qs ∧ flat qs = flat (ps.take i))
      ⟨f0, [], [], n, none, none, none, none, none, none, rfl, But.of s0, hT.same s0, by omega, hf0, upd_same, .nil, by simp, fun q hq => absurd hq (by simp), rfl⟩ ?_ ?_ ?_⟩
    · rintro i σ G hi ⟨fd, us, qs, m, x3, x4, x5, x6, x7, x8, rfl, bG, TG, hm, hfd, hfG, hQ, hql, hGO, hfl⟩
      intro o ho
      obtain ⟨kv, ekv⟩ := hT.pt
      rw [upd_ne (ne_of_none hh hf0)] at ho
      exact bG _ _ (ne_of hh ekv (by intro z; cases z)) ho
    · rintro i y σ G G' hi ⟨fd, us, qs, m, x3, x4, x5, x6, x7, x8, rfl, bG, TG, hm, hfd, hfG, hQ, hql, hGO, hfl⟩ ⟨rfl, hy⟩
      obtain ⟨kv0, ekv0⟩ := hT.pt
      have hPG := Prs.tape hP ekv0 bG
      obtain ⟨⟨pw, pt⟩, hp, q, aw, rfl, hqq, haw⟩ := hPG.get hy
      obtain ⟨w1, w4, w3, t0, t9⟩ := hW (pw, pt) (List.mem_of_getElem? hp)
      dsimp only at hqq haw
      replace w1 : 1 ≤ pw.length := w1
      replace w4 : pw.length ≤ 4 := w4
      replace w3 : ∀ z ∈ pw, 0 ≤ z ∧ z ≤ 3 := w3
      replace t0 : 0 ≤ pt := t0
      replace t9 : pt ≤ 10 ^ 300 := t9
      have pD : p ≠ fd := ne_of_none ekv0 hfd
      have lD : l ≠ fd := ne_of_none hT.ce hfd
      have hi4 : i < 4 := by omega
      have ft := flat_take hp
      obtain ⟨kvG, ekvG⟩ := TG.pt
      refine ⟨q, [.ref aw, .int pt], rfl, SqT.of hqq, rfl, .ref aw, [.int pt], rfl, .int pt, [], rfl, rfl, ?_⟩
      refine ⟨_, rfl, p, l, ns, m, 4, rfl, TG, by omega, by decide, by decide +kernel, fun pa H2 b2 T2 pa0 pa9 => ?_⟩
      have haw2 := b2 _ _ (ne_of haw ekvG (by intro z; cases z)) haw
      refine ⟨_, rfl, _, rfl, aw, _, rfl, .inr (SqT.of haw2), p, l, ns, m + 1, _, rfl, T2, by omega, by rw [List.length_map]; omega, ?_, fun at' H3 b3 T3 at0 at9 => ?_⟩
      · refine Int.le_trans ?_ (show (1000 : Int) ≤ 10 ^ 400 by decide +kernel)
        rw [List.length_map]
        omega
      refine ⟨_, _, rfl, ?_⟩
      dsimp only [List.set]
      have b13 := b2.trans b3
      have haw3 := b13 _ _ (ne_of haw ekvG (by intro z; cases z)) haw
      have hfd3 := b13 _ _ (Ne.symm pD) hfG
      have hQ3 := Prs.tape hQ ekvG b13
      have lusq : us.length = qs.length := hQ.len
      have fin : ∀ (H4 : Hp) (f1 : Addr) (us4 : List V) (q2 : PS) (m4 : Nat) (x7 x8 : Option V), But p H H4 → TapeAt H4 p l ns m4 → m4 ≤ m + 6 → H f1 = none → H4 f1 = some (.lst us4) → Prs H4 us4 (qs ++ q2) → q2.length ≤ 3 → GoodO q2 → flat q2 = rep pw pt →
          ∃ (fd : Addr) (us : List V) (qs : PS) (m : Nat) (x3 x4 x5 x6 x7' x8' : Option V), [some (V.ref p), some (.ref h), some (.ref f1), some (.ref aw), some (.int pt), some (.int pa), some (.int at'), x7, x8] = [some (.ref p), some (.ref h), some (.ref fd), x3, x4, x5, x6, x7', x8'] ∧ But p H H4 ∧ TapeAt H4 p l ns m ∧ m ≤ n + 6 * (i + 1) ∧ H fd = none ∧ H4 fd = some (.lst us) ∧ Prs H4 us qs ∧ qs.length ≤ 3 * (i + 1) ∧ GoodO qs ∧ flat qs = flat (ps.take (i + 1)) := by
        intro H4 f1 us4 q2 m4 x7 x8 c1 c2 c3 c4 c5 c6 c7 c8 c9
        refine ⟨f1, us4, qs ++ q2, m4, _, _, _, _, _, _, rfl, c1, c2, by omega, c4, c5, c6, by rw [List.length_append]; omega, fun y hy => ?_, ?_⟩
        · rcases List.mem_append.mp hy with e | e
          · exact hGO y e
          · exact c8 y e
        · rw [flat_append, hfl, ft, c9]
      have bH3 : But p H H3 := bG.trans b13
      have b20 : ∀ {q : List Int × Int}, q ∈ ([] : PS) → False := fun h => nomatch h
      -- the found row and a list of new stretches
      have cat : ∀ (H5 : Hp) (L : Addr) (vs2 : List V) (q2 : PS) (m5 : Nat) (x7 x8 : Option V), But p H3 H5 → TapeAt H5 p l ns m5 → m5 ≤ m + 6 → H5 L = some (.lst vs2) → Prs H5 vs2 q2 → q2.length ≤ 3 → GoodO q2 → flat q2 = rep pw pt →
          rCat (.ref fd) (.ref L) H5 fun x H6 => ∃ f1 : Addr, x = .ref f1 ∧ ∃ (us : List V) (qs : PS) (m : Nat), But p H H6 ∧ TapeAt H6 p l ns m ∧ m ≤ n + 6 * (i + 1) ∧ H f1 = none ∧ H6 f1 = some (.lst us) ∧ Prs H6 us qs ∧ qs.length ≤ 3 * (i + 1) ∧ GoodO qs ∧ flat qs = flat (ps.take (i + 1)) := by
        intro H5 L vs2 q2 m5 x7 x8 c1 c2 c3 c4 c5 c6 c7 c8
        obtain ⟨kv3, ekv3⟩ := T3.pt
        have hfd5 := c1 _ _ (Ne.symm pD) hfd3
        have hQ5 := Prs.tape hQ3 ekv3 c1
        refine ⟨fd, L, us, vs2, rfl, rfl, hfd5, c4, by rw [lusq, c5.len, sizeLine_eq]; omega, fun f1 hf1 => ?_⟩
        have sF := sameNew (o := .lst (us ++ vs2)) hf1
        have bF := bH3.trans (c1.trans (But.of sF))
        have nf : H f1 = none := But.free (bH3.trans c1) (Ne.symm (c2.ne hf1)) hf1
        obtain ⟨fd', us', qs', m', y3, y4, y5, y6, y7, y8, e0, r⟩ := fin _ f1 (us ++ vs2) q2 m5 x7 x8 bF (c2.same sF) c3 nf upd_same (pair_app (Prs.same hQ5 sF) (Prs.same c5 sF)) c6 c7 c8
        have e1 : fd' = f1 := by
          have z := congrArg (fun o : L2.St => o[2]?) e0
          have z2 : some (some (V.ref f1)) = some (some (V.ref fd')) := z
          cases z2
          rfl
        subst e1
        exact ⟨fd', rfl, us', qs', m', r⟩
      refine and_if (decide (pa = 0)) (decide (1 < pt)) (fun Q q => ⟨_, rfl, rfl, _, rfl, by simpa using q⟩) (fun Q q => ⟨_, rfl, pt, 1, rfl, rfl, _, rfl, by simpa using q⟩) (fun e1 e2 => ?_) ?_
      · refine ⟨_, rfl, _, rfl, p, l, ns, m + 2, pt, rfl, T3, by omega, t0, Int.lt_of_le_of_lt t9 (by decide +kernel), fun g n' H4 b4 T4 hn' g0 g9 => ?_⟩
        refine gN ?_
        dsimp only [List.set]
        obtain ⟨kv3, ekv3⟩ := T3.pt
        have haw4 := b4 _ _ (ne_of haw3 ekv3 (by intro z; cases z)) haw3
        refine ⟨_, rfl, _, rfl, _, rfl, by show 2 ≤ sizeLine; decide, fun A1 hA1 => ?_⟩
        have s1 := sameNew (o := .tup [.ref aw, .int g]) hA1
        refine ⟨_, rfl, _, rfl, _, rfl, pt, g, rfl, rfl, by show 2 ≤ sizeLine; decide, fun A2 hA2 => ?_⟩
        have s2 := sameNew (o := .tup [.ref aw, .int (pt - g)]) hA2
        refine ⟨by show 2 ≤ sizeLine; decide, fun L hL => ?_⟩
        have s3 := sameNew (o := .lst [.ref A1, .ref A2]) hL
        refine cat_mono (cat _ L [.ref A1, .ref A2] [(pw, g), (pw, pt - g)] n' (some (.int g)) x8 ((b4.trans (But.of s1)).trans ((But.of s2).trans (But.of s3))) (((T4.same s1).same s2).same s3) (by omega) upd_same
          (.cons ⟨A1, aw, rfl, s3 _ _ (s2 _ _ upd_same), s3 _ _ (s2 _ _ (s1 _ _ haw4))⟩ (.cons ⟨A2, aw, rfl, s3 _ _ upd_same, s3 _ _ (s2 _ _ (s1 _ _ haw4))⟩ .nil)) (by show 2 ≤ 3; decide) (fun y hy => ?_) (by rw [flat_cons, flat_one]; exact rep_split pw g0 g9)) ?_
        · simp only [List.mem_cons, List.not_mem_nil, or_false] at hy
          rcases hy with z | z <;> subst z
          · exact ⟨w1, by show pw.length ≤ 20; omega, w3, g0, Int.le_trans g9 t9⟩
          · exact ⟨w1, by show pw.length ≤ 20; omega, w3, by show 0 ≤ pt - g; omega, Int.le_trans (by show pt - g ≤ pt; omega) t9⟩
        · rintro x H6 ⟨f1, rfl, us', qs', m', r⟩
          refine gN ?_
          exact ⟨f1, us', qs', m', _, _, _, _, _, _, rfl, r⟩
      refine and_if (decide (pa = 1)) (decide (1 < pt)) (fun Q q => ⟨_, rfl, rfl, _, rfl, by simpa using q⟩) (fun Q q => ⟨_, rfl, pt, 1, rfl, rfl, _, rfl, by simpa using q⟩) (fun e1 e2 => ?_) ?_
      · refine ⟨_, rfl, p, l, ns, m + 2, 4, rfl, T3, by omega, by decide, by decide +kernel, fun d H4 b4 T4 d0 d9 => ?_⟩
        refine ⟨_, _, rfl, rfl, ?_⟩
        refine gN ?_
        dsimp only [List.set]
        obtain ⟨kv3, ekv3⟩ := T3.pt
        have haw4 := b4 _ _ (ne_of haw3 ekv3 (by intro z; cases z)) haw3
        have hB : (List.replicate (2 + d).toNat (pw.map V.int)).flatten = (rep pw (2 + d)).map V.int := by
          unfold rep
          rw [List.map_flatten]
          rw [List.map_replicate]
        refine ⟨_, rfl, _, rfl, _, rfl, aw, 2 + d, pw.map V.int, rfl, rfl, SqT.of haw4, (fun z => by have z2 := congrArg List.length z; rw [List.length_map] at z2; have z3 : pw.length = 0 := z2; omega), by omega, by omega, by rw [List.length_map]; omega, fun B1 hB1 => ?_⟩
        rw [hB]
        have s0' := sameNew (o := .tup ((rep pw (2 + d)).map V.int)) hB1
        refine ⟨_, rfl, _, rfl, pt, 2 + d, rfl, rfl, ⟨by omega, by omega⟩, by show 2 ≤ sizeLine; decide, fun A1 hA1 => ?_⟩
        have s1 := sameNew (o := .tup [.ref B1, .int (pt / (2 + d))]) hA1
        refine ⟨_, rfl, _, rfl, .inl ⟨pt, rfl, _, rfl, pt, 2 + d, rfl, rfl, by omega, by show 2 ≤ sizeLine; decide, fun A2 hA2 => ?_⟩⟩
        have s2 := sameNew (o := .tup [.ref aw, .int (pt % (2 + d))]) hA2
        refine ⟨by show 2 ≤ sizeLine; decide, fun L hL => ?_⟩
        have s3 := sameNew (o := .lst [.ref A1, .ref A2]) hL
        have h0 : 0 ≤ pt / (2 + d) := Int.ediv_nonneg t0 (by omega)
        have hrl : (rep pw (2 + d)).length = (2 + d).toNat * pw.length := rep_length pw _
        refine cat_mono (cat _ L [.ref A1, .ref A2] [(rep pw (2 + d), pt / (2 + d)), (pw, pt % (2 + d))] (m + 3) x7 (some (.int (2 + d))) ((b4.trans (But.of s0')).trans ((But.of s1).trans ((But.of s2).trans (But.of s3)))) ((((T4.same s0').same s1).same s2).same s3) (by omega) upd_same
          (.cons ⟨A1, B1, rfl, s3 _ _ (s2 _ _ upd_same), s3 _ _ (s2 _ _ (s1 _ _ upd_same))⟩ (.cons ⟨A2, aw, rfl, s3 _ _ upd_same, s3 _ _ (s2 _ _ (s1 _ _ (s0' _ _ haw4)))⟩ .nil)) (by show 2 ≤ 3; decide) (fun y hy => ?_) (by rw [flat_cons, flat_one]; exact rep_bundle pw t0 (by omega))) ?_
        · simp only [List.mem_cons, List.not_mem_nil, or_false] at hy
          have hle : pt % (2 + d) ≤ pt := by
            have z1 := Int.mul_ediv_add_emod pt (2 + d)
            have z2 := Int.mul_nonneg (show (0 : Int) ≤ 2 + d by omega) h0
            omega
          have hd5 : (2 + d).toNat ≤ 5 := by omega
          have hd1 : 1 ≤ (2 + d).toNat := by omega
          rcases hy with z | z <;> subst z
          · refine ⟨?_, ?_, ?_, h0, Int.le_trans (Int.ediv_le_self _ t0) t9⟩
            · show 1 ≤ (rep pw (2 + d)).length
              rw [hrl]
              exact Nat.mul_le_mul hd1 w1
            · show (rep pw (2 + d)).length ≤ 20
              rw [hrl]
              exact Nat.mul_le_mul hd5 w4
            · intro z hz
              have z2 : z ∈ (List.replicate (2 + d).toNat pw).flatten := hz
              obtain ⟨u, hu1, hu2⟩ := List.mem_flatten.mp z2
              rw [(List.mem_replicate.mp hu1).2] at hu2
              exact w3 z hu2
          · exact ⟨w1, by show pw.length ≤ 20; omega, w3, Int.emod_nonneg _ (by omega), Int.le_trans hle t9⟩
        · rintro x H6 ⟨f1, rfl, us', qs', m', r⟩
          refine gN ?_
          exact ⟨f1, us', qs', m', _, _, _, _, _, _, rfl, r⟩
      refine and_if3 (decide (pa = 2)) (decide (1 < pt)) (decide (0 < at')) (fun Q q => ⟨_, rfl, rfl, _, rfl, by simpa using q⟩) (fun Q q => ⟨_, rfl, pt, 1, rfl, rfl, _, rfl, by simpa using q⟩) (fun Q q => ⟨_, rfl, at', 0, rfl, rfl, _, rfl, by simpa using q⟩) (fun e1 e2 e3 => ?_) ?_
      · have e4 : 0 < at' := by simpa using e3
        have e5 : 1 < pt := by simpa using e2
        rw [List.length_map] at at9
        obtain ⟨ka, rfl⟩ : ∃ ka : Nat, at' = (ka : Int) := ⟨_, (Int.toNat_of_nonneg at0).symm⟩
        have ka0 : 0 < ka := by omega
        have ka9 : ka < pw.length := by omega
        have tk : (pw.map V.int).take ka = (pw.take ka).map V.int := by rw [List.map_take]
        have dk : (pw.map V.int).drop ka = (pw.drop ka).map V.int := by rw [List.map_drop]
        have ltk : (pw.take ka).length = ka := by rw [List.length_take]; omega
        have ldk : (pw.drop ka).length = pw.length - ka := List.length_drop ..
        refine ⟨_, rfl, _, rfl, _, rfl, _, rfl, aw, pw.map V.int, rfl, haw3, fun q1 J1 u1 g1 => ?_⟩
        rw [cutV_take, tk] at g1
        have k1 := u1 _ _ haw3
        refine ⟨by show 2 ≤ sizeLine; decide, fun A1 hA1 => ?_⟩
        have v1 := sameNew (o := .tup [.ref q1, .int 1]) hA1
        refine ⟨_, rfl, _, rfl, _, rfl, aw, pw.map V.int, rfl, v1 _ _ k1, fun q2 J2 u2 g2 => ?_⟩
        rw [cutV_drop, dk] at g2
        have k2 := u2 _ _ (v1 _ _ k1)
        refine ⟨_, rfl, _, rfl, _, rfl, aw, pw.map V.int, rfl, k2, fun q3 J3 u3 g3 => ?_⟩
        rw [cutV_take, tk] at g3
        have k3 := u3 _ _ k2
        have nd0 : (pw.drop ka).map V.int ≠ [] := fun z => by have z2 := congrArg List.length z; rw [List.length_map, ldk] at z2; have z3 : pw.length - ka = 0 := z2; omega
        have nt0 : (pw.take ka).map V.int ≠ [] := fun z => by have z2 := congrArg List.length z; rw [List.length_map, ltk] at z2; have z3 : ka = 0 := z2; omega
        refine ⟨q2, q3, _, _, rfl, rfl, SqT.of (u3 _ _ g2), SqT.of g3, by rw [List.length_map, List.length_map, ltk, ldk, sizeLine_eq]; omega, fun z => absurd z nd0, fun _ z => absurd z nt0, fun _ _ q4 hq4 => ?_⟩
        have v4 := sameNew (o := .tup ((pw.drop ka).map V.int ++ (pw.take ka).map V.int)) hq4
        refine ⟨_, rfl, pt, 1, rfl, rfl, by show 2 ≤ sizeLine; decide, fun A2 hA2 => ?_⟩
        have v5 := sameNew (o := .tup [.ref q4, .int (pt - 1)]) hA2
        refine ⟨_, rfl, _, rfl, _, rfl, aw, pw.map V.int, rfl, v5 _ _ (v4 _ _ k3), fun q5 J6 u6 g6 => ?_⟩
        rw [cutV_drop, dk] at g6
        refine ⟨by show 2 ≤ sizeLine; decide, fun A3 hA3 => ?_⟩
        have v7 := sameNew (o := .tup [.ref q5, .int 1]) hA3
        refine ⟨by show 3 ≤ sizeLine; decide, fun L hL => ?_⟩
        have v8 := sameNew (o := .lst [.ref A1, .ref A2, .ref A3]) hL
        have w45 := v4.trans v5
        have w58 := (u6.trans v7).trans v8
        have w18 := ((u2.trans u3).trans w45).trans w58
        refine cat_mono (cat _ L [.ref A1, .ref A2, .ref A3] [(pw.take ka, 1), (pw.drop ka ++ pw.take ka, pt - 1), (pw.drop ka, 1)] (m + 2) x7 x8 (But.of ((u1.trans v1).trans w18)) (T3.same ((u1.trans v1).trans w18)) (by omega) upd_same
          (.cons ⟨A1, q1, rfl, w18 _ _ upd_same, w18 _ _ (v1 _ _ g1)⟩ (.cons ⟨A2, q4, rfl, w58 _ _ upd_same, w58 _ _ (v5 _ _ (by rw [List.map_append]; exact upd_same))⟩ (.cons ⟨A3, q5, rfl, v8 _ _ upd_same, v8 _ _ (v7 _ _ g6)⟩ .nil))) (by show 3 ≤ 3; decide) (fun y hy => ?_) ?_) ?_
        · have one9 : (1 : Int) ≤ 10 ^ 300 := by decide +kernel
          simp only [List.mem_cons, List.not_mem_nil, or_false] at hy
          rcases hy with z | z | z <;> subst z
          · exact ⟨by show 1 ≤ (pw.take ka).length; omega, by show (pw.take ka).length ≤ 20; omega, fun z hz => w3 z (List.mem_of_mem_take hz), by show (0 : Int) ≤ 1; decide, one9⟩
          · refine ⟨?_, ?_, fun z hz => ?_, by show 0 ≤ pt - 1; omega, Int.le_trans (show pt - 1 ≤ pt by omega) t9⟩
            · show 1 ≤ (pw.drop ka ++ pw.take ka).length
              rw [List.length_append]
              omega
            · show (pw.drop ka ++ pw.take ka).length ≤ 20
              rw [List.length_append]
              omega
            · rcases List.mem_append.mp hz with e | e
              · exact w3 z (List.mem_of_mem_drop e)
              · exact w3 z (List.mem_of_mem_take e)
          · exact ⟨by show 1 ≤ (pw.drop ka).length; omega, by show (pw.drop ka).length ≤ 20; omega, fun z hz => w3 z (List.mem_of_mem_drop hz), by show (0 : Int) ≤ 1; decide, one9⟩
        · rw [flat_cons, flat_cons, flat_one]
          show rep (pw.take ka) 1 ++ (rep (pw.drop ka ++ pw.take ka) (pt - 1) ++ rep (pw.drop ka) 1) = rep pw pt
          rw [rep_one, rep_one, rep_round _ _ (by omega), List.take_append_drop]
        · rintro x H6 ⟨f1, rfl, us', qs', m', r⟩
          refine gN ?_
          exact ⟨f1, us', qs', m', _, _, _, _, _, _, rfl, r⟩
      refine ⟨_, rfl, .inl ⟨rfl, _, SqL.of hfd3⟩, _, rfl, _, rfl, by show 2 ≤ sizeLine; decide, fun T hT2 => ?_⟩
      have sT := sameNew (o := .tup [.ref aw, .int pt]) hT2
      have hf3 := sT _ _ hfd3
      refine ⟨fd, us, _, rfl, rfl, hf3, by rw [lusq, sizeLine_eq]; omega, ?_⟩
      have PA : PairAt (upd H3 T (.tup [.ref aw, .int pt])) (.ref T) (pw, pt) := ⟨T, aw, rfl, upd_same, sT _ _ haw3⟩
      have P4 := Prs.snoc (Prs.same hQ3 sT) PA
      have bF : But fd (upd H3 T (.tup [.ref aw, .int pt])) (upd (upd H3 T (.tup [.ref aw, .int pt])) fd (.lst (us ++ [.ref T]))) := fun c o nc e => by rw [upd_ne nc]; exact e
      refine fin _ fd (us ++ [.ref T]) [(pw, pt)] (m + 2) x7 x8 (But.updN (bH3.trans (But.of sT)) hfd) ((T3.same sT).upd pD lD) (by omega) hfd upd_same (Prs.but P4 hf3 bF) (by show 1 ≤ 3; decide) (fun y hy => ?_) (flat_one _)
      rw [List.mem_singleton.mp hy]
      exact ⟨w1, by show pw.length ≤ 20; omega, w3, t0, t9⟩
    · rintro σ G ⟨fd, us, qs, m, x3, x4, x5, x6, x7, x8, rfl, bG, TG, hm, hfd, hfG, hQ, hql, hGO, hfl⟩
      rw [lw, List.take_length] at hfl
      exact ⟨_, rfl, k fd us qs m G bG hfd TG (by omega) hfG hQ (by omega) hGO hfl⟩
end
end K23
namespace K23
open PySem PySem.Spec PyProof.Rows L2 RwM Rw EV TryN LamX
/-- numbers of buds -/
def Low (fl : List Int) : Prop := ∀ z ∈ fl, 0 ≤ z ∧ z ≤ 3
/-- a tuple of numbers stands at t -/
def TupI (H : Hp) (t : Addr) (fl : List Int) : Prop := H t = some (.tup (fl.map V.int))
theorem TupI.same {H H' : Hp} {t : Addr} {fl : List Int} (h : TupI H t fl) (s : Same H H') : TupI H' t fl := s _ _ h
theorem TupI.tape {H H' : Hp} {t k : Addr} {fl : List Int} {kv : List (Key × V)} (h : TupI H t fl) (hk : H k = some (.dK kv)) (s : But k H H') : TupI H' t fl := s _ _ (ne_of h hk (by intro z; cases z)) h
theorem Low.app {a b : List Int} (h : Low a) (k : Low b) : Low (a ++ b) := fun z hz => (List.mem_append.mp hz).elim (h z) (k z)
theorem Low.take {a : List Int} (h : Low a) (n : Nat) : Low (a.take n) := fun z hz => h z (List.mem_of_mem_take hz)
theorem Low.drop {a : List Int} (h : Low a) (n : Nat) : Low (a.drop n) := fun z hz => h z (List.mem_of_mem_drop hz)
theorem catI {K : PySem.W.Frag} {H : Hp} {a b : Addr} {xs ys : List Int} {Q : VK} (ha : TupI H a xs) (hb : TupI H b ys) (hl : xs.length + ys.length ≤ 10000) (q : ∀ (l : Addr) (H' : Hp), Same H H' → TupI H' l (xs ++ ys) → Q (.ref l) H') : rCatA K (.ref a) (.ref b) H Q :=
  catN ha hb (by rw [List.length_map, List.length_map, sizeLine_eq]; omega) fun l H' s e => q l H' s (by unfold TupI; rw [List.map_append]; exact e)
theorem sl_to {H : Hp} {a : Addr} {fl : List Int} {k : Nat} {Q : VK} (h : TupI H a fl) (q : ∀ (l : Addr) (H' : Hp), Same H H' → TupI H' l (fl.take k) → Q (.ref l) H') : rSlN (.ref a) none (some (k : Int)) H Q :=
  ⟨a, _, rfl, h, fun l H' s e => q l H' s (by unfold TupI; rw [← cut_take]; exact e)⟩
theorem sl_from {H : Hp} {a : Addr} {fl : List Int} {k : Nat} {Q : VK} (h : TupI H a fl) (q : ∀ (l : Addr) (H' : Hp), Same H H' → TupI H' l (fl.drop k) → Q (.ref l) H') : rSlN (.ref a) (some (k : Int)) none H Q :=
  ⟨a, _, rfl, h, fun l H' s e => q l H' s (by unfold TupI; rw [← cut_drop]; exact e)⟩
theorem eqI {K : PySem.W.Frag} {H : Hp} {a b : Addr} {xs ys : List Int} {Q : VK} (ha : TupI H a xs) (hb : TupI H b ys) (q : Q (.bl (decide (xs = ys))) H) : rEqD K (.ref a) (.ref b) H Q :=
  ⟨_, _, .tup (SqT.of ha) (dp_all xs), .tup (SqT.of hb) (dp_all ys), shaped_tup _, shaped_tup _, by rw [eqv_tup]; exact q⟩
theorem sl_mid {H : Hp} {a : Addr} {fl : List Int} {j k : Nat} {Q : VK} (h : TupI H a fl) (hjk : j ≤ k) (q : ∀ (l : Addr) (H' : Hp), Same H H' → TupI H' l ((fl.drop j).take (k - j)) → Q (.ref l) H') : rSlN (.ref a) (some (j : Int)) (some (k : Int)) H Q :=
  ⟨a, _, rfl, h, fun l H' s e => q l H' s (by unfold TupI; rw [← cut_both fl j k hjk]; exact e)⟩
theorem sl_mid2 {H : Hp} {a : Addr} {fl : List Int} {j k : Nat} {i i2 : Int} {Q : VK} (h : TupI H a fl) (ei : i = (j : Int)) (ek : i2 = (k : Int)) (hjk : j ≤ k) (q : ∀ (l : Addr) (H' : Hp), Same H H' → TupI H' l ((fl.drop j).take (k - j)) → Q (.ref l) H') : rSlN (.ref a) (some i) (some i2) H Q := by
  subst ei ek
  exact sl_mid h hjk q
/-- a while with its own word for the end -/
theorem while_ex {c : TT} {tb : TS} {D : Ends} {σ : L2.St} {H : Hp} (Pv : Nat → L2.St → Hp → Prop) (Ex : L2.St → Hp → Prop) (h0 : ∃ m, Pv m σ H) (hx : ∀ σ H, Ex σ H → D.nx σ H)
    (hs : ∀ m σ H, Pv m σ H → (∀ σ' H', Ex σ' H' → D.nx σ' H') → c σ H fun b H1 => if b = true then ∃ N : L2.St → Hp → Prop, (∀ σ' H', N σ' H' → ∃ m', m' < m ∧ Pv m' σ' H') ∧ tb { D with nx := N, ct := N, bk := D.nx } σ H1 else D.nx σ H1) : tWhile c tb D σ H :=
  ⟨Pv, h0, fun m σ H w => hs m σ H w hx⟩
/-- the size of a word: drawn, or 40 -/
theorem rd_size {K : PySem.W.Frag} {σ : L2.St} {H : Hp} {Q : VK} {p l L : Addr} {ns : List Int} {m : Nat} {us : List V} (h0 : σ[0]? = some (some (.ref p))) (h2 : σ[2]? = some (some (.ref L))) (hT : TapeAt H p l ns m) (hm : m ≤ 1000000) (hL : H L = some (.lst us))
    (q : ∀ (s : Nat) (H' : Hp), But p H H' → TapeAt H' p l ns (m + 1) → 1 ≤ s → s ≤ 40 → (18 ≤ us.length → s = 40) → Q (.int (s : Int)) H') :
    tIf (tTest (tOp (rI0 fun i j => V.bl (decide (i < j))) (tCB (rLenS K) (tCons (tVar 2) tNil)) (tC (V.int 18)))) (tOp (rI0 fun i j => V.int (i + j)) (tC (V.int 1)) (tCall spDraw [] E0 (tCons (tVar 0) (tCons (tC (V.int 5)) tNil)))) (tC (V.int 40)) σ H Q := by
  refine ⟨_, h2, L, us, rfl, .inl (SqL.of hL), _, _, rfl, rfl, _, rfl, ite2 (fun c => ?_) (fun c => ?_)⟩
  · have c2 : us.length < 18 := by
      have z : (us.length : Int) < 18 := by simpa using c
      omega
    refine ⟨_, h0, p, l, ns, m, 5, rfl, hT, hm, by decide, by decide, fun d H1 b1 T1 d0 d9 => ?_⟩
    refine ⟨_, _, rfl, rfl, ?_⟩
    have e : (1 : Int) + d = ((1 + d.toNat : Nat) : Int) := by omega
    dsimp only
    rw [e]
    exact q _ H1 b1 T1 (by omega) (by omega) (fun z => by omega)
  · have c2 : 18 ≤ us.length := by
      have z : (18 : Int) ≤ us.length := by simpa using c
      omega
    exact q 40 H (.refl p H) (hT.more (Nat.le_succ m)) (by decide) (by decide) (fun _ => rfl)
theorem Prs.tupn {H H' : Hp} {L : Addr} {us : List V} {o : HO} {ps : PS} (hP : Prs H us ps) (hL : H L = some (.lst us)) (e : H' = upd H L o) : Prs H' us ps := by
  subst e
  exact hP.but hL .put
/-- the words and times of a row that was cut -/
def GoodC (ps : PS) : Prop := ∀ q ∈ ps, 1 ≤ q.1.length ∧ q.1.length ≤ 40 ∧ Low q.1 ∧ 1 ≤ q.2 ∧ q.2 ≤ 75
end K23
namespace K23
open PySem PySem.Spec PyProof.Rows L2 RwM Rw EV TryN LamX
/-- a def with its code object -/
structure FunC (K : PySem.W.Frag) (x : Str) (st : Stmt) (f : Addr) (fd : FuncData) (c : Addr) : Prop where
  is : ∃ (oc : Value) (od : Option Addr) (kV doc pm : Value) (an : Option Addr) (ct : Value) (osl : Array (Option Value)),
    fd = PySem.W.fnOf x x (defArgs st) (defBody st) (defScope st) .none kV doc pm an (.ref c) ct ∧ K.lookup f = some ⟨oc, od, .func fd, osl⟩ ∧ PySem.W.codeIn K (.ref c) x = true
theorem FunC.okF {P : Program} {w : World} {K : PySem.W.Frag} {mg : Str → Option Value} {base : Heap} {x : Str} {st : Stmt} {f c : Addr} {fd : FuncData} {N ps : List Str} {k : Nat} {sp : Sp} (F : FunC K x st f fd c) (S : FnScope N ps (defScope st)) (hl : ∀ vs G Q E, sp vs G Q E → vs.length = ps.length)
    (hb : ∀ (A : Around) (outer : List Env) (s : Shared) (G : Hp) (vs : List V) (Q : VK) (E : XK), Room k (A.deeper (envOfC x (defScope st) s.heap.objs.size f (.ref c))) → sp vs G Q E →
      ∃ t, PSs (cxOf CX0 P w K mg base N x (defScope st) f (.ref c) A outer s G E).nox (defBody st) t ∧ t { nx := fun _ G' => Q .non G', rt := Q } (L2.start N vs) G) : FnOk P w K mg base CX0 (k + 1) f fd ps sp := by
  obtain ⟨oc, od, kV, doc, pm, an, ct, osl, rfl, lk, hcd⟩ := F.is
  refine ⟨hl, fun A outer s G args us vs Q E hr e0 hbs r h => run_ofS lk hcd S hr e0 hbs r (hl _ _ _ _ h) fun hr2 => ?_⟩
  obtain ⟨t, ht, hq⟩ := hb A outer s G vs Q E hr2 h
  exact ⟨t, ht.nox, hq⟩
/-! what tables leave alone -/
theorem TupI.ext {H H' : Hp} {t : Addr} {fl : List Int} (h : TupI H t fl) (s : ExtN H H') : TupI H' t fl := s _ _ h (fun _ z => by cases z)
theorem PairAt.ext {H H' : Hp} {v : V} {p : List Int × Int} (h : PairAt H v p) (s : ExtN H H') : PairAt H' v p := by
  obtain ⟨q, a, e, h1, h2⟩ := h
  exact ⟨q, a, e, s _ _ h1 (fun _ z => by cases z), s _ _ h2 (fun _ z => by cases z)⟩
theorem Prs.ext {H H' : Hp} {vs : List V} {ps : PS} (h : Prs H vs ps) (s : ExtN H H') : Prs H' vs ps := L2.Paired.mapP h fun _ _ z => PairAt.ext z s
theorem TupAt.ext {H H' : Hp} {a : Addr} {ps : PS} (h : TupAt H a ps) (s : ExtN H H') : TupAt H' a ps := by
  obtain ⟨⟨ws, h1, h2⟩, h3, h4, h5⟩ := h
  exact ⟨⟨ws, s _ _ h1 (fun _ z => by cases z), Prs.ext h2 s⟩, h3, h4, h5⟩
theorem RowV.ext {C : Addr} {H H' : Hp} {r : Addr} {ps : PS} (h : RowV C H r ps) (s : ExtN H H') : RowV C H' r ps := by
  obtain ⟨dx, t, h1, h2⟩ := h
  exact ⟨dx, t, s _ _ h1 (fun _ z => by cases z), h2.ext s⟩
theorem TapeAt.ext {H H' : Hp} {p l : Addr} {ns : List Int} {n : Nat} (h : TapeAt H p l ns n) (s : ExtN H H') : TapeAt H' p l ns n := by
  obtain ⟨⟨sp, r, e, h1, h2⟩, c, le⟩ := h
  exact ⟨⟨sp, r, s _ _ e (fun _ z => by cases z), h1, h2⟩, s _ _ c (fun _ z => by cases z), le⟩
theorem Shown.ext {H H' : Hp} {v : V} {z : Str} (h : Shown H v z) (s : ExtN H H') : Shown H' v z := by
  rcases h with h | h | h | h | ⟨a, h1, h2, h3⟩
  · exact .inl h
  · exact .inr (.inl h)
  · exact .inr (.inr (.inl h))
  · exact .inr (.inr (.inr (.inl h)))
  · exact .inr (.inr (.inr (.inr ⟨a, h1, s _ _ h2 (fun _ z => by cases z), h3⟩)))
theorem tabs_tape {T : List (Addr × Str)} {H H' : Hp} {p : Addr} {kv : List (Key × V)} (t : Tabs T H) (hp : H p = some (.dK kv)) (b : But p H H') : Tabs T H' := fun x hx => by
  obtain ⟨ps, h1, h2, h3⟩ := t x hx
  refine ⟨ps, b _ _ (ne_of h1 hp (by intro z; cases z)) h1, h2, fun pos cv hc => ?_⟩
  obtain ⟨c, e1, e2⟩ := h3 pos cv hc
  exact ⟨c, e1, b _ _ (ne_of e2 hp (by intro z; cases z)) e2⟩
end K23
namespace K23
open PySem PySem.Spec PyProof.Rows L2 RwM Rw EV TryN LamX
/-- all but dicts and tables is as it was -/
def Sd (H H' : Hp) : Prop := ∀ b o, H b = some o → (∀ kv, o ≠ .dK kv) → (∀ ps, o ≠ .tbl ps) → H' b = some o
theorem Sd.refl (H : Hp) : Sd H H := fun _ _ e _ _ => e
theorem Sd.trans {H H1 H2 : Hp} (a : Sd H H1) (b : Sd H1 H2) : Sd H H2 := fun c o e k1 k2 => b c o (a c o e k1 k2) k1 k2
theorem Sd.of {H H' : Hp} (s : Same H H') : Sd H H' := fun b o e _ _ => s b o e
theorem Sd.ext {H H' : Hp} (s : ExtN H H') : Sd H H' := fun b o e _ k => s b o e k
theorem Sd.tape {H H' : Hp} {p l : Addr} {ns : List Int} {n : Nat} (t : TapeAt H p l ns n) (s : But p H H') : Sd H H' := fun b o e k _ => s b o (fun z => by
  obtain ⟨kv, ek⟩ := t.pt
  rw [z, ek] at e
  exact k kv (Option.some.inj e).symm) e
theorem Sd.tup {H H' : Hp} {a : Addr} {xs : List V} (s : Sd H H') (h : H a = some (.tup xs)) : H' a = some (.tup xs) := s _ _ h (fun _ z => by cases z) (fun _ z => by cases z)
theorem Sd.lst {H H' : Hp} {a : Addr} {xs : List V} (s : Sd H H') (h : H a = some (.lst xs)) : H' a = some (.lst xs) := s _ _ h (fun _ z => by cases z) (fun _ z => by cases z)
theorem Sd.sqa {H H' : Hp} {a : Addr} {xs : List V} (s : Sd H H') (h : SqA H a xs) : SqA H' a xs := h.imp s.lst s.tup
theorem TupI.sd {H H' : Hp} {t : Addr} {fl : List Int} (h : TupI H t fl) (s : Sd H H') : TupI H' t fl := s.tup h
theorem PairAt.sd {H H' : Hp} {v : V} {p : List Int × Int} (h : PairAt H v p) (s : Sd H H') : PairAt H' v p := by
  obtain ⟨q, a, e, h1, h2⟩ := h
  exact ⟨q, a, e, s.tup h1, s.tup h2⟩
theorem Prs.sd {H H' : Hp} {vs : List V} {ps : PS} (h : Prs H vs ps) (s : Sd H H') : Prs H' vs ps := L2.Paired.mapP h fun _ _ z => PairAt.sd z s
theorem TupAt.sd {H H' : Hp} {a : Addr} {ps : PS} (h : TupAt H a ps) (s : Sd H H') : TupAt H' a ps := by
  obtain ⟨⟨ws, h1, h2⟩, h3, h4, h5⟩ := h
  exact ⟨⟨ws, s.tup h1, Prs.sd h2 s⟩, h3, h4, h5⟩
theorem RowV.sd {C : Addr} {H H' : Hp} {r : Addr} {ps : PS} (h : RowV C H r ps) (s : Sd H H') : RowV C H' r ps := by
  obtain ⟨dx, t, h1, h2⟩ := h
  exact ⟨dx, t, s _ _ h1 (fun _ z => by cases z) (fun _ z => by cases z), h2.sd s⟩
theorem StAt.sd {M : Int} {H H' : Hp} {x : V} {p : List Int × Int} (h : StAt M H x p) (s : Sd H H') : StAt M H' x p := by
  obtain ⟨⟨q, a, e, h1, h2⟩, h3, h4, h5⟩ := h
  exact ⟨⟨q, a, e, s.tup h1, s.sqa h2⟩, h3, h4, h5⟩
theorem Shown.sd {H H' : Hp} {v : V} {z : Str} (h : Shown H v z) (s : Sd H H') : Shown H' v z := by
  rcases h with h | h | h | h | ⟨a, h1, h2, h3⟩
  · exact .inl h
  · exact .inr (.inl h)
  · exact .inr (.inr (.inl h))
  · exact .inr (.inr (.inr (.inl h)))
  · exact .inr (.inr (.inr (.inr ⟨a, h1, s.lst h2, h3⟩)))
/-- a value that is no dict, and what it holds -/
inductive ShK (H : Hp) : V → Option (List V) → Prop where
  | non : ShK H .non none
  | bl (b : Bool) : ShK H (.bl b) none
  | int (i : Int) : ShK H (.int i) none
  | str (z : Str) : ShK H (.str z) none
  | tup {a : Addr} {xs : List V} (h : H a = some (.tup xs)) : ShK H (.ref a) (some xs)
theorem ShK.sd {H H' : Hp} {v : V} {o : Option (List V)} (m : ShK H v o) (s : Sd H H') : ShK H' v o := by
  cases m with
  | non => exact .non
  | bl b => exact .bl b
  | int i => exact .int i
  | str z => exact .str z
  | tup h => exact .tup (s.tup h)
theorem ShK.kind {H : Hp} {v : V} {o : Option (List V)} (m : ShK H v o) : SeqK H v o := by
  cases m with
  | non => exact .non
  | bl b => exact .bl b
  | int i => exact .int i
  | str z => exact .str z
  | tup h => exact .tup h
/-- an entry that is no stretch -/
def OddV (M : Int) (H : Hp) (v : V) : Prop :=
  (∃ o, ShK H v o ∧ two o = false ∧ ∀ xs, o = some xs → xs.length ≤ 100000) ∨
  ∃ (a : Addr) (x y : V) (ox oy : Option (List V)), v = .ref a ∧ H a = some (.tup [x, y]) ∧ ShK H x ox ∧ (∀ xs, ox = some xs → xs.length ≤ 100000 ∧ ∀ z ∈ xs, ∃ o', ShK H z o') ∧ ShK H y oy ∧ (lw ox && wth y 0 M) = false
theorem OddV.sd {M : Int} {H H' : Hp} {v : V} (h : OddV M H v) (s : Sd H H') : OddV M H' v := by
  rcases h with ⟨o, h1, h2, h3⟩ | ⟨a, x, y, ox, oy, h1, h2, h3, h4, h5, h6⟩
  · exact .inl ⟨o, h1.sd s, h2, h3⟩
  · exact .inr ⟨a, x, y, ox, oy, h1, s.tup h2, h3.sd s, fun xs e => ⟨(h4 xs e).1, fun z hz => ((h4 xs e).2 z hz).imp fun o' m => m.sd s⟩, h5.sd s, h6⟩
theorem OddV.ent {M : Int} {H : Hp} {v : V} (h : OddV M H v) : Ent M H v none := by
  rcases h with ⟨o, h1, h2, h3⟩ | ⟨a, x, y, ox, oy, rfl, h2, h3, h4, h5, h6⟩
  · exact .bad h1.kind (.no h2 h3)
  · refine .bad (.tup h2) ?_
    rw [← h6]
    exact .yes h3.kind (fun xs e => ⟨(h4 xs e).1, fun z hz => ((h4 xs e).2 z hz).imp fun o' m => m.kind⟩) h5.kind
theorem odd_pair {M : Int} {H : Hp} {a b : Addr} {xs : List V} {y : V} {oy : Option (List V)} (ha : H a = some (.tup xs)) (hl : xs.length ≤ 100000) (hx : ∀ z ∈ xs, ∃ o', ShK H z o') (hb : H b = some (.tup [.ref a, y])) (hy : ShK H y oy) (e : (lw (some xs) && wth y 0 M) = false) : OddV M H (.ref b) :=
  .inr ⟨b, _, y, _, oy, rfl, hb, .tup ha, fun zs ez => by cases ez; exact ⟨hl, hx⟩, hy, e⟩
def AllOdd (M : Int) (H : Hp) (xs : List V) : Prop := ∀ x ∈ xs, OddV M H x
theorem AllOdd.sd {M : Int} {H H' : Hp} {xs : List V} (h : AllOdd M H xs) (s : Sd H H') : AllOdd M H' xs := fun x hx => (h x hx).sd s
theorem AllOdd.put {M : Int} {H : Hp} {xs : List V} {x : V} (h : AllOdd M H xs) (o : OddV M H x) : AllOdd M H (x :: xs) := fun y hy => by
  rcases List.mem_cons.mp hy with e | e
  · rw [e]; exact o
  · exact h y e
theorem AllOdd.snoc {M : Int} {H : Hp} {xs : List V} {x : V} (h : AllOdd M H xs) (o : OddV M H x) : AllOdd M H (xs ++ [x]) := fun y hy => by
  rcases List.mem_append.mp hy with e | e
  · exact h y e
  · rw [List.mem_singleton.mp e]; exact o
theorem szL {n : Nat} (h : n ≤ 1000) : n ≤ sizeLine := Nat.le_of_lt (small1000 h)
theorem same_new {H G : Hp} {T : Addr} {o : HO} (h : H T = none) (e : upd H T o = G) : Same H G := by
  subst e
  exact sameNew h
theorem new_at {H G : Hp} {T : Addr} {o : HO} (e : upd H T o = G) : G T = some o := by
  subst e
  exact upd_same
theorem shaped_3 (k : Str) (i : Int) (hk : PyData.strOk k = true := by decide +kernel) : SeqAt.shaped (.tuple [.str k, .int i, .bool false]) = true := by
  simp [SeqAt.shaped, PyData.canLay0, PyData.canLayAll0, PyData.depth, PyData.depthAll, hk]
theorem strOk_of (s : String) : PyData.strOk (Str.ofString s) = true := by
  rw [Str.ofString_eq_toList]
  unfold PyData.strOk
  rw [Array.all_eq_true']
  intro x hx
  rw [List.mem_toArray, List.mem_map] at hx
  obtain ⟨c, _, rfl⟩ := hx
  rw [decide_eq_true_eq]
  have h := c.valid
  show c.val.toNat < 1114112
  unfold UInt32.isValidChar Nat.isValidChar at h
  omega
theorem shown_str {H : Hp} {v : V} {z : Str} (h : Shown H v z) : PyData.strOk z = true := by
  rcases h with ⟨i, _, _, e⟩ | ⟨_, e⟩ | ⟨_, e⟩ | ⟨_, e⟩ | ⟨a, _, _, e⟩
  all_goals rw [e]; exact strOk_of _
theorem shaped_s (k z : Str) (hk : PyData.strOk k = true) (hz : PyData.strOk z = true) : SeqAt.shaped (.tuple [.str k, .str z, .bool false]) = true := by
  simp [SeqAt.shaped, PyData.canLay0, PyData.canLayAll0, PyData.depth, PyData.depthAll, hk, hz]
theorem eqv_s (k z : Str) : PyData.eqv (.tuple [.str k, .str z, .bool false]) (.tuple [.str k, .str z, .bool false]) = true := by
  show PyData.eqvAll [.str k, .str z, .bool false] [.str k, .str z, .bool false] = true
  simp [PyData.eqvAll, PyData.eqv]
theorem shaped_s2 (k z : Str) (hk : PyData.strOk k = true) (hz : PyData.strOk z = true) : SeqAt.shaped (.list [.tuple [.str k, .str z, .bool false], .tuple [.str k, .str z, .bool false]]) = true := by
  simp [SeqAt.shaped, PyData.canLay0, PyData.canLayAll0, PyData.depth, PyData.depthAll, hk, hz]
theorem eqv_s2 (k z : Str) : PyData.eqv (.list [.tuple [.str k, .str z, .bool false], .tuple [.str k, .str z, .bool false]]) (.list [.tuple [.str k, .str z, .bool false], .tuple [.str k, .str z, .bool false]]) = true := by
  show PyData.eqvAll [.tuple [.str k, .str z, .bool false], .tuple [.str k, .str z, .bool false]] [.tuple [.str k, .str z, .bool false], .tuple [.str k, .str z, .bool false]] = true
  simp [PyData.eqvAll, PyData.eqv]
theorem eqv_3 (k : Str) (i : Int) : PyData.eqv (.tuple [.str k, .int i, .bool false]) (.tuple [.str k, .int i, .bool false]) = true := by
  show PyData.eqvAll [.str k, .int i, .bool false] [.str k, .int i, .bool false] = true
  simp [PyData.eqvAll, PyData.eqv]
/-- an exception of Row, BadRow or another one, told on -/
theorem paired_app {α β : Type} {R : α → β → Prop} : ∀ {xs ys : List α} {us vs : List β}, Paired R xs us → Paired R ys vs → Paired R (xs ++ ys) (us ++ vs)
  | _, _, _, _, .nil, h => h
  | _, _, _, _, .cons r t, h => .cons r (paired_app t h)
theorem paired_take {α β : Type} {R : α → β → Prop} : ∀ {xs : List α} {us : List β} (n : Nat), Paired R xs us → Paired R (xs.take n) (us.take n)
  | _, _, 0, _ => .nil
  | _, _, _ + 1, .nil => .nil
  | _, _, n + 1, .cons r t => .cons r (paired_take n t)
theorem paired_drop {α β : Type} {R : α → β → Prop} : ∀ {xs : List α} {us : List β} (n : Nat), Paired R xs us → Paired R (xs.drop n) (us.drop n)
  | _, _, 0, h => h
  | _, _, _ + 1, .nil => .nil
  | _, _, n + 1, .cons r t => paired_drop n t
theorem paired_some {M : Int} {H : Hp} : ∀ {xs : List V} {ps : PS}, Paired (StAt M H) xs ps → Paired (Ent M H) xs (ps.map some)
  | _, _, .nil => .nil
  | _, _, .cons r t => .cons (.good r) (paired_some t)
/-- of entries of which the j-th is the first that is wrong -/
theorem first_none {j i : Nat} {us vs : PS} {el : Option (List Int × Int)} (hj : us.length = j) (h : ((us.map some ++ [none]) ++ vs.map some ++ [el])[i]? = some none) (k : ∀ m, m < i → ((us.map some ++ [none]) ++ vs.map some ++ [el])[m]? ≠ some none) : i = j := by
  have hl : (us.map some).length = j := by rw [List.length_map, hj]
  have at_j : ((us.map some ++ [none]) ++ vs.map some ++ [el])[j]? = some none := by
    rw [List.append_assoc, List.append_assoc, List.getElem?_append_right (by omega), hl, Nat.sub_self]
    rfl
  rcases Nat.lt_trichotomy i j with c | c | c
  · exfalso
    rw [List.append_assoc, List.append_assoc, List.getElem?_append_left (by omega), List.getElem?_map] at h
    cases e : us[i]? with
    | none => rw [e] at h; cases h
    | some x => rw [e] at h; cases h
  · exact c
  · exact absurd at_j (k j c)
end K23
namespace K23
open PySem PySem.Spec PyProof.Rows L2 RwM Rw EV TryN LamX
/-- what the class must say of its signs -/
structure RowOp (K : PySem.W.Frag) (C fE fA : Addr) : Prop where
  eqS : PySem.W.findIn K (.ref C) "__eq__" = some (some (.ref fE))
  eqF : PySem.W.isFn K (.ref fE) = true
  neS : PySem.W.findIn K (.ref C) "__ne__" = some (some (.builtin "object.__ne__"))
  mro : PySem.W.mroIn K C (.type "object") = some true
  adS : PySem.W.findIn K (.ref C) "__add__" = some (some (.ref fA))
  adF : PySem.W.isFn K (.ref fA) = true
  fst : PySem.W.selfFirst K C = true
  rad : PySem.W.findIn K (.ref C) "__radd__" = some none
  noT : PySem.W.subIn K (.ref C) (.type "tuple") = some false
  suT : PySem.W.subIn K (.type "tuple") (.ref C) = some false
  suL : PySem.W.subIn K (.type "list") (.ref C) = some false
  tA : ∃ v, PySem.W.findIn K (.type "tuple") "__add__" = some v
  tR : ∃ v, PySem.W.findIn K (.type "tuple") "__radd__" = some v
  lA : ∃ v, PySem.W.findIn K (.type "list") "__add__" = some v
  lR : ∃ v, PySem.W.findIn K (.type "list") "__radd__" = some v
/-- nothing comes out -/
theorem passN {X : Cx} : Passes (L2.CX X.prog X.w) X E0 := fun pins σ H s e s2 I c => passes_call (W := fun _ _ _ _ => False) L2.takes0 (fun _ _ _ _ h => h) pins σ H s e s2 I c
theorem looks_type {M : Model} {h : Heap} {a : Addr} {o : Obj} {T : Value} (ho : h.get? a = some o) (hc : o.cls = T) : PySem.W.Looks M h (typeOf (.ref a)) T := fun A Q E s k q => wpAny_typeOf_ref (k _ _ ho) (by rw [hc]; exact q)
section
variable {X : Cx} {CX : CXT} {C fE fA : Addr} {fd : FuncData} {ps : List Str} {sp : Sp} {k : Nat} {E : XK}
/-- an own instance on the left, anything the heap tells the type of on the right -/
def InsL (C : Addr) (x : V) (H : Hp) : Prop := ∃ r dx fs, x = .ref r ∧ H r = some (.ins C dx fs)
def TupR (y : V) (H : Hp) : Prop := ∃ t xs, y = .ref t ∧ H t = some (.tup xs)
def LstR (y : V) (H : Hp) : Prop := ∃ t xs, y = .ref t ∧ H t = some (.lst xs)
theorem tup_type {pins : List (Addr × Obj)} {σ : L2.St} {H : Hp} {s : Shared} {t : Addr} {xs : List V} (I : Inv X pins σ H s) (h : H t = some (.tup xs)) : PySem.W.Looks (model X.prog X.w) s.heap (typeOf (.ref t)) (.type "tuple") := by
  obtain ⟨its, r, ⟨o, ho, hc, _⟩, hs⟩ := I.tuple (SqT.of h)
  exact looks_type ho hc
theorem lst_type {pins : List (Addr × Obj)} {σ : L2.St} {H : Hp} {s : Shared} {t : Addr} {xs : List V} (I : Inv X pins σ H s) (h : H t = some (.lst xs)) : PySem.W.Looks (model X.prog X.w) s.heap (typeOf (.ref t)) (.type "list") := by
  obtain ⟨_, its, n, r, ho⟩ : ObjOk X.prog X.w H s.heap t (.lst xs) := I.hok t _ h
  exact looks_type ho rfl
/-- Row == Row, Row == tuple -/
theorem op_eqO (R : RowOp X.K C fE fA) (F : FnOk X.prog X.w X.K X.mg X.base CX k fE fd ps sp) (hr : Room k X.A) (hb : Binds X.K fd ps []) (hx : Passes CX X E) :
    OpR X (compareOp .Eq) (fun x y H Q => InsL C x H ∧ (InsL C y H ∨ TupR y H) ∧ sp [x, y] H Q E) := by
  intro pins s σ H x y v u Q I rx ry ⟨hL, hy, q⟩
  obtain ⟨r, dx, fs, rfl, hR⟩ := hL
  cases (show v = Value.ref r from rx)
  obtain ⟨mA, J, _⟩ := ins_get I.hok hR
  obtain ⟨od, J, _⟩ := J.look
  obtain ⟨m, hF⟩ := I.fr
  have go : ∀ tb, PySem.W.Looks (model X.prog X.w) s.heap (typeOf u) tb → PySem.W.notFirst X.K C tb = true → wpAny (model X.prog X.w) X.A (compareOp .Eq (.ref r) u) (EP X pins σ Q) X.xe s := fun tb L hn => by
    refine PySem.W.cmp_K (op := .Eq) (tb := tb) hr.units0 hF I.ok.mod.kin J L hn R.eqS R.eqF ?_
    refine wpAny_mono (run_fn (us := [.ref r, u]) (vs := [.ref r, y]) F hr hb .nil hx I (.cons rx (.cons ry .nil)) q) (fun w s2 z => ?_) fun _ _ z => z
    obtain ⟨z2, H2, I2, rz, qz⟩ := z
    exact SlX.cmpback rz ⟨z2, H2, I2, rz, qz⟩
  rcases hy with ⟨r2, dx2, fs2, rfl, h2⟩ | ⟨t, xs, rfl, h2⟩
  · cases (show u = Value.ref r2 from ry)
    obtain ⟨mB, J2, _⟩ := ins_get I.hok h2
    obtain ⟨od2, J2, _⟩ := J2.look
    exact go (.ref C) J2.type (by simp [PySem.W.notFirst])
  · cases (show u = Value.ref t from ry)
    exact go (.type "tuple") (tup_type I h2) (by simp [PySem.W.notFirst, R.suT])
/-- Row + Row, Row + tuple, Row + list -/
theorem op_adO (R : RowOp X.K C fE fA) (F : FnOk X.prog X.w X.K X.mg X.base CX k fA fd ps sp) (hr : Room k X.A) (hb : Binds X.K fd ps []) (hx : Passes CX X E) :
    OpR X (binaryOp .Add) (fun x y H Q => InsL C x H ∧ (InsL C y H ∨ TupR y H ∨ LstR y H) ∧ sp [x, y] H Q E) := by
  intro pins s σ H x y v u Q I rx ry ⟨hL, hy, q⟩
  obtain ⟨r, dx, fs, rfl, hR⟩ := hL
  cases (show v = Value.ref r from rx)
  obtain ⟨mA, J, _⟩ := ins_get I.hok hR
  obtain ⟨od, J, _⟩ := J.look
  obtain ⟨m, hF⟩ := I.fr
  have run : wpAny (model X.prog X.w) X.A (call (.ref fA) [.ref r, u]) (PySem.W.CmpBack (EP X pins σ Q)) X.xe s := by
    refine wpAny_mono (run_fn (us := [.ref r, u]) (vs := [.ref r, y]) F hr hb .nil hx I (.cons rx (.cons ry .nil)) q) (fun w s2 z => ?_) fun _ _ z => z
    obtain ⟨z2, H2, I2, rz, qz⟩ := z
    exact SlX.cmpback rz ⟨z2, H2, I2, rz, qz⟩
  have X0 := I.ok.mod.kin.keeps hF.keep
  obtain ⟨cd, rest, hcd, hm⟩ := PySem.W.ksp_first R.fst
  have foreign : ∀ {T : String} {fo ro : Option Value}, PySem.W.Looks (model X.prog X.w) s.heap (typeOf u) (.type T) → PySem.W.subIn X.K (.type T) (.ref C) = some false → PySem.W.findIn X.K (.type T) "__add__" = some fo → PySem.W.findIn X.K (.type T) "__radd__" = some ro →
      wpAny (model X.prog X.w) X.A (binaryOp .Add (.ref r) u) (EP X pins σ Q) X.xe s := by
    intro T fo ro LT hsub h1 h2
    have hs : PySem.W.findIn X.K (.ref C) (PySem.dunder (Operator.Add).info.2) = some (some (.ref fA)) := R.adS
    have hq : PySem.W.findIn X.K (.ref C) (dunderR (Operator.Add).info.2) = some none := R.rad
    have k1 : PySem.W.findIn X.K (.type T) (PySem.dunder (Operator.Add).info.2) = some fo := h1
    have k2 : PySem.W.findIn X.K (.type T) (dunderR (Operator.Add).info.2) = some ro := h2
    rcases hi : (Operator.Add).info with ⟨sym, nm'⟩
    rw [hi] at hs hq k1 k2
    dsimp only at hs hq k1 k2
    have one := PySem.W.ksp_try X0 J hs R.adF run
    obtain ⟨hh, g, d, tt, os⟩ := s
    have L1 : PySem.W.Looks (model X.prog X.w) hh (typeOf (.ref r)) (.ref C) := J.type
    have L2' : PySem.W.Looks (model X.prog X.w) hh (typeOf u) (.type T) := LT
    have L3 : PySem.W.Looks (model X.prog X.w) hh (fillsNumberSlot (.ref C) nm') true := PySem.W.fills_K X0 hcd hm hs
    have L4 : PySem.W.Looks (model X.prog X.w) hh (fillsNumberSlot (.type T) nm') ((fo.isSome && !isSeqSlot fo) || (ro.isSome && !isSeqSlot ro)) := PySem.W.ksp_fillsT X0 k1 k2
    have L5 : PySem.W.Looks (model X.prog X.w) hh (isSubtype (.type T) (.ref C)) false := PySem.W.looks_subIn X0 hsub
    have L6 : PySem.W.Looks (model X.prog X.w) hh (numberSlotInPython (.ref C) nm') true := PySem.W.ksp_inPy X0 hs hq (.inl rfl)
    have L7 : PySem.W.Looks (model X.prog X.w) hh (numberSlotInPython (.type T) nm') false := PySem.W.Looks.of_pure rfl
    have L8 : PySem.W.Looks (model X.prog X.w) hh (typeLookup (.type T) (dunderR nm')) ro := PySem.W.looks_findIn X0 k2
    generalize ((fo.isSome && !isSeqSlot fo) || (ro.isSome && !isSeqSlot ro)) = right at L4
    have hne : (Value.ref C == Value.type T) = false := Bool.eq_false_iff.mpr fun q => by cases beq_iff_eq.mp q
    simp only [binaryOp, hi]
    refine wpAny_holding (wpAny_bind ?_)
    unfold binaryOp1
    refine wpAny_bind (L1.at (wpAny_bind (L2'.at (wpAny_bind (L3.at ?_)))))
    simp only [hne, Bool.false_eq_true, if_false]
    cases right with
    | false =>
      ksp_lk
      refine wpAny_mono one (fun r2 s2 hr2 => ?_) fun _ _ e => e
      obtain ⟨v2, rfl, hq⟩ := hr2
      ksp_lk
      exact hq
    | true =>
      ksp_lk
      refine wpAny_mono one (fun r2 s2 hr2 => ?_) fun _ _ e => e
      obtain ⟨v2, rfl, hq⟩ := hr2
      ksp_lk
      exact hq
  rcases hy with ⟨r2, dx2, fs2, rfl, h2⟩ | ⟨t, xs, rfl, h2⟩ | ⟨t, xs, rfl, h2⟩
  · cases (show u = Value.ref r2 from ry)
    obtain ⟨mB, J2, _⟩ := ins_get I.hok h2
    obtain ⟨od2, J2, _⟩ := J2.look
    exact PySem.W.binop_K hF I.ok.mod.kin J J2.type R.fst R.adS R.adF run
  · cases (show u = Value.ref t from ry)
    obtain ⟨v1, e1⟩ := R.tA
    obtain ⟨v2, e2⟩ := R.tR
    exact foreign (tup_type I h2) R.suT e1 e2
  · cases (show u = Value.ref t from ry)
    obtain ⟨v1, e1⟩ := R.lA
    obtain ⟨v2, e2⟩ := R.lR
    exact foreign (lst_type I h2) R.suL e1 e2
end
end K23
namespace K23
open PySem PySem.Spec PyProof.Rows L2 RwM Rw EV TryN LamX
open Builtin in
theorem objNe_own {prog : Program} {w : World} {A : Around} {E : Value → Shared → Prop} {s : Shared} {K : PySem.W.Frag} {x y C f : Addr} {ox : Obj} {od : Option Obj} {Q : Fin → Shared → Prop} (X : K.In s.heap) (I : PySem.W.InstAt s.heap x ox C od)
    (hs : PySem.W.findIn K (.ref C) "__eq__" = some (some (.ref f))) (hf : PySem.W.isFn K (.ref f) = true) (hu : A.units < cLine)
    (hcall : wpAny (model prog w) A (call (.ref f) [.ref x, .ref y]) (fun v s2 => ∃ b, v = .bool b ∧ Q (.done (.ret (.bool (!b)))) s2) E s) :
    wpAny (model prog w) A (Builtin.«object.__ne__» ⟨[.ref x, .ref y], []⟩) Q E s := by
  unfold Builtin.«object.__ne__»
  repeat (first
    | with_reducible refine wpAny_cRoomFor hu ?_
    | (refine wpAny_bind (m := callSpecialIfBound? (.ref x) (Str.ofString "__eq__") [.ref y])
        (PySem.W.ifBound_K X I hs hf (wpAny_mono hcall (fun r s2 hr => by
          obtain ⟨b, rfl, hq⟩ := hr
          repeat (first | exact hq | exact wpAny_pure hq | exact wpAny_truthy_bool hq | (refine wpAny_bind (m := truthy (.bool _)) (wpAny_truthy_bool ?_)) | wp_step)) fun _ _ e => e)))
    | wp_step)
theorem bound_objNe {M : Model} {A : Around} {E : Value → Shared → Prop} {s : Shared} {K : PySem.W.Frag} {x C : Addr} {ox : Obj} {od : Option Obj} {args : List Value} {Q : Option Value → Shared → Prop} (X : K.In s.heap) (I : PySem.W.InstAt s.heap x ox C od)
    (hs : PySem.W.findIn K (.ref C) "__ne__" = some (some (.builtin "object.__ne__"))) (h : wpAny M A (call (.builtin "object.__ne__") (.ref x :: args)) (fun v => Q (some v)) E s) : wpAny M A (callSpecialIfBound? (.ref x) "__ne__" args) Q E s := by
  simp only [callSpecialIfBound?, bindSpecialIfBound?]
  refine wpAny_holding (wpAny_bind (wpAny_bind (wpAny_bind (I.type.here ((PySem.W.looks_findIn X hs).here ?_)))))
  refine wpAny_bind (wpAny_askSetting (wpAny_ite ?_))
  have last : wpAny M A (call (.builtin "object.__ne__") ([.ref x] ++ args) >>= fun v => pure (some v)) Q E s := wpAny_bind (wpAny_mono h (fun v s2 z => wpAny_pure z) fun _ _ z => z)
  split
  · exact wpAny_bind (wpAny_of_eq (F.cmp_object.ne.bind _) (wpAny_pure (by exact last)))
  · exact wpAny_tryCatch (wpAny_bind (wpAny_of_eq (F.cmp_object.ne.bind _) (wpAny_pure (by exact last))))
section
variable {X : Cx} {CX : CXT} {C fE fA : Addr} {fd : FuncData} {ps : List Str} {sp : Sp} {k : Nat} {E : XK}
/-- the callee runs one level further in -/
theorem run_in1 {pins : List (Addr × Obj)} {σ : L2.St} {H : Hp} {s : Shared} {Q : VK} {f : Addr} {us : List Value} {vs : List V} (F : FnOk X.prog X.w X.K X.mg X.base CX k f fd ps sp) (hr : Room k X.A.in1) (hb : Binds X.K fd ps []) (hx : Passes CX X E)
    (I : Inv X pins σ H s) (r : Vals vs us) (h : sp vs H Q E) : wpAny (model X.prog X.w) X.A.in1 (call (.ref f) us) (EP X pins σ Q) X.xe s := by
  have hl : us.length = ps.length := by rw [← r.length]; exact F.len _ _ _ _ h
  have bb := hb s us I.kIn (by rw [List.append_nil]; exact hl)
  rw [List.append_nil] at bb
  refine wpAny_call (codeAny_mono (F.run X.A.in1 X.stack s H ⟨us, []⟩ us vs Q E hr I.env0.in1 bb r h) fun res s2 out => ?_)
  match res, out with
  | .error e, out => exact hx pins σ H s e s2 I out
  | .ok (.ret _), out => exact I.after out
  | .ok .next, out => exact False.elim out
  | .ok .brk, out => exact False.elim out
  | .ok .cont, out => exact False.elim out
/-- Row != Row -/
theorem op_neO (R : RowOp X.K C fE fA) (F0 : FnOk X.prog X.w X.K X.mg X.base CX k fE fd ps sp) (hr : Room (k + 1) X.A) (hb : Binds X.K fd ps []) (hx : Passes CX X E) :
    OpR X (compareOp .NotEq) (fun x y H Q => InsL C x H ∧ InsL C y H ∧ sp [x, y] H (fun v H2 => ∃ b, v = .bl b ∧ Q (.bl (!b)) H2) E) := by
  intro pins s σ H x y v u Q I rx ry ⟨hL, hM, q⟩
  obtain ⟨r, dx, fs, rfl, hR⟩ := hL
  obtain ⟨r2, dx2, fs2, rfl, h2⟩ := hM
  cases (show v = Value.ref r from rx)
  cases (show u = Value.ref r2 from ry)
  obtain ⟨mA, J, _⟩ := ins_get I.hok hR
  obtain ⟨od, J, _⟩ := J.look
  obtain ⟨mB, J2, _⟩ := ins_get I.hok h2
  obtain ⟨od2, J2, _⟩ := J2.look
  have KX := I.kIn
  have run := run_in1 (pins := pins) (σ := σ) (us := [.ref r, .ref r2]) (vs := [.ref r, .ref r2]) F0 hr.in1 hb hx I (.cons rfl (.cons rfl .nil)) q
  have one : wpAny (model X.prog X.w) X.A (tryCompare (.ref r) "__ne__" (.ref r2)) (fun a s2 => ∃ b, a = some (.bool b) ∧ EP X pins σ Q (.bool b) s2) X.xe s := by
    unfold tryCompare
    refine wpAny_bind (bound_objNe KX J R.neS (wpAny_call (codeAny_call_builtin F.cmp_object.ne.plain F.cmpEntry_ne (PySem.W.check_slot F.cmpKind_ne F.cmpSplit_ne (J.type.andThen (PySem.W.looks_mroIn KX R.mro)) (F.cmpArgs_ne _ _)
      (objNe_own KX J R.eqS R.eqF hr.in1.units0 (wpAny_mono run (fun a s2 z => ?_) fun _ _ z => z))))))
    obtain ⟨v3, H3, I3, r3, b, e3, q3⟩ := z
    subst e3
    cases (show a = Value.bool b from r3)
    exact ⟨b, rfl, wpAny_pure ⟨_, rfl, .bl _, H3, I3, rfl, q3⟩⟩
  unfold compareOp richCompare
  simp only [oneThing_ref]
  refine wpAny_holding (wpAny_bind (wpAny_cRoomFor hr.units0 ?_))
  rw [cmpInfo_NotEq]
  dsimp only
  refine wpAny_bind (J.type.here (wpAny_bind (J2.type.here ?_)))
  rw [show (Value.ref C != Value.ref C) = false from by simp]
  simp only [Bool.false_eq_true, if_false]
  refine wpAny_bind (wpAny_pure ?_)
  simp only [Bool.false_eq_true, if_false]
  refine wpAny_bind (wpAny_mono one (fun a s2 z => ?_) fun _ _ z => z)
  obtain ⟨b, rfl, hq⟩ := z
  first | exact wpAny_pure hq | exact wpAny_pure (wpAny_pure hq)
/-- tuple == Row -/
theorem op_eqTR (R : RowOp X.K C fE fA) (F0 : FnOk X.prog X.w X.K X.mg X.base CX k fE fd ps sp) (hr : Room (k + 1) X.A) (hb : Binds X.K fd ps []) (hx : Passes CX X E) :
    OpR X (compareOp .Eq) (fun x y H Q => TupR x H ∧ InsL C y H ∧ sp [y, x] H Q E) := by
  intro pins s σ H x y v u Q I rx ry ⟨hL, hM, q⟩
  obtain ⟨t, xs, rfl, ht⟩ := hL
  obtain ⟨r, dx, fs, rfl, hR⟩ := hM
  cases (show v = Value.ref t from rx)
  cases (show u = Value.ref r from ry)
  obtain ⟨mA, J, _⟩ := ins_get I.hok hR
  obtain ⟨od, J, _⟩ := J.look
  have KX := I.kIn
  have LT := tup_type I ht
  obtain ⟨its, rr, hIs, hs⟩ := I.tuple (SqT.of ht)
  have hT := hIs.typeIs
  have one : wpAny (model X.prog X.w) X.A (tryCompare (.ref t) "__eq__" (.ref r)) (fun a s2 => a = none ∧ s2 = s) X.xe s := by
    refine wpAny_tryCompare_declines hT F.slot_tuple_eq (GQ.call_here F.slot_tuple_eq hT F.entry_tuple_eq (F.args_tuple_eq_2 _ _) ?_)
    show wpAny _ _ (isInstance (.ref r) (.type "tuple") >>= _) _ _ s
    have li : PySem.W.Looks (model X.prog X.w) s.heap (isInstance (.ref r) (.type "tuple")) false := J.type.andThen (PySem.W.looks_subIn KX R.noT)
    refine wpAny_bind (li.here ?_)
    rw [if_pos (show (!false) = true from rfl)]
    exact wpAny_pure ⟨rfl, rfl, rfl⟩
  have two : wpAny (model X.prog X.w) X.A (tryCompare (.ref r) "__eq__" (.ref t)) (fun a s2 => ∃ v, a = some v ∧ EP X pins σ Q v s2) X.xe s := by
    unfold tryCompare
    refine wpAny_bind (PySem.W.ifBound_K KX J R.eqS R.eqF (wpAny_mono (run_fn (us := [.ref r, .ref t]) (vs := [.ref r, .ref t]) F0 (hr.mono (Nat.le_succ k)) hb .nil hx I (.cons rfl (.cons rfl .nil)) q) (fun v s2 z => ?_) fun _ _ z => z))
    obtain ⟨z2, H2, I2, rz, qz⟩ := z
    have cb : PySem.W.CmpBack (EP X pins σ Q) v s2 := SlX.cmpback rz ⟨z2, H2, I2, rz, qz⟩
    cases v <;> first | exact cb.elim | exact wpAny_pure ⟨_, rfl, cb⟩
  unfold compareOp
  simp only [richCompare, cmpInfo_Eq, oneThing_ref]
  refine wpAny_holding (wpAny_bind (wpAny_cRoomFor hr.units0 ?_))
  refine wpAny_bind (LT.here (wpAny_bind (J.type.here ?_)))
  split
  · refine wpAny_bind ((PySem.W.looks_subIn KX R.noT).here ?_)
    simp only [Bool.false_eq_true, if_false, Bool.not_false, if_true]
    refine wpAny_bind (m := tryCompare (.ref t) _ (.ref r)) (wpAny_mono one (fun a s2 z => ?_) fun _ _ z => z)
    obtain ⟨z1, z2⟩ := z
    subst z1 z2
    refine wpAny_bind (m := tryCompare (.ref r) _ (.ref t)) (wpAny_mono two (fun a s2 z => ?_) fun _ _ z => z)
    obtain ⟨v2, rfl, hq⟩ := z
    exact wpAny_pure hq
  · rename_i q2
    exact absurd (by simp) q2
end
end K23
namespace K23
open PySem PySem.Spec PyProof.Rows L2 RwM Rw EV TryN LamX
/-- a method of a class, with its promise -/
structure MethOk (P : Program) (w : World) (K : PySem.W.Frag) (mg : Str → Option Value) (base : Heap) (CX : CXT) (k : Nat) (C : Addr) (m : Str) (ps : List Str) (sp : Sp) (f : Addr) (fd : FuncData) : Prop where
  ok : FnOk P w K mg base CX k f fd ps sp
  at' : Meth K C m f
  bd : Binds K fd ps []
/-- the class Row -/
structure RowKit (P : Program) (w : World) (K : PySem.W.Frag) (mg : Str → Option Value) (base : Heap) (CR CO CT : Addr) (f : Nat → Addr) (fd : Nat → FuncData) : Prop where
  cR : Cls K CR
  total : MethOk P w K mg base CX0 2 CR "total" ["self"] (spTotal CR) (f 0) (fd 0)
  bud : MethOk P w K mg base (L2.CX P w) 3 CR "bud" ["self", "index"] (spBud CR CO) (f 1) (fd 1)
  plain : FnOk P w K mg base (L2.CX P w) 3 (f 2) (fd 2) ["self", "most"] (spPlain CR CT)
  plainM : Meth K CR "plain" (f 2)
  plainD : ∃ ds, Vals [V.int 2000] ds ∧ Binds K (fd 2) ["self", "most"] ds
  plainK : KBn K (fd 2) ["self", "most"] 1 ["most"] (fun us ws => us ++ ws) (fun us ws => us ++ ws)
  beginning : MethOk P w K mg base (L2.CX P w) 8 CR "beginning" ["self", "many"] (spPart CR CO fun l m => l.take m) (f 3) (fd 3)
  behind : MethOk P w K mg base (L2.CX P w) 8 CR "behind" ["self", "many"] (spPart CR CO fun l m => l.drop m) (f 4) (fd 4)
  before : MethOk P w K mg base CX0 4 CR "before" ["self", "other"] (spBefore CR) (f 5) (fd 5)
  common : MethOk P w K mg base CX0 4 CR "common" ["self", "other"] (spCommonM CR) (f 6) (fd 6)
  eq : FnOk P w K mg base CX0 4 (f 7) (fd 7) ["self", "other"] (spEqM CR K)
  eqB : Binds K (fd 7) ["self", "other"] []
  add : FnOk P w K mg base (L2.CX P w) 8 (f 8) (fd 8) ["self", "other"] (spAddM CR)
  addB : Binds K (fd 8) ["self", "other"] []
  op : RowOp K CR (f 7) (f 8)
/-- o.m(k = v) -/
def tMethK (C : Addr) (m : Str) (sp : Sp) (gV : List V → List V → List V) (E : XK) (ta : TE) (tk : TA) : TE := fun σ H Q => ta σ H fun x H1 => ∃ a dx fs, x = .ref a ∧ H1 a = some (.ins C dx fs) ∧ fs.lookup m = none ∧ tk σ H1 fun zs H2 => sp (gV [x] zs) H2 Q E
theorem pe_methKw {X : Cx} {CX : CXT} {k : Nat} {f C : Addr} {fd : FuncData} {ps ks : List Str} {sp : Sp} {E : XK} {m : Str} {pos apos : Pos} {o : Expr} {kws : List Keyword} {ta : TE} {tk : TA} {g : List Value → List Value → List Value} {gV : List V → List V → List V} {pl : Sem Bool}
    (he : PE X o ta) (c : Cls X.K C) (hm : Meth X.K C m f) (F : FnOk X.prog X.w X.K X.mg X.base CX k f fd ps sp) (hr : Room k X.A) (hb : KBn X.K fd ps 1 ks g gV) (hx : Passes CX X E) (hkw : PK X kws tk)
    (hall : (backToKw pos (keywordEach kws X.env)).all (·.1.isSome) = true := by rfl) (hks : (backToKw pos (keywordEach kws X.env)).filterMap (·.1) = ks := by rfl)
    (hpl : ((backTo pos (starEach [] X.env)).any (·.1) || (backToKw pos (keywordEach kws X.env)).any (·.1.isNone)) = false := by rfl)
    (ht : eval (.Call (.Attribute o m apos) [] kws pos) X.env = (do
      let ov ← eval o X.env
      standAt apos.atName
      let (f, first) ← holding [ov] (getMethod ov m pl)
      callWith pos f first (backTo pos (starEach [] X.env)) (backToKw pos (keywordEach kws X.env))) := by rfl)
    (hn : ∀ (y : V) (zs : List V), (gV [y] zs).length = ps.length → zs.length = ks.length := by intro y zs h; exact Nat.succ.inj h) :
    PE X (.Call (.Attribute o m apos) [] kws pos) (tMethK C m sp gV E ta tk) := by
  refine ⟨fun pins s σ H Q I h => PySem.W.methodCall_KW (pl := pl) (thn (he.run pins s σ H _ I h) fun u s1 ⟨x, H1, I1, rx, a, dx, fs, ex, ea, l, q⟩ => ?_) ht⟩
  subst ex
  obtain rfl : u = Value.ref a := rx
  refine getmeth_ok I1 ea c hm l (PySem.W.callWith_KW0 (first := [.ref a]) (h₀ := X.base) I.ok.mod.kin hm.kp hall (thn (hkw.run pos pins s1 σ H1 _ I1 q) fun ws s2 ⟨zs, H2, I2, rz, q2⟩ => ⟨I2.kIn, ?_⟩) hpl)
  rw [hks]
  exact run_fnN (us := [.ref a]) (vs := [.ref a]) F hr hb hx I2 (.cons rfl .nil) rz rfl (hn _ _ (F.len _ _ _ _ q2)) q2
theorem cp_take : ∀ (i : Nat) (u v : List Int), i < u.length → i < v.length → (u.take (i + 1) = v.take (i + 1) ↔ i < cp u v)
  | i, [], v, h, _ => absurd h (Nat.not_lt_zero _)
  | i, _ :: _, [], _, h => absurd h (Nat.not_lt_zero _)
  | 0, a :: u, b :: v, _, _ => by
    rw [cp_cons]
    constructor
    · intro e
      have e2 : a = b := by simpa using e
      rw [if_pos e2]
      omega
    · intro e
      by_cases c : a = b
      · simp [c]
      · rw [if_neg c] at e; omega
  | i + 1, a :: u, b :: v, h1, h2 => by
    have ih := cp_take i u v (Nat.lt_of_succ_lt_succ h1) (Nat.lt_of_succ_lt_succ h2)
    rw [cp_cons, List.take_succ_cons, List.take_succ_cons]
    by_cases c : a = b
    · rw [if_pos c]
      constructor
      · intro e
        have := ih.mp (List.cons.inj e).2
        omega
      · intro e
        rw [c, ih.mpr (by omega)]
    · rw [if_neg c]
      constructor
      · intro e
        exact absurd (List.cons.inj e).1 c
      · intro e; omega
theorem paired_mem {α β : Type} {R : α → β → Prop} : ∀ {xs : List α} {ys : List β}, Paired R xs ys → ∀ y ∈ ys, ∃ x, R x y
  | _, _, .nil, y, h => absurd h (by simp)
  | _, _, .cons r t, y, h => by
    rcases List.mem_cons.mp h with e | e
    · rw [e]; exact ⟨_, r⟩
    · exact paired_mem t y e
theorem PairAt.butN {k : Addr} {o : HO} {H H' : Hp} {v : V} {p : List Int × Int} (h : PairAt H v p) (hk : H k = some o) (hn : ∀ xs, o ≠ .tup xs) (s : But k H H') : PairAt H' v p := by
  obtain ⟨q, a, e, h1, h2⟩ := h
  exact ⟨q, a, e, s _ _ (ne_of h1 hk (fun z => hn _ z.symm)) h1, s _ _ (ne_of h2 hk (fun z => hn _ z.symm)) h2⟩
theorem Prs.butN {k : Addr} {o : HO} {H H' : Hp} {vs : List V} {ps : PS} (h : Prs H vs ps) (hk : H k = some o) (hn : ∀ xs, o ≠ .tup xs) (s : But k H H') : Prs H' vs ps := L2.Paired.mapP h fun _ _ z => PairAt.butN z hk hn s
theorem neI {K : PySem.W.Frag} {H : Hp} {a b : Addr} {xs ys : List Int} {Q : VK} (ha : TupI H a xs) (hb : TupI H b ys) (q : Q (.bl (!decide (xs = ys))) H) : rNeD K (.ref a) (.ref b) H Q :=
  ⟨_, _, .tup (SqT.of ha) (dp_all xs), .tup (SqT.of hb) (dp_all ys), shaped_tup _, shaped_tup _, by rw [eqv_tup]; exact q⟩
theorem shaped_lst (ns : List Int) : SeqAt.shaped (.list (ns.map PyData.int)) = true := by
  have z := shaped_tup ns
  unfold SeqAt.shaped at z ⊢
  rw [Bool.and_eq_true] at z ⊢
  exact ⟨z.1, z.2⟩
theorem eqL {K : PySem.W.Frag} {H : Hp} {a b : Addr} {xs ys : List Int} {Q : VK} (ha : H a = some (.lst (xs.map V.int))) (hb : H b = some (.lst (ys.map V.int))) (q : Q (.bl (decide (xs = ys))) H) : rEqD K (.ref a) (.ref b) H Q :=
  ⟨_, _, .lst (SqL.of ha) (dp_all xs), .lst (SqL.of hb) (dp_all ys), shaped_lst _, shaped_lst _, by
    have e : PyData.eqv (.list (xs.map PyData.int)) (.list (ys.map PyData.int)) = decide (xs = ys) := eqv_tup xs ys
    rw [e]; exact q⟩
theorem cp_comm : ∀ u v : List Int, cp u v = cp v u
  | [], v => by rw [cp_nil_left, cp_nil_right]
  | _ :: _, [] => rfl
  | a :: u, b :: v => by
    rw [cp_cons, cp_cons, cp_comm u v]
    by_cases c : a = b
    · rw [if_pos c, if_pos c.symm]
    · rw [if_neg c, if_neg (fun z => c z.symm)]
theorem sl_to2 {H : Hp} {a : Addr} {fl : List Int} {k : Nat} {i : Int} {Q : VK} (h : TupI H a fl) (ei : i = (k : Int)) (q : ∀ (l : Addr) (H' : Hp), Same H H' → TupI H' l (fl.take k) → Q (.ref l) H') : rSlN (.ref a) none (some i) H Q := by
  subst ei
  exact sl_to h q
theorem Same.updN {D : Addr} {o : HO} {H H' : Hp} (b : Same H H') (hD : H D = none) : Same H (upd H' D o) := fun c u e => by
  rw [upd_ne (ne_of_none e hD)]
  exact b c u e
theorem RA.sd {C : Addr} {H H' : Hp} {v : V} {l : List Int} {n : Nat} (h : RA C H v l n) (s : Sd H H') : RA C H' v l n := by
  cases h with
  | row h => exact .row (h.sd s)
  | plain h l => exact .plain (s.sqa h) l
theorem RowV.ins {C : Addr} {H : Hp} {r : Addr} {ps : PS} (h : RowV C H r ps) : ∃ dx t, H r = some (.ins C dx [("stretches", .ref t)]) := by
  obtain ⟨dx, t, h1, _⟩ := h
  exact ⟨dx, t, h1⟩
theorem RowV.insL {C : Addr} {H : Hp} {r : Addr} {ps : PS} (h : RowV C H r ps) : InsL C (.ref r) H := by
  obtain ⟨dx, t, h1⟩ := h.ins
  exact ⟨r, dx, _, rfl, h1⟩
theorem map_some_inj {α : Type} : ∀ {us vs : List α}, us.map some = vs.map some → us = vs
  | [], [], _ => rfl
  | [], _ :: _, h => by cases h
  | _ :: _, [], h => by cases h
  | a :: us, b :: vs, h => by
    have h1 := List.cons.inj h
    cases h1.1
    rw [map_some_inj h1.2]
/-- Row(..) of a list of right stretches -/
theorem mk_rowL {K : PySem.W.Frag} {M : Int} {CR CU CB c : Addr} {ws : List V} {qs : PS} {H1 : Hp} {Q : Addr → Hp → Prop} {E : XK} (hc : H1 c = some (.lst ws)) (hP : Paired (StAt M H1) ws qs) (hl : qs.length ≤ 20)
    (q : ∀ (r2 : Addr) (H' : Hp), Same H1 H' → H1 r2 = none → RowV CR H' r2 qs → Q r2 H') :
    ∀ x dx, H1 x = none → H1 dx = none → dx ≠ x → spRowI K M CR CU CB [.ref x, .ref c] (upd (upd H1 dx (.own x)) x (.ins CR dx [])) (fun v H3 => v = .non ∧ Q x H3) E := by
  intro x dx nx nd ne
  have s1 : Same H1 (upd (upd H1 dx (.own x)) x (.ins CR dx [])) := (sameNew nd).trans (sameNew (by rw [upd_ne (Ne.symm ne)]; exact nx))
  have hx : (upd (upd H1 dx (.own x)) x (.ins CR dx [])) x = some (.ins CR dx []) := upd_same
  have hc1 := s1 _ _ hc
  have hP1 : Paired (Ent M (upd (upd H1 dx (.own x)) x (.ins CR dx []))) ws (qs.map some) := paired_some (L2.Paired.mapP hP fun _ _ z => StAt.same z s1)
  have lw : ws.length = qs.length := hP.length
  refine ⟨x, dx, .ref c, rfl, hx, .inr ⟨⟨_, .inl (.lst hc1)⟩, .ref c, _, rfl, .inl (.lst hc1), .inr ⟨ws, qs.map some, rfl, by omega, hP1, fun i hi _ => ?_, fun ps e t ws2 H2 s2 n2 ht2 hP2 => ?_⟩⟩⟩
  · rw [List.getElem?_map] at hi
    cases z : qs[i]? with
    | none => rw [z] at hi; cases hi
    | some y => rw [z] at hi; cases hi
  · have eq := map_some_inj e
    subst eq
    refine ⟨s2 _ _ hx, rfl, ?_⟩
    have s3 : Same H1 (upd H2 x (.ins CR dx [("stretches", .ref t)])) := Same.made nx nd fun b o e2 nb => by rw [upd_ne nb]; exact s2 _ _ e2
    have hx2 := s2 _ _ hx
    have bx : But x H2 (upd H2 x (.ins CR dx [("stretches", .ref t)])) := .put
    have hS : ∀ p ∈ qs, 0 ≤ p.2 ∧ 0 < p.1.length ∧ p.1.length ≤ 100000 := fun p hp => by
      obtain ⟨v, hv⟩ := paired_mem hP p hp
      exact ⟨hv.tm.1, hv.ln.1, by have := hv.ln.2; omega⟩
    exact q x _ s3 nx ⟨dx, t, upd_same, ⟨ws2, bx _ _ (ne_of ht2 hx2 (by intro z; cases z)) ht2, Prs.butN hP2 hx2 (fun _ z => by cases z) bx⟩, by omega, fun p hp => (hS p hp).1, fun p hp => (hS p hp).2⟩
theorem lex_eq : ∀ u v : List Int, lexLt u v = HT.lexLt u v
  | [], [] => rfl
  | [], _ :: _ => rfl
  | _ :: _, [] => rfl
  | a :: as, b :: bs => by
    rw [HT.lexLt_cons, ← lex_eq as bs]
    rfl
theorem stat_of {M : Int} {H : Hp} : ∀ {ws : List V} {qs : PS}, Prs H ws qs → (∀ q ∈ qs, (1 ≤ q.1.length ∧ q.1.length ≤ 40) ∧ Low q.1 ∧ 0 ≤ q.2 ∧ q.2 ≤ M) → Paired (StAt M H) ws qs
  | _, _, .nil, _ => .nil
  | _, _, .cons r t, h => by
    obtain ⟨q, a, e, h1, h2⟩ := r
    obtain ⟨k1, k2, k3⟩ := h _ (List.mem_cons_self ..)
    exact .cons ⟨⟨q, a, e, h1, .inr h2⟩, k1, k2, k3⟩ (stat_of t fun q hq => h q (List.mem_cons_of_mem _ hq))
section
variable {P : Program} {w : World} {K : PySem.W.Frag} {mg : Str → Option Value} {base : Heap}
end
end K23
namespace K23
open PySem PySem.Spec PyProof.Rows L2 RwM Rw EV TryN LamX
/-! rows that begin others, and rows that part -/
theorem cp_pre : ∀ l y : List Int, cp l (l ++ y) = l.length
  | [], y => cp_nil_left y
  | a :: l, y => by rw [List.cons_append, cp_cons, if_pos rfl, cp_pre l y]; rfl
theorem cp_pre2 (l y : List Int) : cp (l ++ y) l = l.length := by rw [cp_comm, cp_pre]
theorem cp_same (l : List Int) : cp l l = l.length := by
  have := cp_pre l []
  rwa [List.append_nil] at this
theorem cp_part {a b : Int} (h : a ≠ b) (x y : List Int) : ∀ l : List Int, cp (l ++ a :: x) (l ++ b :: y) = l.length
  | [] => by rw [List.nil_append, List.nil_append, cp_cons, if_neg h]; rfl
  | c :: l => by rw [List.cons_append, List.cons_append, cp_cons, if_pos rfl, cp_part h x y l]; rfl
theorem lt_cons (a b : Int) (x y : List Int) : lexLt (a :: x) (b :: y) = if a = b then lexLt x y else decide (a < b) := rfl
theorem lt_pre (a : Int) (y : List Int) : ∀ l : List Int, lexLt l (l ++ a :: y) = true
  | [] => rfl
  | c :: l => by rw [List.cons_append, lt_cons, if_pos rfl, lt_pre a y l]
theorem lt_pre2 : ∀ l y : List Int, lexLt (l ++ y) l = false
  | [], [] => rfl
  | [], _ :: _ => rfl
  | c :: l, y => by rw [List.cons_append, lt_cons, if_pos rfl, lt_pre2 l y]
theorem lt_same (l : List Int) : lexLt l l = false := by
  have := lt_pre2 l []
  rwa [List.append_nil] at this
theorem lt_part {a b : Int} (h : a ≠ b) (x y : List Int) : ∀ l : List Int, lexLt (l ++ a :: x) (l ++ b :: y) = decide (a < b)
  | [] => by rw [List.nil_append, List.nil_append, lt_cons, if_neg h]
  | c :: l => by rw [List.cons_append, List.cons_append, lt_cons, if_pos rfl, lt_part h x y l]
theorem take_plus {l : List Int} {c : Nat} (h : c < l.length) : l = l.take c ++ l[c] :: l.drop (c + 1) := by
  rw [← List.drop_eq_getElem_cons h, List.take_append_drop]
theorem lt_take {l : List Int} {c : Nat} (h : c ≤ l.length) : lexLt (l.take c) l = decide (c < l.length) := by
  by_cases g : c < l.length
  · have e := lt_pre l[c] (l.drop (c + 1)) (l.take c)
    rw [← take_plus g] at e
    rw [e, decide_eq_true g]
  · rw [List.take_of_length_le (by omega), lt_same, decide_eq_false g]
theorem lt_take2 (l : List Int) (c : Nat) : lexLt l (l.take c) = false := by
  have e := lt_pre2 (l.take c) (l.drop c)
  rwa [List.take_append_drop] at e
theorem cp_take2 {l : List Int} {c : Nat} (h : c ≤ l.length) : cp l (l.take c) = c := by
  have e := cp_pre2 (l.take c) (l.drop c)
  rw [List.take_append_drop, List.length_take] at e
  omega
theorem drop_at {l : List Int} {c i : Nat} : (l.drop c)[i]? = l[c + i]? := List.getElem?_drop ..
end K23
namespace K23
open PySem PySem.Spec PyProof.Rows L2 RwM Rw EV TryN LamX
abbrev sSame : Stmt := top 47
abbrev qSame : Str := (envOfC "_law_same_right" (defScope sSame) 0 0 .none).qual ++ "<lambda>"
/-- what the law's raised calls rest on -/
structure RaiAll (P : Program) (w : World) (K : PySem.W.Frag) (mg : Str → Option Value) (base : Heap) (CO CT g : Addr) (fdg : FuncData) : Prop where
  Fr : Fun K "_law_raised" "_law_raised" sRai g fdg
  Ar : At K mg "_law_raised" g fdg ["_law_call"]
  R : RaiF K mg CO CT
theorem shaped_2 (k : Str) (i : Int) (hk : PyData.strOk k = true := by decide +kernel) : SeqAt.shaped (.tuple [.str k, .int i]) = true := by
  simp [SeqAt.shaped, PyData.canLay0, PyData.canLayAll0, PyData.depth, PyData.depthAll, hk]
theorem eqv_2 (k : Str) (i : Int) : PyData.eqv (.tuple [.str k, .int i]) (.tuple [.str k, .int i]) = true := by
  show PyData.eqvAll [.str k, .int i] [.str k, .int i] = true
  simp [PyData.eqvAll, PyData.eqv]
/-- a test that goes on either way to what follows -/
theorem if_skip {c : TT} {a : TS} {D : Ends} {σ : L2.St} {H : Hp} (R : Hp → Prop) (h : ∀ Q : Bool → Hp → Prop, (∀ G, R G → Q false G) → c σ H Q) (k : ∀ G, R G → D.nx σ G) : tIfS c a tNext D σ H :=
  h _ fun G r => ite2 (fun z => absurd z Bool.false_ne_true) (fun _ => k G r)
theorem if_skipS {c : TT} {a u : TS} {D : Ends} {σ : L2.St} {H : Hp} (R : Hp → Prop) (h : ∀ Q : Bool → Hp → Prop, (∀ G, R G → Q false G) → c σ H Q) (k : ∀ G, R G → u D σ G) : tSeq (tIfS c a tNext) u D σ H :=
  if_skip R h k
theorem nxt {D : Ends} {σ : L2.St} {H : Hp} (h : D.nx σ H) : tNext D σ H := h
/-- tables may have grown, the rest stands as it was, with more beside it -/
def Xs (H H' : Hp) : Prop := ∃ J, ExtN H J ∧ Same J H'
theorem Xs.sd {H H' : Hp} (x : Xs H H') : Sd H H' := by
  obtain ⟨J, a, b⟩ := x
  exact (Sd.ext a).trans (Sd.of b)
theorem TapeAt.xs {H H' : Hp} {p l : Addr} {ns : List Int} {n : Nat} (h : TapeAt H p l ns n) (x : Xs H H') : TapeAt H' p l ns n := by
  obtain ⟨J, a, b⟩ := x
  exact (h.ext a).same b
theorem Xs.same {H H1 H2 : Hp} (x : Xs H H1) (s : Same H1 H2) : Xs H H2 := by
  obtain ⟨J, a, b⟩ := x
  exact ⟨J, a, b.trans s⟩
theorem RowAt.sd {H H' : Hp} {a : Addr} {ps : PS} (h : RowAt H a ps) (s : Sd H H') : RowAt H' a ps := by
  obtain ⟨⟨ws, h1, h2⟩, h3, h4, h5⟩ := h
  exact ⟨⟨ws, s.sqa h1, Prs.sd h2 s⟩, h3, h4, h5⟩
/-- _law_raised(lambda: row.m(number)), a number that is none of the row's -/
theorem lam_o {T : List (Addr × Str)} {CO CT CR r : Addr} {ps : PS} {nm : Str} {sp : Sp} {σ : L2.St} {Z : Hp} {Q : VK} {m : Int} {i : Nat} {ta : TE} (h1 : σ[i]? = some (some (.ref r))) (h2 : ∀ (H : Hp) (Q : VK), Q (.int m) H → ta σ H Q) (hT : Tabs T Z) (hR : RowV CR Z r ps)
    (hnm : ∀ tt : Addr, List.lookup nm [(("stretches" : Str), V.ref tt)] = none) (hs : ∀ (J : Hp) (E : XK) (Q : VK), RowV CR J r ps → errAt CO J E "number" (.int m) → sp [.ref r, .int m] J Q E)
    (q : ∀ (T5 : Addr) (M : Hp), Xs Z M → Tabs T M → M T5 = some (.tup [.str "outside", .int m]) → Q (.ref T5) M) :
    tLam T (TRai CO CT) (fun E => tMeth CR nm sp [] E (tVar i) (tCons ta tNil)) σ Z Q := by
  refine ⟨hT, fun J0 eN tbJ => ?_⟩
  have RJ := hR.sd (Sd.ext eN)
  obtain ⟨dx, tt, hI⟩ := RJ.ins
  refine ⟨_, h1, r, dx, _, rfl, hI, hnm tt, h2 _ _ ?_⟩
  refine hs J0 _ _ RJ ?_
  exact fun d G s _ e => ⟨d, [("number", .int m)], "outside", .int m, rfl, e, .inl ⟨rfl, rfl, rfl⟩, fun T5 M s5 _ k5 => q T5 M ⟨J0, eN, s.trans s5⟩ (tbJ.ext (s.trans s5)) k5⟩
theorem many_err {CO CT : Addr} {H : Hp} {Q : VK} {n : Int} (q : ∀ (T5 : Addr) (M : Hp), Same H M → M T5 = some (.tup [.str "many", .int n]) → Q (.ref T5) M) : errAt CT H (eRai CO CT Q) "most" (.int n) :=
  fun d G s _ e => ⟨d, [("most", .int n)], "many", .int n, rfl, e, .inr ⟨rfl, rfl, rfl⟩, fun T5 M s5 _ k5 => q T5 M (s.trans s5) k5⟩
/-- _law_raised(lambda: row.plain()) -/
theorem lam_p {T : List (Addr × Str)} {CO CT CR r : Addr} {ps : PS} {σ : L2.St} {Z : Hp} {Q : VK} {i : Nat} (h1 : σ[i]? = some (some (.ref r))) (hT : Tabs T Z) (hR : RowV CR Z r ps) (hn : (2000 : Int) < ((flat ps).length : Int))
    (q : ∀ (T5 : Addr) (M : Hp), Xs Z M → Tabs T M → M T5 = some (.tup [.str "many", .int 2000]) → Q (.ref T5) M) :
    tLam T (TRai CO CT) (fun E => tMeth CR "plain" (spPlain CR CT) [.int 2000] E (tVar i) tNil) σ Z Q := by
  refine ⟨hT, fun J0 eN tbJ => ?_⟩
  have RJ := hR.sd (Sd.ext eN)
  obtain ⟨dx, tt, hI⟩ := RJ.ins
  refine ⟨_, h1, r, dx, _, rfl, hI, rfl, r, ps, 2000, rfl, RJ, fun _ => ?_, fun z => absurd z (by omega)⟩
  exact many_err fun T5 M s k5 => q T5 M ⟨J0, eN, s⟩ (tbJ.ext s) k5
/-- _law_raised(lambda: row.plain(most=10000)) -/
theorem lam_pk {T : List (Addr × Str)} {CO CT CR r : Addr} {ps : PS} {σ : L2.St} {Z : Hp} {Q : VK} {i : Nat} {n : Int} (h1 : σ[i]? = some (some (.ref r))) (hT : Tabs T Z) (hR : RowV CR Z r ps) (hn : n < ((flat ps).length : Int))
    (q : ∀ (T5 : Addr) (M : Hp), Xs Z M → Tabs T M → M T5 = some (.tup [.str "many", .int n]) → Q (.ref T5) M) :
    tLam T (TRai CO CT) (fun E => tMethK CR "plain" (spPlain CR CT) (fun us ws => us ++ ws) E (tVar i) (tCons (tC (.int n)) tNil)) σ Z Q := by
  refine ⟨hT, fun J0 eN tbJ => ?_⟩
  have RJ := hR.sd (Sd.ext eN)
  obtain ⟨dx, tt, hI⟩ := RJ.ins
  refine ⟨_, h1, r, dx, _, rfl, hI, rfl, r, ps, n, rfl, RJ, fun _ => ?_, fun z => absurd z (by omega)⟩
  exact many_err fun T5 M s k5 => q T5 M ⟨J0, eN, s⟩ (tbJ.ext s) k5
theorem rep_at {u : List Int} : ∀ {k m : Nat}, m < k * u.length → ((List.replicate k u).flatten)[m]? = some (u.getD (m % u.length) 0)
  | 0, m, h => by omega
  | k + 1, m, h => by
    rw [List.replicate_succ, List.flatten_cons]
    by_cases c : m < u.length
    · rw [List.getElem?_append_left c, Nat.mod_eq_of_lt c, List.getD_eq_getElem?_getD, List.getElem?_eq_getElem c]
      rfl
    · have e : (k + 1) * u.length = k * u.length + u.length := Nat.succ_mul ..
      rw [List.getElem?_append_right (by omega), rep_at (by omega)]
      have z : m % u.length = (m - u.length) % u.length := Nat.mod_eq_sub_mod (by omega)
      rw [z]
/-- the number at a place is the row's -/
theorem numV_at : ∀ {ps : PS} {m : Nat} {x : Int}, (∀ q ∈ ps, 0 ≤ q.2) → (flat ps)[m]? = some x → numV ps (m : Int) = .int x
  | [], m, x, _, h => by cases h
  | (u, t) :: r, m, x, h0, h => by
    have t0 : 0 ≤ t := h0 _ (List.mem_cons_self ..)
    obtain ⟨k, rfl⟩ : ∃ k : Nat, t = (k : Int) := ⟨_, (Int.toNat_of_nonneg t0).symm⟩
    replace h : (rep u (k : Int) ++ flat r)[m]? = some x := by
      rw [flat_cons] at h
      exact h
    have hl : (rep u (k : Int)).length = k * u.length := by rw [rep_length]; rfl
    have hb : (u.length : Int) * (k : Int) = ((k * u.length : Nat) : Int) := by rw [Int.natCast_mul, Int.mul_comm]
    unfold numV
    rw [hb]
    by_cases c : m < k * u.length
    · rw [if_pos (by omega)]
      rw [List.getElem?_append_left (by omega)] at h
      have h2 : ((List.replicate k u).flatten)[m]? = some x := h
      rw [rep_at c] at h2
      have e : ((m : Int) % (u.length : Int)).toNat = m % u.length := by
        rw [← Int.natCast_emod]
        rfl
      rw [e]
      cases h2
      rfl
    · rw [if_neg (by omega)]
      rw [List.getElem?_append_right (by omega), hl] at h
      have e : (m : Int) - ((k * u.length : Nat) : Int) = ((m - k * u.length : Nat) : Int) := by omega
      rw [e]
      exact numV_at (fun q hq => h0 q (List.mem_cons_of_mem _ hq)) h
/-- a row told in two ways, and as pairs -/
structure Two (CR : Addr) (H : Hp) (h r o : Addr) (ps pr po : PS) : Prop where
  at' : RowAt H h ps
  r : RowV CR H r pr
  o : RowV CR H o po
  er : flat pr = flat ps
  eo : flat po = flat ps
  lr : pr.length ≤ 1000
  lo : po.length ≤ 1000
  big : (((flat ps).length : Nat) : Int) < 10 ^ 305
theorem Two.sd {CR : Addr} {H H' : Hp} {h r o : Addr} {ps pr po : PS} (t : Two CR H h r o ps pr po) (s : Sd H H') : Two CR H' h r o ps pr po := ⟨t.at'.sd s, t.r.sd s, t.o.sd s, t.er, t.eo, t.lr, t.lo, t.big⟩
theorem Two.flip {CR : Addr} {H : Hp} {h r o : Addr} {ps pr po : PS} (t : Two CR H h r o ps pr po) : Two CR H h o r ps po pr := ⟨t.at', t.o, t.r, t.eo, t.er, t.lo, t.lr, t.big⟩
theorem bud_at {CR CO r : Addr} {ps : PS} {l : List Int} {H : Hp} {Q : VK} {E : XK} {m : Nat} {x : Int} (hR : RowV CR H r ps) (e : flat ps = l) (hx : l[m]? = some x) (q : ∀ H', Same H H' → Q (.int x) H') : spBud CR CO [.ref r, .int (m : Int)] H Q E := by
  subst e
  have hm := (List.getElem?_eq_some_iff.mp hx).1
  refine ⟨r, ps, _, none, rfl, hR, .int _, fun z => ?_, fun m2 y e2 hy => ?_⟩
  · have z2 : wth (.int (m : Int)) 0 (((flat ps).length : Int) - 1) = true := by
      simp only [wth, Bool.and_eq_true, decide_eq_true_eq]
      omega
    rw [z2] at z
    cases z
  · have e3 : m2 = m := by
      injection e2 with e2
      omega
    subst e3
    rw [hx] at hy
    cases hy
    exact q
theorem part_at {CR CO r : Addr} {g : List Int → Nat → List Int} {ps : PS} {l : List Int} {H : Hp} {Q : VK} {E : XK} {m : Nat} (hR : RowV CR H r ps) (e : flat ps = l) (hl : ps.length ≤ 9000) (hm : m ≤ l.length)
    (q : ∀ (r2 : Addr) (ps2 : PS) (H' : Hp), Same H H' → H r2 = none → RowV CR H' r2 ps2 → ps2.length ≤ ps.length + 1 → flat ps2 = g l m → Q (.ref r2) H') : spPart CR CO g [.ref r, .int (m : Int)] H Q E := by
  subst e
  refine ⟨r, ps, _, none, rfl, hR, hl, .int _, fun z => ?_, fun m2 e2 hm2 => ?_⟩
  · have z2 : wth (.int (m : Int)) 0 ((flat ps).length : Int) = true := by
      simp only [wth, Bool.and_eq_true, decide_eq_true_eq]
      omega
    rw [z2] at z
    cases z
  · have e3 : m2 = m := by
      injection e2 with e2
      omega
    subst e3
    exact q
def spSame (T : List (Addr × Str)) (CR : Addr) : Sp := fun vs H Q _ => ∃ (p l h r o : Addr) (ns : List Int) (n : Nat) (ps pr po : PS), vs = [.ref p, .ref h, .ref r, .ref o] ∧ Tabs T H ∧ TapeAt H p l ns n ∧ n ≤ 700000 ∧ Two CR H h r o ps pr po ∧
  ∀ (n' : Nat) (H' : Hp), Sd H H' → TapeAt H' p l ns n' → n' ≤ n + 20 → Tabs T H' → Q (.bl true) H'
section
variable {P : Program} {w : World} {K : PySem.W.Frag} {mg : Str → Option Value} {base : Heap}
abbrev nmSame : List Str := ["_law_tape", "_law_stretches", "_law_row", "_law_other", "_law_size", "_law_turn", "_law_index", "_law_due"]
theorem scSame : FnScope nmSame ["_law_tape", "_law_stretches", "_law_row", "_law_other"] (defScope sSame) := ⟨rfl, rfl, rfl, by decide +kernel, rfl, by decide +kernel, by decide +kernel⟩
theorem ok_same {f fB fG fN g c Pt CO CT CR : Addr} {fd fdB fdG fdN fdg : FuncData} {ff : Nat → Addr} {fdd : Nat → FuncData} {T : List (Addr × Str)} (F : FunC K "_law_same_right" sSame f fd c) (zR : mg "range" = none)
    (GB : FnOk P w K mg base CX0 1 fB fdB ["_law_stretches"] spCount) (AB : At K mg "_law_bulk" fB fdB ["_law_stretches"]) (GG : FnOk P w K mg base CX0 3 fG fdG ["_law_tape", "_law_cap"] spGreat) (AG : At K mg "_law_great" fG fdG ["_law_tape", "_law_cap"])
    (GN : FnOk P w K mg base CX0 1 fN fdN ["_law_stretches", "_law_index"] spNumber) (AN : At K mg "_law_number" fN fdN ["_law_stretches", "_law_index"]) (RA : RaiAll P w K mg base CO CT g fdg) (RK : RowKit P w K mg base CR CO CT ff fdd)
    (TB : TabB base mg c Pt) (hm : (Pt, qSame) ∈ T) (hu : ∀ p ∈ T, p.1 = Pt → p.2 = qSame) : FnOk P w K mg base CX0 11 f fd ["_law_tape", "_law_stretches", "_law_row", "_law_other"] (spSame T CR) := by
  obtain ⟨Fr, Ar, R⟩ := RA
  obtain ⟨pds, hpd, hpb⟩ := RK.plainD
  refine F.okF scSame (fun vs H Q E h => ?_) (fun A outer s H vs Q E hr h => ?_)
  · obtain ⟨p, l, h, r, o, ns, n, ps, pr, po, rfl, _⟩ := h
    rfl
  · obtain ⟨p, l, h, r, o, ns, n, ps, pr, po, rfl, hTb, hT, hn, hW, k⟩ := h
    have nd := scSame.nd
    have hr1 := hr.mono (show 1 ≤ 10 by decide)
    have hr2 := hr.mono (show 2 ≤ 10 by decide)
    have hr3 := hr.mono (show 3 ≤ 10 by decide)
    have hr4 := hr.mono (show 4 ≤ 10 by decide)
    have hr5 := hr.mono (show 5 ≤ 10 by decide)
    have hrR := hr
    have hu64 := hu64_of hr
    refine ⟨_, (pss_cons (ps_set (i := 4) nd rfl (Or.inr rfl) (pe_call GB hr1 rfl AB.mg AB.kp AB.bd .nil pass0 (pa_cons (pv 1) pa_nil)))
(pss_cons (ps_if (PW.pt (pw_or (pt_cmpR op_ne (pe_meth0 (pv 2) RK.cR RK.total.at' RK.total.ok hr2 RK.total.bd .nil pass0) (pv 4) (nomark _)) (pw_or (pt_cmpR op_ne (pe_meth0 (pv 3) RK.cR RK.total.at' RK.total.ok hr2 RK.total.bd .nil pass0) (pv 4) (nomark _)) (pw_or (pt_not (pt_cmpR (op_eqO RK.op RK.eq hr4 RK.eqB pass0) (pv 2) (pv 3) (nomark _))) (pw_or (pt_cmpR (op_neO RK.op RK.eq hr5 RK.eqB pass0) (pv 2) (pv 3) (nomark _)) (pw_or1 (pt_not (pt_cmpR (op_eqO RK.op RK.eq hr4 RK.eqB pass0) (pv 3) (pv 2) (nomark _)))))))))
(pss_one (ps_ret pe_bl))
pss_nil)
(pss_cons (ps_if (PW.pt (pw_or (pt_cmpR op_ne (pe_meth (pv 2) RK.cR RK.common.at' RK.common.ok hr4 RK.common.bd .nil pass0 (pa_cons (pv 3) pa_nil)) (pv 4) (nomark _)) (pw_or (pt_val (pe_meth (pv 2) RK.cR RK.before.at' RK.before.ok hr4 RK.before.bd .nil pass0 (pa_cons (pv 3) pa_nil))) (pw_or1 (pt_val (pe_meth (pv 3) RK.cR RK.before.at' RK.before.ok hr4 RK.before.bd .nil pass0 (pa_cons (pv 2) pa_nil)))))))
(pss_one (ps_ret pe_bl))
pss_nil)
(pss_cons (ps_for PassesOwn.never rfl (pi_range1 rfl zR (pa_cons pe_int pa_nil)) (pg_name (i := 5) nd rfl (Or.inl rfl))
(pss_cons (ps_set (i := 6) nd rfl (Or.inl rfl) (pe_call GG hr3 rfl AG.mg AG.kp AG.bd .nil pass0 (pa_cons (pv 0) (pa_cons (pv 4) pa_nil))))
(pss_cons (ps_set (i := 7) nd rfl (Or.inl rfl) (pe_call GN hr1 rfl AN.mg AN.kp AN.bd .nil pass0 (pa_cons (pv 1) (pa_cons (pv 6) pa_nil))))
(pss_one (ps_if (PW.pt (pw_and (pt_cmpR op_lt (pv 6) (pv 4) (nomark _)) (pw_and1 (pt_cmpR (op_neD hu64) (pe_tup (pa_cons (pe_meth (pv 2) RK.cR RK.bud.at' RK.bud.ok hr3 RK.bud.bd .nil passN (pa_cons (pv 6) pa_nil)) (pa_cons (pe_meth (pv 3) RK.cR RK.bud.at' RK.bud.ok hr3 RK.bud.bd .nil passN (pa_cons (pv 6) pa_nil)) pa_nil))) (pe_tup (pa_cons (pv 7) (pa_cons (pv 7) pa_nil))) (nomark _)))))
(pss_one (ps_ret pe_bl))
pss_nil)))))
(pss_cons (ps_if (pt_cmpR (op_neD hu64) (pe_raised Fr Ar R rfl TB rfl hm hu hrR (show LamS (defScope sSame) _ from lamS_by (by decide +kernel)) rfl (fun _ _ _ _ _ => rfl) (fun A2 outer2 s2 H2 E2 f2 c2 hr2L => (pe_meth (E := E2) (pv 2) RK.cR RK.bud.at' RK.bud.ok (hr2L.mono (by decide)) RK.bud.bd .nil (passX (takes_of rfl rfl rfl rfl)) (pa_cons (pv 4) pa_nil)))) (pe_tup (pa_cons pe_str (pa_cons (pv 4) pa_nil))) (nomark _))
(pss_one (ps_ret pe_bl))
pss_nil)
(pss_cons (ps_if (pt_cmpR (op_neD hu64) (pe_raised Fr Ar R rfl TB rfl hm hu hrR (show LamS (defScope sSame) _ from lamS_by (by decide +kernel)) rfl (fun _ _ _ _ _ => rfl) (fun A2 outer2 s2 H2 E2 f2 c2 hr2L => (pe_meth (E := E2) (pv 3) RK.cR RK.beginning.at' RK.beginning.ok (hr2L.mono (by decide)) RK.beginning.bd .nil (passX (takes_of rfl rfl rfl rfl)) (pa_cons (pe_op op_add (pv 4) pe_int) pa_nil)))) (pe_tup (pa_cons pe_str (pa_cons (pe_op op_add (pv 4) pe_int) pa_nil))) (nomark _))
(pss_one (ps_ret pe_bl))
pss_nil)
(pss_cons (ps_if (PW.pt (pw_and (pt_cmpR op_gt (pv 4) pe_int (nomark _)) (pw_and1 (pt_cmpR (op_neD hu64) (pe_raised Fr Ar R rfl TB rfl hm hu hrR (show LamS (defScope sSame) _ from lamS_by (by decide +kernel)) rfl (fun _ _ _ _ _ => rfl) (fun A2 outer2 s2 H2 E2 f2 c2 hr2L => (pe_meth0 (E := E2) (pv 2) RK.cR RK.plainM RK.plain (hr2L.mono (by decide)) hpb hpd (passX (takes_of rfl rfl rfl rfl))))) (pe_tup (pa_cons pe_str (pa_cons pe_int pa_nil))) (nomark _)))))
(pss_one (ps_ret pe_bl))
pss_nil)
(pss_cons (ps_if (pt_cmpR op_gt (pv 4) pe_int (nomark _))
(pss_one (ps_ret (pe_cmpR (op_eqD hu64) (pe_raised Fr Ar R rfl TB rfl hm hu hrR (show LamS (defScope sSame) _ from lamS_by (by decide +kernel)) rfl (fun _ _ _ _ _ => rfl) (fun A2 outer2 s2 H2 E2 f2 c2 hr2L => (pe_methKw (E := E2) (pv 2) RK.cR RK.plainM RK.plain (hr2L.mono (by decide)) RK.plainK (passX (takes_of rfl rfl rfl rfl)) (pk_cons pe_int pk_nil)))) (pe_tup (pa_cons pe_str (pa_cons pe_int pa_nil))) (nomark _))))
pss_nil)
(pss_one (ps_ret (pe_cmpR (op_eqD hu64) (pe_methKw (pv 2) RK.cR RK.plainM RK.plain hr3 RK.plainK passN (pk_cons pe_int pk_nil)) (pe_methKw (pv 3) RK.cR RK.plainM RK.plain hr3 RK.plainK passN (pk_cons pe_int pk_nil)) (nomark _)))))))))))), ?_⟩
    obtain ⟨dr, tr, hIr⟩ := hW.r.ins
    obtain ⟨dy, ty, hIo⟩ := hW.o.ins
    refine ⟨_, rfl, h, ps, rfl, hW.at', fun K1 k1 => ?_⟩
    refine gN ?_
    dsimp only [List.set]
    have W1 := hW.sd (Sd.of k1)
    refine ⟨_, rfl, r, dr, _, rfl, k1 _ _ hIr, rfl, r, pr, rfl, W1.r, fun K2 k2 => ⟨_, rfl, rfl, _, rfl, ite2 (fun z => absurd z (by simp [hW.er])) (fun _ => ?_)⟩⟩
    have s2 := k1.trans k2
    refine ⟨_, rfl, o, dy, _, rfl, s2 _ _ hIo, rfl, o, po, rfl, hW.o.same s2, fun K3 k3 => ⟨_, rfl, rfl, _, rfl, ite2 (fun z => absurd z (by simp [hW.eo])) (fun _ => ?_)⟩⟩
    have s3 := s2.trans k3
    have W3 := hW.sd (Sd.of s3)
    refine ⟨_, rfl, _, rfl, W3.r.insL, .inl W3.o.insL, r, pr, _, rfl, W3.r, .inl ⟨o, po, rfl, W3.o, fun K4 k4 => ⟨_, rfl, ?_⟩⟩⟩
    rw [decide_eq_true (hW.er.trans hW.eo.symm)]
    refine ite2 (fun z => absurd z (by decide)) (fun _ => ?_)
    have W4 := W3.sd (Sd.of k4)
    refine ⟨_, rfl, _, rfl, W4.r.insL, W4.o.insL, r, pr, _, rfl, W4.r, .inl ⟨o, po, rfl, W4.o, fun K5 k5 => ⟨_, rfl, _, rfl, ?_⟩⟩⟩
    rw [decide_eq_true (hW.er.trans hW.eo.symm)]
    refine ite2 (fun z => absurd z (by decide)) (fun _ => ?_)
    have W5 := W4.sd (Sd.of k5)
    refine ⟨_, rfl, _, rfl, W5.o.insL, .inl W5.r.insL, o, po, _, rfl, W5.o, .inl ⟨r, pr, rfl, W5.r, fun K6 k6 => ⟨_, rfl, ?_⟩⟩⟩
    rw [decide_eq_true (hW.eo.trans hW.er.symm)]
    refine ite2 (fun z => absurd z (by decide)) (fun _ => ?_)
    have W6 := W5.sd (Sd.of k6)
    refine nxt ?_
    dsimp only
    obtain ⟨d6, t6, hI6⟩ := W6.r.ins
    obtain ⟨e6, u6, hO6⟩ := W6.o.ins
    refine ⟨_, rfl, r, d6, _, rfl, hI6, rfl, _, rfl, r, pr, _, _, _, rfl, W6.r, .row W6.o, fun K7 k7 => ⟨_, rfl, rfl, _, rfl, ite2 (fun z => absurd z (by rw [hW.er, hW.eo, cp_same]; simp)) (fun _ => ?_)⟩⟩
    have W7 := W6.sd (Sd.of k7)
    refine ⟨_, rfl, r, d6, _, rfl, k7 _ _ hI6, rfl, _, rfl, r, pr, _, _, _, rfl, W7.r, .row W7.o, fun K8 k8 => ⟨_, rfl, ?_⟩⟩
    rw [hW.er, hW.eo, lt_same]
    refine ite2 (fun z => absurd z (by decide)) (fun _ => ?_)
    have W8 := W7.sd (Sd.of k8)
    refine ⟨_, rfl, o, e6, _, rfl, k8 _ _ (k7 _ _ hO6), rfl, _, rfl, o, po, _, _, _, rfl, W8.o, .row W8.r, fun K9 k9 => ⟨_, rfl, ?_⟩⟩
    rw [hW.er, hW.eo, lt_same]
    refine ite2 (fun z => absurd z (by decide)) (fun _ => ?_)
    refine nxt ?_
    dsimp only
    have s9 : Same H K9 := s3.trans (((k4.trans k5).trans (k6.trans k7)).trans (k8.trans k9))
    have big := hW.big
    have b400 : (10 : Int) ^ 305 < 10 ^ 400 := by decide +kernel
    have st : List.set (L2.start nmSame [V.ref p, V.ref h, V.ref r, V.ref o]) 4 (some (V.int ((flat ps).length : Int))) = [some (.ref p), some (.ref h), some (.ref r), some (.ref o), some (.int ((flat ps).length : Int)), none, none, none] := rfl
    rw [st]
    obtain ⟨sz, hsz⟩ : ∃ sz : Nat, sz = (flat ps).length := ⟨_, rfl⟩
    rw [← hsz] at big ⊢
    refine ⟨4, rfl, by decide, by decide, for_it walk_range
      (fun i σ G => ∃ (x5 x6 x7 : Option V) (m : Nat), σ = [some (.ref p), some (.ref h), some (.ref r), some (.ref o), some (.int (sz : Int)), x5, x6, x7] ∧ Sd H G ∧ TapeAt G p l ns m ∧ m ≤ n + 4 * i ∧ Tabs T G)
      ⟨none, none, none, n, rfl, Sd.of s9, hT.same s9, Nat.le_refl _, hTb.ext s9⟩ (fun _ _ _ _ _ => trivial) ?_ ?_⟩
    · rintro i y σ G G' hi ⟨x5, x6, x7, m, rfl, sG, TG, hm, tbG⟩ ⟨rfl, rfl⟩
      have hi4 : i < 4 := hi
      refine ⟨_, rfl, _, rfl, p, l, ns, m, _, rfl, TG, by omega, Int.natCast_nonneg _, by omega, fun d n' G1 b1 T1 hn' d0 d9 => ?_⟩
      refine gN ?_
      dsimp only [List.set]
      obtain ⟨kv, ekv⟩ := TG.pt
      have sG1 := sG.trans (Sd.tape TG b1)
      have tb1 : Tabs T G1 := tabs_tape tbG ekv b1
      have WG := hW.sd sG1
      refine ⟨_, rfl, _, rfl, h, ps, d, rfl, WG.at', fun G2 s2 => ?_⟩
      refine gN ?_
      dsimp only [List.set]
      obtain ⟨j, rfl⟩ : ∃ j : Nat, d = (j : Int) := ⟨_, (Int.toNat_of_nonneg d0).symm⟩
      have W2 := WG.sd (Sd.of s2)
      refine if_skip (fun G => Same G2 G) (fun Q2 q2 => ?_) (fun G3 s3 => ?_)
      · refine ⟨_, rfl, _, rfl, _, _, rfl, rfl, _, rfl, ite2 (fun c => ?_) (fun c => q2 _ (.refl _))⟩
        have hj : j < (flat ps).length := by
          have z : (j : Int) < (sz : Int) := by simpa using c
          omega
        have hx : (flat ps)[j]? = some (flat ps)[j] := List.getElem?_eq_getElem hj
        have hv := numV_at (fun q hq => WG.at'.nn q hq) hx
        obtain ⟨da, ta, hIa⟩ := W2.r.ins
        obtain ⟨db, tb, hIb⟩ := W2.o.ins
        rw [hv]
        refine ⟨_, rfl, r, da, _, rfl, hIa, rfl, _, rfl, ?_⟩
        dsimp only [tNil, List.append_nil]
        refine bud_at W2.r hW.er hx fun G3 s3 => ?_
        refine ⟨_, rfl, o, db, _, rfl, s3 _ _ hIb, rfl, _, rfl, ?_⟩
        dsimp only [tNil, List.append_nil]
        refine bud_at (W2.o.same s3) hW.eo hx fun G4 s4 => ?_
        refine ⟨szL (Nat.le_of_ble_eq_true rfl), fun A1 hTz => ?_⟩
        generalize hGz : upd _ A1 _ = G5
        have s5 := same_new hTz hGz
        have kA := new_at hGz
        clear hGz hTz
        refine ⟨_, rfl, _, rfl, ?_⟩
        refine ⟨szL (Nat.le_of_ble_eq_true rfl), fun A2 hTz => ?_⟩
        generalize hGz : upd _ A2 _ = G6
        have s6 := same_new hTz hGz
        have kB := new_at hGz
        clear hGz hTz
        refine neI (xs := [(flat ps)[j], (flat ps)[j]]) (ys := [(flat ps)[j], (flat ps)[j]]) (s6 _ _ kA) kB ⟨_, rfl, ?_⟩
        rw [decide_eq_true rfl]
        exact q2 _ ((s3.trans s4).trans (s5.trans s6))
      · exact ⟨_, _, _, n', rfl, sG1.trans (Sd.of (s2.trans s3)), T1.same (s2.trans s3), by omega, tb1.ext (s2.trans s3)⟩
    · rintro σ G ⟨x5, x6, x7, m, rfl, sG, TG, hm, tbG⟩
      have Wa := hW.sd sG
      refine lam_o (i := 2) rfl (fun H Q q => ⟨_, rfl, q⟩) tbG Wa.r (fun _ => rfl) (fun J E2 Q2 RJ he => ⟨r, pr, _, none, rfl, RJ, .int _, fun _ => he, fun m2 x e hy => ?_⟩) fun T5 M xM tbM kM => ?_
      · exfalso
        have z := (List.getElem?_eq_some_iff.mp hy).1
        rw [hW.er] at z
        injection e with e
        omega
      refine ⟨_, rfl, ?_⟩
      refine ⟨szL (Nat.le_of_ble_eq_true rfl), fun A1 hTz => ?_⟩
      generalize hGz : upd _ A1 _ = G1
      have s1 := same_new hTz hGz
      have kA := new_at hGz
      clear hGz hTz
      refine ⟨_, _, .tup (SqT.of (s1 _ _ kM)) (.cons (.str _) (.cons (.int _) .nil)), .tup (SqT.of kA) (.cons (.str _) (.cons (.int _) .nil)), shaped_2 _ _, shaped_2 _ _, _, rfl, ?_⟩
      rw [eqv_2]
      refine ite2 (fun z => absurd z (by decide)) (fun _ => ?_)
      refine nxt ?_
      dsimp only
      have x1 := xM.same s1
      have g1 := sG.trans x1.sd
      have T1 := TG.xs x1
      have tb1 := tbM.ext s1
      have W1 := hW.sd g1
      refine lam_o (i := 3) (m := (sz : Int) + 1) rfl (fun H Q q => ⟨_, rfl, _, _, rfl, rfl, q⟩) tb1 W1.o (fun _ => rfl) (fun J E2 Q2 RJ he => ⟨o, po, _, none, rfl, RJ, by have := hW.lo; omega, .int _, fun _ => he, fun m2 e hm => ?_⟩) fun T6 M2 xM2 tbM2 kM2 => ?_
      · exfalso
        rw [hW.eo] at hm
        injection e with e
        omega
      refine ⟨_, rfl, _, _, rfl, rfl, ?_⟩
      refine ⟨szL (Nat.le_of_ble_eq_true rfl), fun A2 hTz => ?_⟩
      generalize hGz : upd _ A2 _ = G2
      have s2 := same_new hTz hGz
      have kA2 := new_at hGz
      clear hGz hTz
      refine ⟨_, _, .tup (SqT.of (s2 _ _ kM2)) (.cons (.str _) (.cons (.int _) .nil)), .tup (SqT.of kA2) (.cons (.str _) (.cons (.int _) .nil)), shaped_2 _ _, shaped_2 _ _, _, rfl, ?_⟩
      rw [eqv_2]
      refine ite2 (fun z => absurd z (by decide)) (fun _ => ?_)
      refine nxt ?_
      dsimp only
      have x2 := xM2.same s2
      have g2 := g1.trans x2.sd
      have T2 := T1.xs x2
      have tb2 := tbM2.ext s2
      have W2 := hW.sd g2
      refine if_skipS (fun G => Xs G2 G ∧ Tabs T G) (fun Q2 q2 => ?_) (fun G3 h3 => ?_)
      · refine ⟨_, rfl, _, _, rfl, rfl, _, rfl, ite2 (fun c => ?_) (fun c => q2 _ ⟨⟨_, ExtN.refl _, .refl _⟩, tb2⟩)⟩
        have hc : (2000 : Int) < ((flat pr).length : Int) := by
          have z : (2000 : Int) < (sz : Int) := by simpa using c
          rw [hW.er]
          omega
        refine lam_p (i := 2) rfl tb2 W2.r hc fun T7 M3 xM3 tbM3 kM3 => ?_
        refine ⟨szL (Nat.le_of_ble_eq_true rfl), fun A3 hTz => ?_⟩
        generalize hGz : upd _ A3 _ = G3
        have s3 := same_new hTz hGz
        have kA3 := new_at hGz
        clear hGz hTz
        refine ⟨_, _, .tup (SqT.of (s3 _ _ kM3)) (.cons (.str _) (.cons (.int _) .nil)), .tup (SqT.of kA3) (.cons (.str _) (.cons (.int _) .nil)), shaped_2 _ _, shaped_2 _ _, _, rfl, ?_⟩
        rw [eqv_2]
        exact q2 _ ⟨xM3.same s3, tbM3.ext s3⟩
      obtain ⟨x3, tb3⟩ := h3
      have g3 := g2.trans x3.sd
      have T3 := T2.xs x3
      have W3 := hW.sd g3
      refine ⟨_, rfl, _, _, rfl, rfl, _, rfl, ite2 (fun c => ?_) (fun c => ?_)⟩
      · have hc : (10000 : Int) < ((flat pr).length : Int) := by
          have z : (10000 : Int) < (sz : Int) := by simpa using c
          rw [hW.er]
          omega
        refine lam_pk (i := 2) rfl tb3 W3.r hc fun T7 M3 xM3 tbM3 kM3 => ?_
        refine ⟨szL (Nat.le_of_ble_eq_true rfl), fun A3 hTz => ?_⟩
        generalize hGz : upd _ A3 _ = G4
        have s3 := same_new hTz hGz
        have kA3 := new_at hGz
        clear hGz hTz
        refine ⟨_, _, .tup (SqT.of (s3 _ _ kM3)) (.cons (.str _) (.cons (.int _) .nil)), .tup (SqT.of kA3) (.cons (.str _) (.cons (.int _) .nil)), shaped_2 _ _, shaped_2 _ _, ?_⟩
        rw [eqv_2]
        exact k m _ (g3.trans (xM3.same s3).sd) (T3.xs (xM3.same s3)) (by omega) (tbM3.ext s3)
      · have hc : (sz : Int) ≤ 10000 := by
          have z : ¬ (10000 : Int) < (sz : Int) := by simpa using c
          omega
        refine nxt ?_
        dsimp only
        obtain ⟨da, ta, hIa⟩ := W3.r.ins
        obtain ⟨db, tb, hIb⟩ := W3.o.ins
        refine ⟨_, rfl, r, da, _, rfl, hIa, rfl, r, pr, 10000, rfl, W3.r, (fun z => absurd z (by rw [hW.er]; omega)), fun _ => ⟨by rw [hW.er]; omega, fun t1 K1 k1 n1 h1 => ?_⟩⟩
        refine ⟨_, rfl, o, db, _, rfl, k1 _ _ hIb, rfl, o, po, 10000, rfl, W3.o.same k1, (fun z => absurd z (by rw [hW.eo]; omega)), fun _ => ⟨by rw [hW.eo]; omega, fun t2 K2 k2 n2 h2 => ?_⟩⟩
        refine eqI (show TupI K2 t1 (flat pr) from k2 _ _ h1) (show TupI K2 t2 (flat po) from h2) ?_
        rw [decide_eq_true (hW.er.trans hW.eo.symm)]
        exact k m _ (g3.trans (Sd.of (k1.trans k2))) (T3.same (k1.trans k2)) (by omega) (tb3.ext (k1.trans k2))
end
end K23
namespace K23
open PySem PySem.Spec PyProof.Rows L2 RwM Rw EV TryN LamX
abbrev sCut : Stmt := top 48
def spCutR (CR : Addr) : Sp := fun vs H Q _ => ∃ (p l h r o : Addr) (ns : List Int) (n : Nat) (ps pr po : PS), vs = [.ref p, .ref h, .ref r, .ref o] ∧ TapeAt H p l ns n ∧ n ≤ 700000 ∧ Two CR H h r o ps pr po ∧
  ∀ (n' : Nat) (H' : Hp), But p H H' → TapeAt H' p l ns n' → n' ≤ n + 20 → Q (.bl true) H'
theorem Two.but {CR : Addr} {H H' : Hp} {h r o p l : Addr} {ns : List Int} {n : Nat} {ps pr po : PS} (t : Two CR H h r o ps pr po) (T : TapeAt H p l ns n) (b : But p H H') : Two CR H' h r o ps pr po := t.sd (Sd.tape T b)
theorem bud_at2 {CR CO r : Addr} {ps : PS} {l : List Int} {H : Hp} {Q : VK} {E : XK} {m : Nat} {i x : Int} (hR : RowV CR H r ps) (e : flat ps = l) (ei : i = (m : Int)) (hx : l[m]? = some x) (q : ∀ H', Same H H' → Q (.int x) H') : spBud CR CO [.ref r, .int i] H Q E := by
  subst ei
  exact bud_at hR e hx q
theorem neL {K : PySem.W.Frag} {H : Hp} {a b : Addr} {xs ys : List Int} {Q : VK} (ha : H a = some (.lst (xs.map V.int))) (hb : H b = some (.lst (ys.map V.int))) (q : Q (.bl (!decide (xs = ys))) H) : rNeD K (.ref a) (.ref b) H Q :=
  ⟨_, _, .lst (SqL.of ha) (dp_all xs), .lst (SqL.of hb) (dp_all ys), shaped_lst _, shaped_lst _, by
    have e : PyData.eqv (.list (xs.map PyData.int)) (.list (ys.map PyData.int)) = decide (xs = ys) := eqv_tup xs ys
    rw [e]; exact q⟩
theorem b305 : (10 : Int) ^ 305 < 10 ^ 400 := by decide +kernel
section
variable {P : Program} {w : World} {K : PySem.W.Frag} {mg : Str → Option Value} {base : Heap}
abbrev nmCut : List Str := ["_law_tape", "_law_stretches", "_law_row", "_law_other", "_law_size", "_law_cut", "_law_head", "_law_end", "_law_first", "_law_last", "_law_due", "_law_k"]
theorem scCut : FnScope nmCut ["_law_tape", "_law_stretches", "_law_row", "_law_other"] (defScope sCut) := ⟨rfl, rfl, rfl, by decide +kernel, rfl, by decide +kernel, by decide +kernel⟩
theorem ok_cutR {f fB fG fN fD fI CO CT CR : Addr} {fd fdB fdG fdN fdD fdI : FuncData} {ff : Nat → Addr} {fdd : Nat → FuncData} (F : Fun K "_law_cut_right" "_law_cut_right" sCut f fd) (zR : mg "range" = none) (zMn : mg "min" = none) (zL : mg "list" = none)
    (GB : FnOk P w K mg base CX0 1 fB fdB ["_law_stretches"] spCount) (AB : At K mg "_law_bulk" fB fdB ["_law_stretches"]) (GG : FnOk P w K mg base CX0 3 fG fdG ["_law_tape", "_law_cap"] spGreat) (AG : At K mg "_law_great" fG fdG ["_law_tape", "_law_cap"])
    (GN : FnOk P w K mg base CX0 1 fN fdN ["_law_stretches", "_law_index"] spNumber) (AN : At K mg "_law_number" fN fdN ["_law_stretches", "_law_index"]) (GD : FnOk P w K mg base CX0 1 fD fdD ["_law_tape", "_law_limit"] spDraw)
    (AD : At K mg "_law_draw" fD fdD ["_law_tape", "_law_limit"]) (GI : FnOk P w K mg base CX0 1 fI fdI ["_law_value", "_law_truth"] spIs) (AI : At K mg "_law_is" fI fdI ["_law_value", "_law_truth"]) (RK : RowKit P w K mg base CR CO CT ff fdd) :
    FnOk P w K mg base CX0 11 f fd ["_law_tape", "_law_stretches", "_law_row", "_law_other"] (spCutR CR) := by
  obtain ⟨pds, hpd, hpb⟩ := RK.plainD
  refine F.ok scCut (fun vs H Q E h => ?_) (fun cdv A outer s H vs Q E hr h => ?_)
  · obtain ⟨p, l, h, r, o, ns, n, ps, pr, po, rfl, _⟩ := h
    rfl
  · obtain ⟨p, l, h, r, o, ns, n, ps, pr, po, rfl, hT, hn, hW, k⟩ := h
    have nd := scCut.nd
    have hr1 := hr.mono (show 1 ≤ 10 by decide)
    have hr2 := hr.mono (show 2 ≤ 10 by decide)
    have hr3 := hr.mono (show 3 ≤ 10 by decide)
    have hr4 := hr.mono (show 4 ≤ 10 by decide)
    have hr8 := hr.mono (show 8 ≤ 10 by decide)
    have hu64 := hu64_of hr
    have bm : bootBuiltins "min" = some (.builtin "min") := by decide +kernel
    have bl : bootBuiltins "list" = some (.type "list") := by decide +kernel
    refine ⟨_, (pss_cons (ps_set (i := 4) nd rfl (Or.inl rfl) (pe_call GB hr1 rfl AB.mg AB.kp AB.bd .nil pass0 (pa_cons (pv 1) pa_nil)))
(pss_cons (ps_for PassesOwn.never rfl (pi_list (pe_lst (pa_cons (pe_call GG hr3 rfl AG.mg AG.kp AG.bd .nil pass0 (pa_cons (pv 0) (pa_cons (pv 4) pa_nil))) (pa_cons (pe_op op_sub (pv 4) (pe_callB (call_min2 rfl) (by rfl) zMn bm (pa_cons (pv 4) (pa_cons (pe_call GD hr1 rfl AD.mg AD.kp AD.bd .nil pass0 (pa_cons (pv 0) (pa_cons pe_int pa_nil))) pa_nil)))) pa_nil)))) (pg_name (i := 5) nd rfl (Or.inr rfl))
(pss_cons (ps_par rfl nd (i := 6) (j := 7) rfl rfl (by decide) rfl rfl (pa_cons (pe_meth (pv 2) RK.cR RK.beginning.at' RK.beginning.ok hr8 RK.beginning.bd .nil passN (pa_cons (pv 5) pa_nil)) (pa_cons (pe_meth (pv 3) RK.cR RK.behind.at' RK.behind.ok hr8 RK.behind.bd .nil passN (pa_cons (pv 5) pa_nil)) pa_nil)) (by rfl))
(pss_cons (ps_if (PW.pt (pw_or (pt_cmpR op_ne (pe_meth0 (pv 6) RK.cR RK.total.at' RK.total.ok hr2 RK.total.bd .nil pass0) (pv 5) (nomark _)) (pw_or (pt_cmpR op_ne (pe_meth0 (pv 7) RK.cR RK.total.at' RK.total.ok hr2 RK.total.bd .nil pass0) (pe_op op_sub (pv 4) (pv 5)) (nomark _)) (pw_or (pt_not (pt_cmpR (op_eqO RK.op RK.eq hr4 RK.eqB pass0) (pe_op (op_adO RK.op RK.add hr8 RK.addB passN) (pv 6) (pv 7)) (pv 2) (nomark _))) (pw_or1 (pt_not (pt_cmpR (op_eqO RK.op RK.eq hr4 RK.eqB pass0) (pv 6) (pe_meth (pv 3) RK.cR RK.beginning.at' RK.beginning.ok hr8 RK.beginning.bd .nil passN (pa_cons (pv 5) pa_nil)) (nomark _))))))))
(pss_one (ps_ret pe_bl))
pss_nil)
(pss_cons (ps_if (PW.pt (pw_or (pt_cmpR op_ne (pe_meth (pv 3) RK.cR RK.common.at' RK.common.ok hr4 RK.common.bd .nil pass0 (pa_cons (pv 6) pa_nil)) (pv 5) (nomark _)) (pw_or (pt_not (pt_val (pe_call GI hr1 rfl AI.mg AI.kp AI.bd .nil pass0 (pa_cons (pe_meth (pv 6) RK.cR RK.before.at' RK.before.ok hr4 RK.before.bd .nil pass0 (pa_cons (pv 2) pa_nil)) (pa_cons (pe_cmpR op_lt (pv 5) (pv 4) (nomark _)) pa_nil))))) (pw_or1 (pt_val (pe_meth (pv 2) RK.cR RK.before.at' RK.before.ok hr4 RK.before.bd .nil pass0 (pa_cons (pv 6) pa_nil)))))))
(pss_one (ps_ret pe_bl))
pss_nil)
(pss_cons (ps_par rfl nd (i := 8) (j := 9) rfl rfl (by decide) rfl rfl (pa_cons (pe_call GN hr1 rfl AN.mg AN.kp AN.bd .nil pass0 (pa_cons (pv 1) (pa_cons (pv 5) pa_nil))) (pa_cons (pe_call GN hr1 rfl AN.mg AN.kp AN.bd .nil pass0 (pa_cons (pv 1) (pa_cons (pe_op op_sub (pv 4) pe_int) pa_nil))) pa_nil)) (by rfl))
(pss_cons (ps_if (PW.pt (pw_and (pt_cmpR op_lt (pv 5) (pv 4) (nomark _)) (pw_and1 (pt_cmpR (op_neD hu64) (pe_tup (pa_cons (pe_meth (pv 7) RK.cR RK.bud.at' RK.bud.ok hr3 RK.bud.bd .nil passN (pa_cons pe_int pa_nil)) (pa_cons (pe_meth (pv 7) RK.cR RK.bud.at' RK.bud.ok hr3 RK.bud.bd .nil passN (pa_cons (pe_op op_sub (pe_op op_sub (pv 4) (pv 5)) pe_int) pa_nil)) pa_nil))) (pe_tup (pa_cons (pv 8) (pa_cons (pv 9) pa_nil))) (nomark _)))))
(pss_one (ps_ret pe_bl))
pss_nil)
(pss_one (ps_if (pt_cmpR op_lt (pe_meth0 (pv 7) RK.cR RK.total.at' RK.total.ok hr2 RK.total.bd .nil pass0) pe_int (nomark _))
(pss_cons (ps_setLc (i := 10) (own := [("_law_k", 11)]) (g := gName 11) (tt := tYes) rfl nd rfl rfl (sw_true rfl rfl rfl (by decide +kernel)) (pi_range1 rfl zR (pa_cons (pe_op op_sub (pv 4) (pv 5)) pa_nil)) (blkOk_by (N := nmCut) (sc := defScope sCut) (by decide +kernel)) (fun _ _ _ _ _ => pg_name (i := 11) nd rfl (Or.inl rfl)) (fun _ _ _ _ _ => pts_nil) (fun _ _ _ _ _ => (pe_call GN hr1 rfl AN.mg AN.kp AN.bd .nil pass0 (pa_cons (pv 1) (pa_cons (pe_op op_add (pv 5) (pv 11)) pa_nil)))))
(pss_one (ps_if (pt_cmpR (op_neD hu64) (pe_callTy call_list_of (by rfl) zL bl (pa_cons (pe_meth0 (pe_meth (pv 2) RK.cR RK.behind.at' RK.behind.ok hr8 RK.behind.bd .nil passN (pa_cons (pv 5) pa_nil)) RK.cR RK.plainM RK.plain hr3 hpb hpd passN) pa_nil)) (pv 10) (nomark _))
(pss_one (ps_ret pe_bl))
pss_nil)))
pss_nil))))))))
(pss_one (ps_ret pe_bl)))), ?_⟩
    refine ⟨_, rfl, h, ps, rfl, hW.at', fun K1 k1 => ?_⟩
    refine gN ?_
    have big := hW.big
    have b4 := b305
    obtain ⟨sz, hsz⟩ : ∃ sz : Nat, sz = (flat ps).length := ⟨_, rfl⟩
    rw [← hsz] at big ⊢
    dsimp only
    have st : List.set (L2.start nmCut [V.ref p, V.ref h, V.ref r, V.ref o]) 4 (some (V.int (sz : Int))) = [some (.ref p), some (.ref h), some (.ref r), some (.ref o), some (.int (sz : Int)), none, none, none, none, none, none, none] := rfl
    rw [st]
    have T1 := hT.same k1
    refine ⟨_, rfl, _, rfl, p, l, ns, n, _, rfl, T1, by omega, Int.natCast_nonneg _, by omega, fun c1 n2 G2 b2 T2 hn2 c10 c19 => ?_⟩
    refine ⟨_, rfl, _, rfl, _, rfl, p, l, ns, n2, 5, rfl, T2, by omega, by decide, by decide +kernel, fun e G3 b3 T3 e0 e9 => ⟨_, _, rfl, _, _, rfl, rfl, ?_⟩⟩
    obtain ⟨c2, hc2, e2⟩ : ∃ c2 : Nat, c2 ≤ sz ∧ (sz : Int) - (if e < (sz : Int) then e else (sz : Int)) = (c2 : Int) := by
      split
      · exact ⟨((sz : Int) - e).toNat, by omega, by omega⟩
      · exact ⟨0, by omega, by omega⟩
    obtain ⟨a1, rfl⟩ : ∃ a1 : Nat, c1 = (a1 : Int) := ⟨_, (Int.toNat_of_nonneg c10).symm⟩
    refine ⟨szL (Nat.le_of_ble_eq_true rfl), fun L hTz => ?_⟩
    generalize hGz : upd _ L _ = G4
    have s4 := same_new hTz hGz
    have kL := new_at hGz
    clear hGz hTz
    have b13 : But p H G3 := ((But.of k1).trans b2).trans b3
    have W4 : Two CR G4 h r o ps pr po := (hW.but hT b13).sd (Sd.of s4)
    have T4 := T3.same s4
    refine ⟨L, rfl, ⟨_, SqL.of kL⟩, for_it (walk_list (xs := [.int (a1 : Int), .int ((sz : Int) - (if e < (sz : Int) then e else (sz : Int)))]))
      (fun i σ G => ∃ (x5 x6 x7 x8 x9 x10 x11 : Option V), σ = [some (.ref p), some (.ref h), some (.ref r), some (.ref o), some (.int (sz : Int)), x5, x6, x7, x8, x9, x10, x11] ∧ Same G4 G)
      ⟨none, none, none, none, none, none, none, rfl, .refl _⟩ ?_ ?_ ?_⟩
    · rintro i σ G hi ⟨x5, x6, x7, x8, x9, x10, x11, rfl, sG⟩
      exact SqL.of (sG _ _ kL)
    · rintro i y σ G G' hi ⟨x5, x6, x7, x8, x9, x10, x11, rfl, sG⟩ ⟨rfl, hy⟩
      obtain ⟨c, rfl, hc⟩ : ∃ c : Nat, y = .int (c : Int) ∧ c ≤ sz := by
        match i, hy with
        | 0, hy => exact ⟨a1, (Option.some.inj hy).symm, by omega⟩
        | 1, hy => exact ⟨c2, (Option.some.inj hy).symm.trans (congrArg V.int e2), hc2⟩
      have W := W4.sd (Sd.of sG)
      obtain ⟨dr, tr, hIr⟩ := W.r.ins
      obtain ⟨dy, ty, hIo⟩ := W.o.ins
      have hc' : c ≤ (flat ps).length := by omega
      refine ⟨_, rfl, r, dr, _, rfl, hIr, rfl, _, rfl, ?_⟩
      dsimp only [tNil, List.append_nil]
      refine part_at W.r hW.er (by have := hW.lr; omega) hc' fun ra pa K1 k1 n1 Ra la fa => ?_
      refine ⟨_, rfl, o, dy, _, rfl, k1 _ _ hIo, rfl, _, rfl, ?_⟩
      dsimp only [tNil, List.append_nil]
      refine part_at (W.o.same k1) hW.eo (by have := hW.lo; omega) hc' fun rb pb K2 k2 n2 Rb lb fb => ?_
      refine ⟨_, _, rfl, ?_⟩
      dsimp only [List.set]
      have Ra := Ra.same k2
      obtain ⟨da, ta, hIa⟩ := Ra.ins
      obtain ⟨db, tb, hIb⟩ := Rb.ins
      have la' : (flat pa).length = c := by rw [fa, List.length_take]; omega
      have lb' : (flat pb).length = sz - c := by rw [fb, List.length_drop]; omega
      have lr := hW.lr
      have lo := hW.lo
      have s2 := k1.trans k2
      refine ⟨_, rfl, ra, da, _, rfl, hIa, rfl, ra, pa, rfl, Ra, fun K3 k3 => ⟨_, rfl, rfl, _, rfl, ite2 (fun z => absurd z (by simp [la'])) (fun _ => ?_)⟩⟩
      refine ⟨_, rfl, rb, db, _, rfl, k3 _ _ hIb, rfl, rb, pb, rfl, Rb.same k3, fun K4 k4 => ⟨_, rfl, _, rfl, _, _, rfl, rfl, rfl, _, rfl, ite2 (fun z => absurd z ?_) (fun _ => ?_)⟩⟩
      · have : ((flat pb).length : Int) = (sz : Int) - (c : Int) := by omega
        simp [this]
      have k34 := k3.trans k4
      have Ra4 := Ra.same k34
      have Rb4 := Rb.same k34
      have s4' := s2.trans k34
      have W4' := W.sd (Sd.of s4')
      have hj : flat pa ++ flat pb = flat ps := by rw [fa, fb, List.take_append_drop]
      refine ⟨_, rfl, _, rfl, Ra4.insL, .inl Rb4.insL, ra, pa, .ref rb, _, _, rfl, Ra4, .row Rb4, by omega, fun r9 p9 K5 k5 n5 R9 l9 f9 => ?_⟩
      have W5 := W4'.sd (Sd.of k5)
      refine ⟨_, rfl, R9.insL, .inl W5.r.insL, r9, p9, .ref r, rfl, R9, .inl ⟨r, pr, rfl, W5.r, fun K6 k6 => ⟨_, rfl, ?_⟩⟩⟩
      rw [decide_eq_true ((f9.trans hj).trans hW.er.symm)]
      refine ite2 (fun z => absurd z (by decide)) (fun _ => ?_)
      have k56 := k5.trans k6
      have W6 := W4'.sd (Sd.of k56)
      have Ra6 := Ra4.same k56
      have Rb6 := Rb4.same k56
      have hIo6 := (s4'.trans k56) _ _ hIo
      have hIr6 := (s4'.trans k56) _ _ hIr
      have hIa6 := (k34.trans k56) _ _ hIa
      have hIb6 := (k34.trans k56) _ _ hIb
      refine ⟨_, rfl, _, rfl, o, dy, _, rfl, hIo6, rfl, _, rfl, ?_⟩
      dsimp only [tNil, List.append_nil]
      refine part_at W6.o hW.eo (by omega) hc' fun rc pc K7 k7 n7 Rc lc fc => ?_
      have Ra7 := Ra6.same k7
      refine ⟨Ra7.insL, .inl Rc.insL, ra, pa, .ref rc, rfl, Ra7, .inl ⟨rc, pc, rfl, Rc, fun K8 k8 => ⟨_, rfl, ?_⟩⟩⟩
      rw [decide_eq_true (fa.trans fc.symm)]
      refine ite2 (fun z => absurd z (by decide)) (fun _ => ?_)
      refine nxt ?_
      dsimp only
      have k78 := k7.trans k8
      have W8 := W6.sd (Sd.of k78)
      have Ra8 := Ra6.same k78
      have Rb8 := Rb6.same k78
      refine ⟨_, rfl, o, dy, _, rfl, k78 _ _ hIo6, rfl, _, rfl, o, po, .ref ra, _, _, rfl, W8.o, .row Ra8, fun K9 k9 => ⟨_, rfl, rfl, _, rfl, ite2 (fun z => absurd z (by rw [hW.eo, fa, cp_take2 hc']; simp)) (fun _ => ?_)⟩⟩
      have k89 := k78.trans k9
      have W9 := W6.sd (Sd.of k89)
      have Ra9 := Ra6.same k89
      refine ⟨_, rfl, ra, da, _, rfl, k89 _ _ hIa6, rfl, _, rfl, ra, pa, .ref r, _, _, rfl, Ra9, .row W9.r, fun KA kA => ⟨_, rfl, _, rfl, _, _, rfl, rfl, _, _, rfl, _, rfl, ?_⟩⟩
      rw [fa, hW.er, lt_take hc', show (decide (c < (flat ps).length) == decide ((c : Int) < (sz : Int))) = true from by rw [hsz]; simp]
      refine ite2 (fun z => absurd z (by decide)) (fun _ => ?_)
      have k8A := k89.trans kA
      have WA := W6.sd (Sd.of k8A)
      refine ⟨_, rfl, r, dr, _, rfl, k8A _ _ hIr6, rfl, _, rfl, r, pr, .ref ra, _, _, rfl, WA.r, .row (Ra6.same k8A), fun KB kB => ⟨_, rfl, ?_⟩⟩
      rw [fa, hW.er, lt_take2]
      refine ite2 (fun z => absurd z (by decide)) (fun _ => ?_)
      refine nxt ?_
      dsimp only
      have k8B := k8A.trans kB
      have WB := W6.sd (Sd.of k8B)
      refine ⟨_, rfl, _, rfl, h, ps, _, rfl, WB.at', fun KC kC => ⟨_, rfl, _, rfl, _, _, rfl, rfl, h, ps, _, rfl, (WB.sd (Sd.of kC)).at', fun KD kD => ⟨_, _, rfl, ?_⟩⟩⟩
      dsimp only [List.set]
      have kBD := kC.trans kD
      have WD := WB.sd (Sd.of kBD)
      have RbD := Rb6.same (k8B.trans kBD)
      have hIbD := (k8B.trans kBD) _ _ hIb6
      have hIrD := (k8B.trans kBD) _ _ hIr6
      refine if_skipS (fun G => Same KD G) (fun Q2 q2 => ?_) (fun KE kE => ?_)
      · refine ⟨_, rfl, _, rfl, _, _, rfl, rfl, _, rfl, ite2 (fun cc => ?_) (fun cc => q2 _ (.refl _))⟩
        have hcl : c < (flat ps).length := by
          have z : (c : Int) < (sz : Int) := by simpa using cc
          omega
        have hll : (flat ps).length - 1 < (flat ps).length := by omega
        have hx1 : (flat ps)[c]? = some (flat ps)[c] := List.getElem?_eq_getElem hcl
        have hx2 : (flat ps)[(flat ps).length - 1]? = some (flat ps)[(flat ps).length - 1] := List.getElem?_eq_getElem hll
        have v1 := numV_at (fun q hq => WB.at'.nn q hq) hx1
        have v2 := numV_at (fun q hq => WB.at'.nn q hq) hx2
        have e1 : ((sz : Int) - 1) = (((flat ps).length - 1 : Nat) : Int) := by omega
        rw [v1, e1, v2]
        generalize (flat ps)[c] = y1 at hx1
        generalize (flat ps)[(flat ps).length - 1] = y2 at hx2
        refine ⟨_, rfl, rb, db, _, rfl, hIbD, rfl, ?_⟩
        dsimp only [tNil, tCons, tC, List.append_nil]
        refine bud_at2 (m := 0) RbD fb rfl (by rw [drop_at]; exact hx1) fun KE kE => ?_
        refine ⟨_, rfl, rb, db, _, rfl, kE _ _ hIbD, rfl, _, rfl, _, rfl, _, _, rfl, rfl, _, _, rfl, rfl, ?_⟩
        dsimp only [tNil, List.append_nil]
        refine bud_at2 (m := (flat ps).length - c - 1) (RbD.same kE) fb (by omega) (by rw [drop_at, show c + ((flat ps).length - c - 1) = (flat ps).length - 1 from by omega]; exact hx2) fun KF kF => ?_
        refine ⟨szL (Nat.le_of_ble_eq_true rfl), fun A1 hTz => ?_⟩
        generalize hGz : upd _ A1 _ = G5
        have s5 := same_new hTz hGz
        have kA1 := new_at hGz
        clear hGz hTz
        refine ⟨_, rfl, _, rfl, ?_⟩
        refine ⟨szL (Nat.le_of_ble_eq_true rfl), fun A2 hTz => ?_⟩
        generalize hGz : upd _ A2 _ = G6
        have s6 := same_new hTz hGz
        have kA2 := new_at hGz
        clear hGz hTz
        refine neI (xs := [y1, y2]) (ys := [y1, y2]) (s6 _ _ kA1) kA2 ⟨_, rfl, ?_⟩
        rw [decide_eq_true rfl]
        exact q2 _ ((kE.trans kF).trans (s5.trans s6))
      have kBE := kBD.trans kE
      have WE := WB.sd (Sd.of kBE)
      have RbE := Rb6.same (k8B.trans kBE)
      have hIbE := (k8B.trans kBE) _ _ hIb6
      have hIrE := (k8B.trans kBE) _ _ hIr6
      have sGE : Same G4 KE := ((sG.trans s4').trans k56).trans (k8B.trans kBE)
      refine ⟨_, rfl, rb, db, _, rfl, hIbE, rfl, rb, pb, rfl, RbE, fun KF kF => ⟨_, _, rfl, rfl, _, rfl, ite2 (fun cc => ?_) (fun cc => ?_)⟩⟩
      · have h60 : sz - c < 60 := by
          have z : ((flat pb).length : Int) < 60 := by simpa using cc
          omega
        refine ⟨_, rfl, _, rfl, _, _, rfl, rfl, _, rfl, by omega, by omega, fun D hD => ?_⟩
        refine lc_it walk_range (fun i G => Same KF G ∧ G D = some (.lst (((flat pb).take i).map V.int))) ⟨sameNew hD, upd_same⟩ (fun _ _ _ _ => trivial) ?_ ?_
        · rintro i x G1 G2 hi ⟨s1, hD1⟩ ⟨rfl, rfl⟩
          have hi' : i < (flat pb).length := by omega
          have hx : (flat pb)[i]? = some (flat pb)[i] := List.getElem?_eq_getElem hi'
          generalize (flat pb)[i] = y at hx
          have hx2 : (flat ps)[c + i]? = some y := by rw [fb, drop_at] at hx; exact hx
          have v := numV_at (fun q hq => WB.at'.nn q hq) hx2
          have W1 := WE.sd (Sd.of (kF.trans s1))
          refine ⟨rfl, ?_⟩
          refine ⟨_, rfl, _, rfl, _, rfl, _, _, rfl, rfl, h, ps, _, rfl, W1.at', fun G3 s3 => ?_⟩
          have ev : numV ps ((c : Int) + (0 + (i : Int))) = .int y := by
            have e1 : (c : Int) + (0 + (i : Int)) = ((c + i : Nat) : Int) := by omega
            rw [e1, v]
          rw [ev]
          refine ⟨_, s3 _ _ hD1, ?_, K23.Same.updN (s1.trans s3) hD, ?_⟩
          · rw [List.length_map, List.length_take, sizeLine_eq]
            omega
          · rw [upd_same, List.take_succ, hx, List.map_append]
            rfl
        · rintro G1 ⟨s1, hD1⟩
          have ent : ((sz : Int) - (c : Int)).toNat = (flat pb).length := by omega
          rw [ent, List.take_length] at hD1
          refine gN ?_
          dsimp only [List.set]
          have k1F := kF.trans s1
          have W1 := WE.sd (Sd.of k1F)
          refine ⟨_, rfl, r, dr, _, rfl, k1F _ _ hIrE, rfl, _, rfl, ?_⟩
          dsimp only [tNil, List.append_nil]
          refine part_at W1.r hW.er (by omega) hc' fun rd pd K1 k1 n1 Rd ld fd' => ?_
          obtain ⟨dd, td, hId⟩ := Rd.ins
          have ld' : (flat pd).length = sz - c := by rw [fd', List.length_drop]; omega
          refine ⟨rd, dd, _, rfl, hId, rfl, rd, pd, 2000, rfl, Rd, (fun z => absurd z (by omega)), fun _ => ⟨by omega, fun t1 K2 k2 n2 h2 => ?_⟩⟩
          refine ⟨t1, _, rfl, .inr (SqT.of h2), ?_⟩
          intro L2 hTz
          generalize hGz : upd _ L2 _ = K3
          have k3 := same_new hTz hGz
          have kL2 := new_at hGz
          clear hGz hTz
          have hD3 := k3 _ _ (k2 _ _ (k1 _ _ hD1))
          refine ⟨_, rfl, neL kL2 hD3 ⟨_, rfl, ?_⟩⟩
          rw [decide_eq_true (fd'.trans fb.symm)]
          refine ite2 (fun z => absurd z (by decide)) (fun _ => ?_)
          exact ⟨_, _, _, _, _, _, _, rfl, sGE.trans (k1F.trans ((k1.trans k2).trans k3))⟩
      · exact ⟨_, _, _, _, _, _, _, rfl, sGE.trans kF⟩
    · rintro σ G ⟨x5, x6, x7, x8, x9, x10, x11, rfl, sG⟩
      exact k (n2 + 1) G (b13.trans (But.of (s4.trans sG))) ((T3.same s4).same sG) (by omega)
end
end K23
namespace K23
open PySem PySem.Spec PyProof.Rows L2 RwM Rw EV TryN LamX
abbrev sParted : Stmt := top 49
def spParted (CR : Addr) : Sp := fun vs H Q _ => ∃ (p l h r o : Addr) (ns : List Int) (n : Nat) (ps pr po : PS), vs = [.ref p, .ref h, .ref r, .ref o] ∧ TapeAt H p l ns n ∧ n ≤ 600000 ∧ Two CR H h r o ps pr po ∧
  ∀ (n' : Nat) (H' : Hp), But p H H' → TapeAt H' p l ns n' → n' ≤ n + 150 → Q (.bl true) H'
theorem pair_take {α β : Type} {R : α → β → Prop} : ∀ {xs : List α} {us : List β} (n : Nat), Paired R xs us → Paired R (xs.take n) (us.take n)
  | _, _, 0, _ => .nil
  | _, _, _ + 1, .nil => .nil
  | _, _, n + 1, .cons r t => .cons r (pair_take n t)
/-- what stands below the tape and a new list stays -/
theorem RowV.but {C : Addr} {H H' : Hp} {r p l : Addr} {ns : List Int} {n : Nat} {ps : PS} (h : RowV C H r ps) (T : TapeAt H p l ns n) (b : But p H H') : RowV C H' r ps := h.sd (Sd.tape T b)
section
variable {P : Program} {w : World} {K : PySem.W.Frag} {mg : Str → Option Value} {base : Heap}
abbrev nmParted : List Str := ["_law_tape", "_law_stretches", "_law_row", "_law_other", "_law_size", "_law_one", "_law_two", "_law_more", "_law_end", "_law_left", "_law_right"]
theorem scParted : FnScope nmParted ["_law_tape", "_law_stretches", "_law_row", "_law_other"] (defScope sParted) := ⟨rfl, rfl, rfl, by decide +kernel, rfl, by decide +kernel, by decide +kernel⟩
theorem ok_parted {f fB fD fI fS fR fU CO CT CR CU CB a0 : Addr} {fd fdB fdD fdI fdS fdR fdU : FuncData} {ff : Nat → Addr} {fdd : Nat → FuncData} {ds0 : List Value} (F : Fun K "_law_parted_right" "_law_parted_right" sParted f fd) (zT : mg "tuple" = none) (zI : mg "int" = none)
    (GB : FnOk P w K mg base CX0 1 fB fdB ["_law_stretches"] spCount) (AB : At K mg "_law_bulk" fB fdB ["_law_stretches"]) (GD : FnOk P w K mg base CX0 1 fD fdD ["_law_tape", "_law_limit"] spDraw)
    (AD : At K mg "_law_draw" fD fdD ["_law_tape", "_law_limit"]) (GI : FnOk P w K mg base CX0 1 fI fdI ["_law_value", "_law_truth"] spIs) (AI : At K mg "_law_is" fI fdI ["_law_value", "_law_truth"])
    (GS : FnOk P w K mg base CX0 4 fS fdS ["_law_tape"] spStrips) (AS : At K mg "_law_strips" fS fdS ["_law_tape"]) (RM : MkR P w K mg base (10 ^ 300) CR CU CB fR fU fdR fdU) (RK : RowKit P w K mg base CR CO CT ff fdd) :
    FnOk P w K mg base CX0 11 f fd ["_law_tape", "_law_stretches", "_law_row", "_law_other"] (spParted CR) := by
  refine F.ok scParted (fun vs H Q E h => ?_) (fun cdv A outer s H vs Q E hr h => ?_)
  · obtain ⟨p, l, h, r, o, ns, n, ps, pr, po, rfl, _⟩ := h
    rfl
  · obtain ⟨p, l, h, r, o, ns, n, ps, pr, po, rfl, hT, hn, hW, k⟩ := h
    have nd := scParted.nd
    have hr1 := hr.mono (show 1 ≤ 10 by decide)
    have hr2 := hr.mono (show 2 ≤ 10 by decide)
    have hr3 := hr.mono (show 3 ≤ 10 by decide)
    have hr4 := hr.mono (show 4 ≤ 10 by decide)
    have hr7 := hr.mono (show 7 ≤ 10 by decide)
    have hr8 := hr.mono (show 8 ≤ 10 by decide)
    have hu64 := hu64_of hr
    have bt : bootBuiltins "tuple" = some (.type "tuple") := by decide +kernel
    have bi : bootBuiltins "int" = some (.type "int") := by decide +kernel
    refine ⟨_, (pss_cons (ps_set (i := 4) nd rfl (Or.inl rfl) (pe_call GB hr1 rfl AB.mg AB.kp AB.bd .nil pass0 (pa_cons (pv 1) pa_nil)))
(pss_cons (ps_set (i := 5) nd rfl (Or.inl rfl) (pe_call GD hr1 rfl AD.mg AD.kp AD.bd .nil pass0 (pa_cons (pv 0) (pa_cons pe_int pa_nil))))
(pss_cons (ps_set (i := 6) nd rfl (Or.inl rfl) (pe_op op_mod (pe_callTy call_int1 (by rfl) zI bi (pa_cons (pe_op op_add (pe_op op_add (pv 5) pe_int) (pe_call GD hr1 rfl AD.mg AD.kp AD.bd .nil pass0 (pa_cons (pv 0) (pa_cons pe_int pa_nil)))) pa_nil)) pe_int))
(pss_cons (ps_par rfl nd (i := 7) (j := 8) rfl rfl (by decide) rfl rfl (pa_cons (pe_slice sl_list (pe_call GS hr4 rfl AS.mg AS.kp AS.bd .nil pass0 (pa_cons (pv 0) pa_nil)) po_none (po_some pe_int)) (pa_cons (pe_lst (pa_cons (pe_tup (pa_cons (pe_callTy (r := rTupO K) call_tupO (by rfl) zT bt (pa_cons (pe_lst (pa_cons (pe_call GD hr1 rfl AD.mg AD.kp AD.bd .nil pass0 (pa_cons (pv 0) (pa_cons pe_int pa_nil))) pa_nil)) pa_nil)) (pa_cons (pe_call GD hr1 rfl AD.mg AD.kp AD.bd .nil pass0 (pa_cons (pv 0) (pa_cons pe_int pa_nil))) pa_nil))) pa_nil)) pa_nil)) (by rfl))
(pss_cons (ps_par rfl nd (i := 9) (j := 10) rfl rfl (by decide) rfl rfl (pa_cons (pe_op (op_adO RK.op RK.add hr8 RK.addB passN) (pe_op (op_adO RK.op RK.add hr8 RK.addB passN) (pv 2) (pe_tup (pa_cons (pv 5) pa_nil))) (pe_make (E := E0) RM.mR RM.oR hr7 rfl RM.gR RM.bR .nil passN (pa_cons (pv 7) pa_nil))) (pa_cons (pe_op (op_adO RK.op RK.add hr8 RK.addB passN) (pv 3) (pe_make (E := E0) RM.mR RM.oR hr7 rfl RM.gR RM.bR .nil passN (pa_cons (pe_op op_cat (pe_lst (pa_cons (pe_tup (pa_cons (pe_tup (pa_cons (pv 6) pa_nil)) (pa_cons (pe_op op_add pe_int (pe_call GD hr1 rfl AD.mg AD.kp AD.bd .nil pass0 (pa_cons (pv 0) (pa_cons pe_int pa_nil)))) pa_nil))) pa_nil)) (pv 8)) pa_nil))) pa_nil)) (by rfl))
(pss_cons (ps_if (PW.pt (pw_or (pt_cmpR op_ne (pe_meth (pv 9) RK.cR RK.common.at' RK.common.ok hr4 RK.common.bd .nil pass0 (pa_cons (pv 10) pa_nil)) (pv 4) (nomark _)) (pw_or (pt_cmpR op_ne (pe_meth (pv 10) RK.cR RK.common.at' RK.common.ok hr4 RK.common.bd .nil pass0 (pa_cons (pv 9) pa_nil)) (pv 4) (nomark _)) (pw_or1 (pt_cmpR (op_eqO RK.op RK.eq hr4 RK.eqB pass0) (pv 9) (pv 10) (nomark _))))))
(pss_one (ps_ret pe_bl))
pss_nil)
(pss_cons (ps_if (PW.pt (pw_or (pt_not (pt_val (pe_call GI hr1 rfl AI.mg AI.kp AI.bd .nil pass0 (pa_cons (pe_meth (pv 9) RK.cR RK.before.at' RK.before.ok hr4 RK.before.bd .nil pass0 (pa_cons (pv 10) pa_nil)) (pa_cons (pe_cmpR op_lt (pv 5) (pv 6) (nomark _)) pa_nil))))) (pw_or1 (pt_not (pt_val (pe_call GI hr1 rfl AI.mg AI.kp AI.bd .nil pass0 (pa_cons (pe_meth (pv 10) RK.cR RK.before.at' RK.before.ok hr4 RK.before.bd .nil pass0 (pa_cons (pv 9) pa_nil)) (pa_cons (pe_cmpR op_lt (pv 6) (pv 5) (nomark _)) pa_nil))))))))
(pss_one (ps_ret pe_bl))
pss_nil)
(pss_cons (ps_if (PW.pt (pw_or (pt_not (pt_val (pe_meth (pv 2) RK.cR RK.before.at' RK.before.ok hr4 RK.before.bd .nil pass0 (pa_cons (pv 9) pa_nil)))) (pw_or (pt_val (pe_meth (pv 9) RK.cR RK.before.at' RK.before.ok hr4 RK.before.bd .nil pass0 (pa_cons (pv 3) pa_nil))) (pw_or (pt_not (pt_val (pe_meth (pv 3) RK.cR RK.before.at' RK.before.ok hr4 RK.before.bd .nil pass0 (pa_cons (pv 10) pa_nil)))) (pw_or1 (pt_cmpR op_ne (pe_meth (pv 9) RK.cR RK.common.at' RK.common.ok hr4 RK.common.bd .nil pass0 (pa_cons (pv 2) pa_nil)) (pv 4) (nomark _)))))))
(pss_one (ps_ret pe_bl))
pss_nil)
(pss_one (ps_ret (pe_and (pe_cmpR op_eq (pe_meth (pv 9) RK.cR RK.bud.at' RK.bud.ok hr3 RK.bud.bd .nil passN (pa_cons (pv 4) pa_nil)) (pv 5) (nomark _)) (pe_and (pe_cmpR op_eq (pe_meth (pv 10) RK.cR RK.bud.at' RK.bud.ok hr3 RK.bud.bd .nil passN (pa_cons (pv 4) pa_nil)) (pv 6) (nomark _)) (pe_one (pe_cmpR op_eq (pe_meth0 (pv 9) RK.cR RK.total.at' RK.total.ok hr2 RK.total.bd .nil pass0) (pe_op op_add (pe_op op_add (pv 4) pe_int) (pe_call GB hr1 rfl AB.mg AB.kp AB.bd .nil pass0 (pa_cons (pv 7) pa_nil))) (nomark _))))))))))))))), ?_⟩
    refine ⟨_, rfl, h, ps, rfl, hW.at', fun K1 k1 => ?_⟩
    refine gN ?_
    obtain ⟨sz, hsz⟩ : ∃ sz : Nat, sz = (flat ps).length := ⟨_, rfl⟩
    rw [← hsz]
    have st : List.set (L2.start nmParted [V.ref p, V.ref h, V.ref r, V.ref o]) 4 (some (V.int (sz : Int))) = [some (.ref p), some (.ref h), some (.ref r), some (.ref o), some (.int (sz : Int)), none, none, none, none, none, none] := rfl
    rw [st]
    have T1 := hT.same k1
    refine ⟨_, rfl, p, l, ns, n, 4, rfl, T1, by omega, by decide, by decide +kernel, fun one G1 b1 T1 o0 o9 => ?_⟩
    refine gN ?_
    dsimp only [List.set]
    refine ⟨_, rfl, _, _, rfl, rfl, _, rfl, p, l, ns, n + 1, 3, rfl, T1, by omega, by decide, by decide +kernel, fun e G2 b2 T2 e0 e9 => ⟨_, _, rfl, rfl, .inl ⟨_, rfl, _, _, rfl, rfl, (by show (0 : Int) < 4; decide), ?_⟩⟩⟩
    refine gN ?_
    dsimp only [List.set]
    obtain ⟨two, htw⟩ : ∃ two : Int, two = (one + 1 + e) % 4 := ⟨_, rfl⟩
    have t0 : 0 ≤ two := by omega
    have t9 : two < 4 := by omega
    have hne : one ≠ two := by omega
    rw [← htw]
    have b12 : But p H G2 := ((But.of k1).trans b1).trans b2
    refine ⟨_, rfl, p, l, ns, n + 2, rfl, T2, by omega, fun q ws qs n3 G3 b3 nq T3 hn3 hq hQ h1 h4 hG => ?_⟩
    have c2 : cutV ws none (some 2) = ws.take 2 := cutV_take ws 2
    refine ⟨2, rfl, q, ws, rfl, SqL.of hq, ?_⟩
    rw [c2]
    intro M4 hTz
    generalize hGz : upd _ M4 _ = G4
    have s4 := same_new hTz hGz
    have kM := new_at hGz
    clear hGz hTz
    refine ⟨_, rfl, p, l, ns, n3, 4, rfl, T3.same s4, by omega, by decide, by decide +kernel, fun z1 G5 b5 T5 z10 z19 => ?_⟩
    refine ⟨szL (Nat.le_of_ble_eq_true rfl), fun L6 hTz => ?_⟩
    generalize hGz : upd _ L6 _ = G6
    have s6 := same_new hTz hGz
    have kL := new_at hGz
    clear hGz hTz
    dsimp only [tNil]
    refine tupO (.inl kL) fun t7 G7 s7 kt7 => ?_
    have s67 := s6.trans s7
    refine ⟨_, rfl, p, l, ns, n3 + 1, 3, rfl, T5.same s67, by omega, by decide, by decide +kernel, fun z2 G8 b8 T8 z20 z29 => ?_⟩
    refine ⟨szL (Nat.le_of_ble_eq_true rfl), fun P9 hTz => ?_⟩
    generalize hGz : upd _ P9 _ = G9
    have s9 := same_new hTz hGz
    have kP := new_at hGz
    clear hGz hTz
    refine ⟨szL (Nat.le_of_ble_eq_true rfl), fun E10 hTz => ?_⟩
    generalize hGz : upd _ E10 _ = G10
    have s10 := same_new hTz hGz
    have kE := new_at hGz
    clear hGz hTz
    refine ⟨_, _, rfl, ?_⟩
    dsimp only [List.set]
    have b3A : But p G2 G10 := ((b3.trans (But.of s4)).trans b5).trans ((But.of s67).trans (b8.trans (But.of (s9.trans s10))))
    have b0A := b12.trans b3A
    have WA := hW.but hT b0A
    have TA : TapeAt G10 p l ns (n3 + 2) := T8.same (s9.trans s10)
    -- the list of stretches behind one
    have b410 : But p G4 G10 := b5.trans ((But.of s67).trans (b8.trans (But.of (s9.trans s10))))
    obtain ⟨kv4, ekv4⟩ := (T3.same s4).pt
    have P4 : Prs G4 (ws.take 2) (qs.take 2) := pair_take 2 (Prs.same hQ s4)
    have PA : Prs G10 (ws.take 2) (qs.take 2) := Prs.tape P4 ekv4 b410
    have kMA : G10 M4 = some (.lst (ws.take 2)) := b410 _ _ (ne_of kM ekv4 (by intro z; cases z)) kM
    have gMA : ∀ x ∈ qs.take 2, (1 ≤ x.1.length ∧ x.1.length ≤ 40) ∧ Low x.1 ∧ 0 ≤ x.2 ∧ x.2 ≤ 10 ^ 300 := fun x hx => by
      obtain ⟨g1, g2, g3, g4, g5⟩ := hG x (List.mem_of_mem_take hx)
      exact ⟨⟨g1, by omega⟩, g3, g4, g5⟩
    have kEA : G10 E10 = some (.lst [.ref P9]) := kE
    have PE : PairAt G10 (.ref P9) ([z1], z2) := by
      obtain ⟨kv7, ekv7⟩ := (T5.same s67).pt
      exact ⟨P9, t7, rfl, s10 _ _ kP, (s9.trans s10) _ _ (b8 _ _ (ne_of kt7 ekv7 (by intro z; cases z)) kt7)⟩
    have lr := hW.lr
    have lo := hW.lo
    have lq : (qs.take 2).length ≤ 2 := by rw [List.length_take]; omega
    have m300 : (100 : Int) ≤ 10 ^ 300 := by decide +kernel
    refine ⟨_, rfl, _, rfl, ?_⟩
    refine ⟨szL (Nat.le_of_ble_eq_true rfl), fun A11 hTz => ?_⟩
    generalize hGz : upd _ A11 _ = G11
    have s11 := same_new hTz hGz
    have kA := new_at hGz
    clear hGz hTz
    have W11 := WA.sd (Sd.of s11)
    refine ⟨W11.r.insL, .inr (.inl ⟨A11, _, rfl, kA⟩), r, pr, .ref A11, [one], _, rfl, W11.r, .plain (.inr kA) (by show 1 ≤ 100000; decide), (by show pr.length + (1 / 20 + 1) ≤ 9000; omega), fun r1 p1 G12 s12 n12 R1 l1 f1 => ?_⟩
    replace l1 : p1.length ≤ pr.length + (1 / 20 + 1) := l1
    refine ⟨_, rfl, ?_⟩
    dsimp only [tNil]
    have s1112 := s11.trans s12
    refine mk_rowL (s1112 _ _ kMA) (stat_of (Prs.same PA s1112) gMA) (by omega) fun r2 G13 s13 n13 R2 => ?_
    have R1' := R1.same s13
    refine ⟨R1'.insL, .inl R2.insL, r1, p1, .ref r2, _, _, rfl, R1', .row R2, by omega, fun rl pl G14 s14 n14 Rl ll fl => ?_⟩
    have sA14 := s1112.trans (s13.trans s14)
    refine ⟨_, rfl, _, rfl, ?_⟩
    refine ⟨szL (Nat.le_of_ble_eq_true rfl), fun A15 hTz => ?_⟩
    generalize hGz : upd _ A15 _ = G15
    have s15 := same_new hTz hGz
    have kA15 := new_at hGz
    clear hGz hTz
    have TF := TA.same (sA14.trans s15)
    refine ⟨_, rfl, p, l, ns, n3 + 2, 3, rfl, TF, by omega, by decide, by decide +kernel, fun z3 G16 b16 T16 z30 z39 => ⟨_, _, rfl, rfl, ?_⟩⟩
    refine ⟨szL (Nat.le_of_ble_eq_true rfl), fun P17 hTz => ?_⟩
    generalize hGz : upd _ P17 _ = G17
    have s17 := same_new hTz hGz
    have kP17 := new_at hGz
    clear hGz hTz
    refine ⟨szL (Nat.le_of_ble_eq_true rfl), fun L18 hTz => ?_⟩
    generalize hGz : upd _ L18 _ = G18
    have s18 := same_new hTz hGz
    have kL18 := new_at hGz
    clear hGz hTz
    have s178 := s17.trans s18
    obtain ⟨kvF, ekvF⟩ := TF.pt
    have keep : ∀ {a : Addr} {o : HO}, G15 a = some o → (∀ kv, o ≠ .dK kv) → G18 a = some o := fun h1 h2 => s178 _ _ (b16 _ _ (ne_of h1 ekvF (h2 _)) h1)
    have kE18 : G18 E10 = some (.lst [.ref P9]) := keep ((sA14.trans s15) _ _ kEA) (fun _ z => by cases z)
    have PE18 : PairAt G18 (.ref P9) ([z1], z2) := PairAt.same (PairAt.tape (PairAt.same PE (sA14.trans s15)) ekvF b16) s178
    have kA18 : G18 A15 = some (.tup [.int two]) := keep kA15 (fun _ z => by cases z)
    refine ⟨_, rfl, L18, E10, _, _, rfl, rfl, kL18, kE18, (by rw [sizeLine_eq]; show 2 ≤ _; omega), ?_⟩
    intro F19 hTz
    generalize hGz : upd _ F19 _ = G19
    have s19 := same_new hTz hGz
    have kF19 := new_at hGz
    clear hGz hTz
    have P19 : Prs G19 [.ref P17, .ref P9] [([two], 1 + z3), ([z1], z2)] := .cons ⟨P17, A15, rfl, s19 _ _ (s18 _ _ kP17), s19 _ _ kA18⟩ (.cons (PairAt.same PE18 s19) .nil)
    have g19 : ∀ x ∈ ([([two], 1 + z3), ([z1], z2)] : PS), (1 ≤ x.1.length ∧ x.1.length ≤ 40) ∧ Low x.1 ∧ 0 ≤ x.2 ∧ x.2 ≤ 10 ^ 300 := fun x hx => by
      simp only [List.mem_cons, List.not_mem_nil, or_false] at hx
      rcases hx with rfl | rfl
      · refine ⟨⟨by show 1 ≤ 1; decide, by show 1 ≤ 40; decide⟩, fun y hy => ?_, by show 0 ≤ 1 + z3; omega, by show 1 + z3 ≤ 10 ^ 300; omega⟩
        rw [List.mem_singleton.mp hy]
        omega
      · refine ⟨⟨by show 1 ≤ 1; decide, by show 1 ≤ 40; decide⟩, fun y hy => ?_, z20, by show z2 ≤ 10 ^ 300; omega⟩
        rw [List.mem_singleton.mp hy]
        omega
    refine mk_rowL kF19 (stat_of P19 g19) (by show 2 ≤ 20; decide) fun r3 G20 s20 n20 R3 => ?_
    have b1418 : But p G14 G18 := (But.of s15).trans (b16.trans (But.of s178))
    have s820 := s19.trans s20
    have b1420 := b1418.trans (But.of s820)
    have T14 := TA.same sA14
    have W14 := WA.sd (Sd.of sA14)
    have W20 := W14.but T14 b1420
    have Rl20 := Rl.but T14 b1420
    refine ⟨W20.o.insL, .inl R3.insL, o, po, .ref r3, _, _, rfl, W20.o, .row R3, (by show po.length + 2 ≤ 9000; omega), fun rr pR G21 s21 n21 Rr lR fr => ?_⟩
    refine ⟨_, _, rfl, ?_⟩
    dsimp only [List.set]
    have W21 := W20.sd (Sd.of s21)
    have Rl21 := Rl20.same s21
    obtain ⟨X, hX⟩ : ∃ X, X = flat (qs.take 2) := ⟨_, rfl⟩
    obtain ⟨Y, hY⟩ : ∃ Y, Y = rep [two] z3 ++ rep [z1] z2 := ⟨_, rfl⟩
    have fl' : flat pl = flat ps ++ one :: X := by
      rw [fl, f1, hW.er, hX, List.append_assoc]
      rfl
    have fr' : flat pR = flat ps ++ two :: Y := by
      rw [fr, hW.eo, flat_cons, flat_one, hY]
      show flat ps ++ (rep [two] (1 + z3) ++ rep [z1] z2) = _
      rw [rep_add _ (by decide) z30, rep_one, List.append_assoc]
      rfl
    have b21 : But p H G21 := (b0A.trans (But.of sA14)).trans (b1420.trans (But.of s21))
    have T21 : TapeAt G21 p l ns (n3 + 3) := (T16.same s178).same (s820.trans s21)
    have MA : RowAt G10 M4 (qs.take 2) := ⟨⟨_, .inl kMA, PA⟩, by omega, fun q hq => (gMA q hq).2.2.1, fun q hq => ⟨(gMA q hq).1.1, by have := (gMA q hq).1.2; omega⟩⟩
    have M21 : RowAt G21 M4 (qs.take 2) := ((MA.sd (Sd.of sA14)).sd (Sd.tape T14 b1420)).sd (Sd.of s21)
    obtain ⟨dl, tl, hIl⟩ := Rl21.ins
    obtain ⟨dr, tr, hIR⟩ := Rr.ins
    obtain ⟨da, ta, hIr⟩ := W21.r.ins
    obtain ⟨db, tb, hIo⟩ := W21.o.ins
    have hne' := Ne.symm hne
    have hdiff : flat pl ≠ flat pR := fun z => by
      rw [fl', fr'] at z
      exact hne (List.cons.inj (List.append_cancel_left z)).1
    refine ⟨_, rfl, rl, dl, _, rfl, hIl, rfl, _, rfl, rl, pl, .ref rr, _, _, rfl, Rl21, .row Rr, fun K1 k1 => ⟨_, rfl, rfl, _, rfl, ite2 (fun z => absurd z (by rw [fl', fr', cp_part hne, ← hsz]; simp)) (fun _ => ?_)⟩⟩
    refine ⟨_, rfl, rr, dr, _, rfl, k1 _ _ hIR, rfl, _, rfl, rr, pR, .ref rl, _, _, rfl, Rr.same k1, .row (Rl21.same k1), fun K2 k2 => ⟨_, rfl, rfl, _, rfl, ite2 (fun z => absurd z (by rw [fl', fr', cp_part hne', ← hsz]; simp)) (fun _ => ?_)⟩⟩
    have k12 := k1.trans k2
    have Rl2 := Rl21.same k12
    have Rr2 := Rr.same k12
    refine ⟨_, rfl, _, rfl, Rl2.insL, .inl Rr2.insL, rl, pl, .ref rr, rfl, Rl2, .inl ⟨rr, pR, rfl, Rr2, fun K3 k3 => ⟨_, rfl, ?_⟩⟩⟩
    rw [decide_eq_false hdiff]
    refine ite2 (fun z => absurd z (by decide)) (fun _ => ?_)
    refine nxt ?_
    dsimp only
    have k13 := k12.trans k3
    have Rl3 := Rl21.same k13
    have Rr3 := Rr.same k13
    refine ⟨_, rfl, rl, dl, _, rfl, k13 _ _ hIl, rfl, _, rfl, rl, pl, .ref rr, _, _, rfl, Rl3, .row Rr3, fun K4 k4 => ⟨_, rfl, _, rfl, _, _, rfl, rfl, _, _, rfl, _, rfl, ?_⟩⟩
    rw [fl', fr', lt_part hne, show (decide (one < two) == decide (one < two)) = true from beq_self_eq_true _]
    refine ite2 (fun z => absurd z (by decide)) (fun _ => ?_)
    have k14 := k13.trans k4
    refine ⟨_, rfl, rr, dr, _, rfl, k14 _ _ hIR, rfl, _, rfl, rr, pR, .ref rl, _, _, rfl, Rr.same k14, .row (Rl21.same k14), fun K5 k5 => ⟨_, rfl, _, rfl, _, _, rfl, rfl, _, _, rfl, _, rfl, ?_⟩⟩
    rw [fl', fr', lt_part hne', show (decide (two < one) == decide (two < one)) = true from beq_self_eq_true _]
    refine ite2 (fun z => absurd z (by decide)) (fun _ => ?_)
    refine nxt ?_
    dsimp only
    have k15 := k14.trans k5
    have W5 := W21.sd (Sd.of k15)
    refine ⟨_, rfl, r, da, _, rfl, k15 _ _ hIr, rfl, _, rfl, r, pr, .ref rl, _, _, rfl, W5.r, .row (Rl21.same k15), fun K6 k6 => ⟨_, rfl, ?_⟩⟩
    rw [hW.er, fl', lt_pre]
    refine ite2 (fun z => absurd z (by decide)) (fun _ => ?_)
    have k16 := k15.trans k6
    have W6 := W21.sd (Sd.of k16)
    refine ⟨_, rfl, rl, dl, _, rfl, k16 _ _ hIl, rfl, _, rfl, rl, pl, .ref o, _, _, rfl, Rl21.same k16, .row W6.o, fun K7 k7 => ⟨_, rfl, ?_⟩⟩
    rw [hW.eo, fl', lt_pre2]
    refine ite2 (fun z => absurd z (by decide)) (fun _ => ?_)
    have k17 := k16.trans k7
    have W7 := W21.sd (Sd.of k17)
    refine ⟨_, rfl, o, db, _, rfl, k17 _ _ hIo, rfl, _, rfl, o, po, .ref rr, _, _, rfl, W7.o, .row (Rr.same k17), fun K8 k8 => ⟨_, rfl, ?_⟩⟩
    rw [hW.eo, fr', lt_pre]
    refine ite2 (fun z => absurd z (by decide)) (fun _ => ?_)
    have k18 := k17.trans k8
    have W8 := W21.sd (Sd.of k18)
    refine ⟨_, rfl, rl, dl, _, rfl, k18 _ _ hIl, rfl, _, rfl, rl, pl, .ref r, _, _, rfl, Rl21.same k18, .row W8.r, fun K9 k9 => ⟨_, rfl, rfl, _, rfl, ite2 (fun z => absurd z (by rw [hW.er, fl', cp_pre2, ← hsz]; simp)) (fun _ => ?_)⟩⟩
    refine nxt ?_
    dsimp only
    have k19 := k18.trans k9
    have Rl9 := Rl21.same k19
    have Rr9 := Rr.same k19
    have hx1 : (flat pl)[sz]? = some one := by rw [fl', hsz, List.getElem?_append_right (Nat.le_refl _), Nat.sub_self]; rfl
    have hx2 : (flat pR)[sz]? = some two := by rw [fr', hsz, List.getElem?_append_right (Nat.le_refl _), Nat.sub_self]; rfl
    have hll : (flat pl).length = sz + 1 + X.length := by rw [fl', List.length_append, List.length_cons, ← hsz]; omega
    refine ⟨_, rfl, rl, dl, _, rfl, k19 _ _ hIl, rfl, _, rfl, ?_⟩
    dsimp only [tNil, List.append_nil]
    refine bud_at Rl9 rfl hx1 fun K10 k10 => ?_
    refine ⟨_, rfl, rfl, _, rfl, ite2 (fun _ => ?_) (fun z => absurd (by simp) z)⟩
    have k1A := k19.trans k10
    refine ⟨_, rfl, rr, dr, _, rfl, k1A _ _ hIR, rfl, _, rfl, ?_⟩
    dsimp only [tNil, List.append_nil]
    refine bud_at (Rr.same k1A) rfl hx2 fun K11 k11 => ?_
    refine ⟨_, rfl, rfl, _, rfl, ite2 (fun _ => ?_) (fun z => absurd (by simp) z)⟩
    have k1B := k1A.trans k11
    refine ⟨_, rfl, rl, dl, _, rfl, k1B _ _ hIl, rfl, rl, pl, rfl, Rl21.same k1B, fun K12 k12' => ⟨_, rfl, _, _, rfl, rfl, _, rfl, M4, qs.take 2, rfl, M21.sd (Sd.of (k1B.trans k12')), fun K13 k13' => ⟨_, _, rfl, rfl, rfl, ?_⟩⟩⟩
    have e9 : ((flat pl).length : Int) = (sz : Int) + 1 + ((flat (qs.take 2)).length : Int) := by rw [← hX]; omega
    have kF := (k1B.trans k12').trans k13'
    rw [decide_eq_true (congrArg V.int e9)]
    exact k _ K13 (b21.trans (But.of kF)) (T21.same kF) (by omega)
end
end K23
namespace K23
open PySem PySem.Spec PyProof.Rows L2 RwM Rw EV TryN LamX
abbrev sWid : Stmt := top 50
abbrev qWid : Str := (envOfC "_law_widest_right" (defScope sWid) 0 0 .none).qual ++ "<lambda>"
/-- the scope of the comprehension in the def's second row -/
def scOf2 (s : Stmt) : Scope := match defBody s with
  | _ :: .Assign _ (.ListComp _ _ sc _) _ :: _ => sc
  | _ => defScope s
theorem part_at2 {CR CO r : Addr} {g : List Int → Nat → List Int} {ps : PS} {l : List Int} {H : Hp} {Q : VK} {E : XK} {m : Nat} {i : Int} (hR : RowV CR H r ps) (e : flat ps = l) (hl : ps.length ≤ 9000) (ei : i = (m : Int)) (hm : m ≤ l.length)
    (q : ∀ (r2 : Addr) (ps2 : PS) (H' : Hp), Same H H' → H r2 = none → RowV CR H' r2 ps2 → ps2.length ≤ ps.length + 1 → flat ps2 = g l m → Q (.ref r2) H') : spPart CR CO g [.ref r, .int i] H Q E := by
  subst ei
  exact part_at hR e hl hm q
def GoodW (ps : PS) : Prop := ∀ q ∈ ps, q.1.length = 40 ∧ Low q.1 ∧ q.2 = 10 ^ 300
theorem len_wide {M : Nat} : ∀ ps : PS, (∀ q ∈ ps, q.1.length = 40 ∧ q.2 = (M : Int)) → (flat ps).length = ps.length * (40 * M)
  | [], _ => by
    rw [List.length_nil, Nat.zero_mul]
    rfl
  | q :: ps, h => by
    rw [flat_cons, List.length_append, rep_length, len_wide ps fun x hx => h x (List.mem_cons_of_mem _ hx), (h q (List.mem_cons_self ..)).1, (h q (List.mem_cons_self ..)).2, List.length_cons, Nat.add_mul ps.length 1, Nat.one_mul, Int.toNat_natCast, Nat.mul_comm M 40]
    omega
theorem ten300N : ∃ M : Nat, (10 : Int) ^ 300 = (M : Int) ∧ 1 ≤ M ∧ (1000 : Int) * (M : Int) < 10 ^ 400 := ⟨10 ^ 300, by decide +kernel, by decide +kernel, by decide +kernel⟩
def spWid (T : List (Addr × Str)) : Sp := fun vs H Q _ => ∃ (p l : Addr) (ns : List Int) (n : Nat), vs = [.ref p] ∧ Tabs T H ∧ TapeAt H p l ns n ∧ n ≤ 100000 ∧
  ∀ (n' : Nat) (H' : Hp), Sd H H' → TapeAt H' p l ns n' → n' ≤ n + 1000 → Tabs T H' → Q (.bl true) H'
section
variable {P : Program} {w : World} {K : PySem.W.Frag} {mg : Str → Option Value} {base : Heap}
abbrev nmWid : List Str := ["_law_tape", "_law_peak", "_law_stretches", "_law_row", "_law_size", "_law_edge", "_law_index", "_law_cut", "_law_head", "_law_end", "_law_k", "_law_n"]
theorem scWid : FnScope nmWid ["_law_tape"] (defScope sWid) := ⟨rfl, rfl, rfl, by decide +kernel, rfl, by decide +kernel, by decide +kernel⟩
theorem ok_wid {f fT fG fN fD fR fU g c Pt CO CT CR CU CB : Addr} {fd fdT fdG fdN fdD fdR fdU fdg : FuncData} {ff : Nat → Addr} {fdd : Nat → FuncData} {T : List (Addr × Str)} (F : FunC K "_law_widest_right" sWid f fd c) (zR : mg "range" = none) (zT : mg "tuple" = none)
    (GT : FnOk P w K mg base CX0 1 fT fdT ["_law_figures"] spTen) (AT : At K mg "_law_ten" fT fdT ["_law_figures"]) (GG : FnOk P w K mg base CX0 3 fG fdG ["_law_tape", "_law_cap"] spGreat) (AG : At K mg "_law_great" fG fdG ["_law_tape", "_law_cap"])
    (GN : FnOk P w K mg base CX0 1 fN fdN ["_law_stretches", "_law_index"] spNumber) (AN : At K mg "_law_number" fN fdN ["_law_stretches", "_law_index"]) (GD : FnOk P w K mg base CX0 1 fD fdD ["_law_tape", "_law_limit"] spDraw)
    (AD : At K mg "_law_draw" fD fdD ["_law_tape", "_law_limit"]) (RA : RaiAll P w K mg base CO CT g fdg) (RM : MkR P w K mg base (10 ^ 300) CR CU CB fR fU fdR fdU) (RK : RowKit P w K mg base CR CO CT ff fdd)
    (TB : TabB base mg c Pt) (hm : (Pt, qWid) ∈ T) (hu : ∀ p ∈ T, p.1 = Pt → p.2 = qWid) : FnOk P w K mg base CX0 11 f fd ["_law_tape"] (spWid T) := by
  obtain ⟨Fr, Ar, R⟩ := RA
  refine F.okF scWid (fun vs H Q E h => ?_) (fun A outer s H vs Q E hr h => ?_)
  · obtain ⟨p, l, ns, n, rfl, _⟩ := h
    rfl
  · obtain ⟨p, l, ns, n, rfl, hTb, hT, hn, k⟩ := h
    have nd := scWid.nd
    have hr1 := hr.mono (show 1 ≤ 10 by decide)
    have hr2 := hr.mono (show 2 ≤ 10 by decide)
    have hr3 := hr.mono (show 3 ≤ 10 by decide)
    have hr4 := hr.mono (show 4 ≤ 10 by decide)
    have hr7 := hr.mono (show 7 ≤ 10 by decide)
    have hr8 := hr.mono (show 8 ≤ 10 by decide)
    have hrR := hr
    have hu64 := hu64_of hr
    have bt : bootBuiltins "tuple" = some (.type "tuple") := by decide +kernel
    refine ⟨_, (pss_cons (ps_set (i := 1) nd rfl (Or.inr rfl) (pe_call GT hr1 rfl AT.mg AT.kp AT.bd .nil pass0 (pa_cons pe_int pa_nil)))
(pss_cons (ps_setLc (i := 2) (own := [("_law_k", 10)]) (g := gName 10) (tt := tYes) rfl nd rfl rfl (sw_true rfl rfl rfl (by decide +kernel)) (pi_range1 rfl zR (pa_cons pe_int pa_nil)) (blkOk_by (N := nmWid) (sc := defScope sWid) (by decide +kernel)) (fun _ _ _ _ _ => pg_name (i := 10) nd rfl (Or.inl rfl)) (fun _ _ _ _ _ => pts_nil) (fun _ _ _ _ _ => (pe_tup (pa_cons (pe_callTy (r := rTupO K) call_tupO (by rfl) zT bt (pa_cons (pe_lc (own := [("_law_n", 11)]) (g := gName 11) (tt := tYes) rfl nd (pi_range1 rfl zR (pa_cons pe_int pa_nil)) (blkOk_by (N := nmWid) (sc := relS (scOf2 sWid) (defScope sWid)) (by decide +kernel)) (fun _ _ _ _ _ => pg_name (i := 11) nd rfl (Or.inl rfl)) (fun _ _ _ _ _ => pts_nil) (fun _ _ _ _ _ => (pe_call GD hr1 rfl AD.mg AD.kp AD.bd .nil pass0 (pa_cons (pv 0) (pa_cons pe_int pa_nil))))) pa_nil)) (pa_cons (pv 1) pa_nil)))))
(pss_cons (ps_asg (pe_tup (pa_cons (pe_make (E := E0) RM.mR RM.oR hr7 rfl RM.gR RM.bR .nil passN (pa_cons (pv 2) pa_nil)) (pa_cons (pe_op op_mul pe_int (pv 1)) (pa_cons (pe_op op_mul (pe_op op_mul pe_int (pv 1)) (pe_op op_add pe_int (pe_call GD hr1 rfl AD.mg AD.kp AD.bd .nil pass0 (pa_cons (pv 0) (pa_cons pe_int pa_nil))))) pa_nil)))) (pg_tup rfl (pgs_cons (pg_name (i := 3) nd rfl (Or.inr rfl)) (pgs_cons (pg_name (i := 4) nd rfl (Or.inr rfl)) (pgs_cons (pg_name (i := 5) nd rfl (Or.inl rfl)) pgs_nil)))))
(pss_cons (ps_if (PW.pt (pw_or (pt_cmpR op_ne (pe_meth0 (pv 3) RK.cR RK.total.at' RK.total.ok hr2 RK.total.bd .nil pass0) (pv 4) (nomark _)) (pw_or1 (pt_cmpR (op_neD hu64) (pe_raised Fr Ar R rfl TB rfl hm hu hrR (show LamS (defScope sWid) _ from lamS_by (by decide +kernel)) rfl (fun _ _ _ _ _ => rfl) (fun A2 outer2 s2 H2 E2 f2 c2 hr2L => (pe_meth (E := E2) (pv 3) RK.cR RK.bud.at' RK.bud.ok (hr2L.mono (by decide)) RK.bud.bd .nil (passX (takes_of rfl rfl rfl rfl)) (pa_cons (pv 4) pa_nil)))) (pe_tup (pa_cons pe_str (pa_cons (pv 4) pa_nil))) (nomark _)))))
(pss_one (ps_ret pe_bl))
pss_nil)
(pss_cons (ps_for PassesOwn.never rfl (pi_list (pe_lst (pa_cons pe_int (pa_cons (pe_op op_sub (pv 5) pe_int) (pa_cons (pv 5) (pa_cons (pe_op op_sub (pv 4) pe_int) (pa_cons (pe_call GG hr3 rfl AG.mg AG.kp AG.bd .nil pass0 (pa_cons (pv 0) (pa_cons (pe_op op_sub (pv 4) pe_int) pa_nil))) (pa_cons (pe_call GD hr1 rfl AD.mg AD.kp AD.bd .nil pass0 (pa_cons (pv 0) (pa_cons (pv 4) pa_nil))) pa_nil)))))))) (pg_name (i := 6) nd rfl (Or.inl rfl))
(pss_one (ps_if (pt_cmpR op_ne (pe_meth (pv 3) RK.cR RK.bud.at' RK.bud.ok hr3 RK.bud.bd .nil passN (pa_cons (pv 6) pa_nil)) (pe_call GN hr1 rfl AN.mg AN.kp AN.bd .nil pass0 (pa_cons (pv 2) (pa_cons (pv 6) pa_nil))) (nomark _))
(pss_one (ps_ret pe_bl))
pss_nil)))
(pss_cons (ps_for PassesOwn.never rfl (pi_list (pe_lst (pa_cons (pv 5) (pa_cons (pe_call GD hr1 rfl AD.mg AD.kp AD.bd .nil pass0 (pa_cons (pv 0) (pa_cons (pv 4) pa_nil))) pa_nil)))) (pg_name (i := 7) nd rfl (Or.inl rfl))
(pss_cons (ps_par rfl nd (i := 8) (j := 9) rfl rfl (by decide) rfl rfl (pa_cons (pe_meth (pv 3) RK.cR RK.beginning.at' RK.beginning.ok hr8 RK.beginning.bd .nil passN (pa_cons (pv 7) pa_nil)) (pa_cons (pe_meth (pv 3) RK.cR RK.behind.at' RK.behind.ok hr8 RK.behind.bd .nil passN (pa_cons (pv 7) pa_nil)) pa_nil)) (by rfl))
(pss_cons (ps_if (pt_cmpR (op_neD hu64) (pe_lst (pa_cons (pe_meth0 (pv 8) RK.cR RK.total.at' RK.total.ok hr2 RK.total.bd .nil pass0) (pa_cons (pe_meth0 (pv 9) RK.cR RK.total.at' RK.total.ok hr2 RK.total.bd .nil pass0) (pa_cons (pe_meth (pv 3) RK.cR RK.common.at' RK.common.ok hr4 RK.common.bd .nil pass0 (pa_cons (pv 8) pa_nil)) pa_nil)))) (pe_lst (pa_cons (pv 7) (pa_cons (pe_op op_sub (pv 4) (pv 7)) (pa_cons (pv 7) pa_nil)))) (nomark _))
(pss_one (ps_ret pe_bl))
pss_nil)
(pss_cons (ps_if (pt_not (pt_cmpR (op_eqO RK.op RK.eq hr4 RK.eqB pass0) (pe_op (op_adO RK.op RK.add hr8 RK.addB passN) (pv 8) (pv 9)) (pv 3) (nomark _)))
(pss_one (ps_ret pe_bl))
pss_nil)
(pss_one (ps_if (PW.pt (pw_or (pt_cmpR op_ne (pe_meth (pv 9) RK.cR RK.bud.at' RK.bud.ok hr3 RK.bud.bd .nil passN (pa_cons pe_int pa_nil)) (pe_call GN hr1 rfl AN.mg AN.kp AN.bd .nil pass0 (pa_cons (pv 2) (pa_cons (pv 7) pa_nil))) (nomark _)) (pw_or1 (pt_not (pt_val (pe_meth (pv 8) RK.cR RK.before.at' RK.before.ok hr4 RK.before.bd .nil pass0 (pa_cons (pv 3) pa_nil)))))))
(pss_one (ps_ret pe_bl))
pss_nil))))))
(pss_one (ps_ret (pe_and (pe_cmpR (op_eqO RK.op RK.eq hr4 RK.eqB pass0) (pv 3) (pe_make (E := E0) RM.mR RM.oR hr7 rfl RM.gR RM.bR .nil passN (pa_cons (pv 2) pa_nil)) (nomark _)) (pe_one (pe_not (pe_cmpR (op_eqO RK.op RK.eq hr4 RK.eqB pass0) (pv 3) (pe_meth (pv 3) RK.cR RK.beginning.at' RK.beginning.ok hr8 RK.beginning.bd .nil passN (pa_cons (pe_op op_sub (pv 4) pe_int) pa_nil)) (nomark _))))))))))))), ?_⟩
    refine ⟨300, rfl, ten300, ?_⟩
    refine gN ?_
    rw [cap300]
    dsimp only [List.set]
    refine ⟨20, rfl, by decide, by decide, fun D hD => ?_⟩
    have pD := hT.ne hD
    have lD := hT.neL hD
    refine lc_it walk_range (fun i H2 => But p H H2 ∧ ∃ us ps m, TapeAt H2 p l ns m ∧ m ≤ n + 40 * i ∧ H2 D = some (.lst us) ∧ Prs H2 us ps ∧ ps.length = i ∧ GoodW ps) ?_ (fun _ _ _ _ => trivial) ?_ ?_
    · exact ⟨But.of (sameNew hD), [], [], n, hT.same (sameNew hD), by omega, upd_same, .nil, rfl, fun q hq => absurd hq (by simp)⟩
    · rintro i x G G1 hi ⟨bG, us, ps, m, TG, hm, hDG, hP, hlen, hW⟩ ⟨rfl, rfl⟩
      have hi20 : i < 20 := hi
      refine ⟨rfl, 40, rfl, by decide, by decide, fun D2 hD2 => ?_⟩
      have pD2 := TG.ne hD2
      have lD2 := TG.neL hD2
      have DD2 : D ≠ D2 := ne_of_none hDG hD2
      refine lc_it walk_range (fun j H3 => But p G1 H3 ∧ ∃ (zs : List Int) (m2 : Nat), TapeAt H3 p l ns m2 ∧ m2 ≤ m + j ∧ H3 D2 = some (.lst (zs.map V.int)) ∧ zs.length = j ∧ Low zs) ?_ (fun _ _ _ _ => trivial) ?_ ?_
      · exact ⟨But.of (sameNew hD2), [], m, TG.same (sameNew hD2), by omega, upd_same, rfl, fun z hz => absurd hz (by simp)⟩
      · rintro j x G2 G3 hj ⟨bI, zs, m2, TI, hm2, hI, hl2, hz⟩ ⟨rfl, rfl⟩
        have hj40 : j < 40 := hj
        refine ⟨rfl, _, rfl, p, l, ns, m2, 4, rfl, TI, by omega, by decide, by decide +kernel, fun y G4 b4 T4 y0 y9 => ?_⟩
        refine ⟨_, b4 _ _ (Ne.symm pD2) hI, by rw [List.length_map, sizeLine_eq]; omega, But.updN (bI.trans b4) hD2, zs ++ [y], m2 + 1, T4.upd pD2 lD2, by omega, ?_, by rw [List.length_append, hl2]; rfl, fun q hq => ?_⟩
        · rw [upd_same, List.map_append]; rfl
        · rcases List.mem_append.mp hq with h | h
          · exact hz q h
          · rw [List.mem_singleton.mp h]; omega
      · rintro G2 ⟨bI, zs, m2, TI, hm2, hI, hl2, hz⟩
        dsimp only [tNil]
        refine tupO (.inl hI) fun t G3 sT ht => ?_
        refine ⟨_, rfl, ?_⟩
        refine ⟨szL (Nat.le_of_ble_eq_true rfl), fun Pq hTz => ?_⟩
        generalize hGz : upd _ Pq _ = G4
        have s4 := same_new hTz hGz
        have kP := new_at hGz
        clear hGz hTz
        have s34 := sT.trans s4
        have bA : But p G1 G4 := bI.trans (But.of s34)
        obtain ⟨kv2, ekv2⟩ := TG.pt
        have P4 := Prs.tape hP ekv2 bA
        have hD4 := bA _ _ (Ne.symm pD) hDG
        have bF : But D G4 (upd G4 D (.lst (us ++ [.ref Pq]))) := fun c o nc e => by rw [upd_ne nc]; exact e
        have lul : us.length = ps.length := Paired.length P4
        have PP : PairAt G4 (.ref Pq) (zs, 10 ^ 300) := ⟨Pq, t, rfl, kP, s4 _ _ ht⟩
        refine ⟨us, hD4, by rw [lul, hlen, sizeLine_eq]; omega, ?_, us ++ [.ref Pq], ps ++ [(zs, 10 ^ 300)], m2, (TI.same s34).upd pD lD, by omega, upd_same, Prs.but (Prs.snoc P4 PP) hD4 bF, by rw [List.length_append, hlen]; rfl, fun y hy => ?_⟩
        · intro c o nc e
          have ncD : c ≠ D := ne_of_none e hD
          rw [upd_ne ncD]
          exact bA c o nc (bG c o nc e)
        · rcases List.mem_append.mp hy with h | h
          · exact hW y h
          · rw [List.mem_singleton.mp h]
            exact ⟨hl2, hz, rfl⟩
    · rintro G ⟨bG, us, ps, m, TG, hm, hDG, hP, hlen, hW⟩
      refine gN ?_
      dsimp only [List.set]
      replace hlen : ps.length = 20 := hlen
      replace hm : m ≤ n + 800 := hm
      obtain ⟨M, hM, M1, M9⟩ := ten300N
      have b20 : ∀ x ∈ ps, (1 ≤ x.1.length ∧ x.1.length ≤ 40) ∧ Low x.1 ∧ 0 ≤ x.2 ∧ x.2 ≤ 10 ^ 300 := fun x hx => by
        obtain ⟨g1, g2, g3⟩ := hW x hx
        exact ⟨⟨by omega, by omega⟩, g2, by rw [g3, hM]; omega, by rw [g3]; exact Int.le_refl _⟩
      have hlw := len_wide (M := M) ps fun q hq => ⟨(hW q hq).1, (hW q hq).2.2.trans hM⟩
      rw [hlen] at hlw
      obtain ⟨sz, hsz⟩ : ∃ sz : Nat, sz = (flat ps).length := ⟨_, rfl⟩
      have hszM : sz = 800 * M := by omega
      refine ⟨_, rfl, ?_⟩
      dsimp only [tNil]
      refine mk_rowL hDG (stat_of hP b20) (by omega) fun r G1 s1 n1 R1 => ?_
      have T1 := TG.same s1
      refine ⟨_, rfl, _, _, rfl, rfl, .inl ⟨by omega, by omega⟩, _, rfl, _, _, rfl, rfl, .inl ⟨by omega, by omega⟩, _, rfl, p, l, ns, m, 19, rfl, T1, by omega, by decide, by decide +kernel, fun d G2 b2 T2 d0 d9 => ⟨_, _, rfl, rfl, _, _, rfl, rfl, .inr ⟨by omega, by omega⟩, ?_⟩⟩
      refine ⟨szL (Nat.le_of_ble_eq_true rfl), fun A3 hTz => ?_⟩
      generalize hGz : upd _ A3 _ = G3
      have s3 := same_new hTz hGz
      have kA3 := new_at hGz
      clear hGz hTz
      rw [hM] at kA3
      obtain ⟨kd, rfl⟩ : ∃ kd : Nat, d = (kd : Int) := ⟨_, (Int.toNat_of_nonneg d0).symm⟩
      obtain ⟨ed, hed⟩ : ∃ ed : Nat, ed = 40 * M * (1 + kd) := ⟨_, rfl⟩
      have hed2 : (40 : Int) * (M : Int) * (1 + (kd : Int)) = (ed : Int) := by
        rw [hed, Int.natCast_mul, Int.natCast_mul, Int.natCast_add]
        rfl
      have ed9 : ed ≤ 40 * M * 19 := by
        rw [hed]
        exact Nat.mul_le_mul_left _ (by omega)
      have ed1 : 40 * M * 1 ≤ ed := by
        rw [hed]
        exact Nat.mul_le_mul_left _ (by omega)
      have esz : (800 : Int) * (M : Int) = (sz : Int) := by omega
      replace kA3 : G3 A3 = some (.tup [.ref r, .int (800 * (M : Int)), .int (40 * (M : Int) * (1 + (kd : Int)))]) := kA3
      rw [hed2, esz] at kA3
      refine ⟨A3, _, rfl, SqT.of kA3, rfl, _, _, rfl, _, _, rfl, _, _, rfl, rfl, ?_⟩
      have st : (((((List.set (L2.start nmWid [V.ref p]) 1 (some (V.int (10 ^ 300)))).set 2 (some (V.ref D))).set 3 (some (.ref r))).set 4 (some (.int (sz : Int)))).set 5 (some (.int (ed : Int)))) = [some (.ref p), some (.int (10 ^ 300)), some (.ref D), some (.ref r), some (.int (sz : Int)), some (.int (ed : Int)), none, none, none, none, none, none] := rfl
      rw [st]
      have R3 := (R1.but T1 b2).same s3
      have T3 := T2.same s3
      obtain ⟨kvH, ekvH⟩ := hT.pt
      obtain ⟨kv1, ekv1⟩ := T1.pt
      have tb3 : Tabs T G3 := (tabs_tape ((tabs_tape hTb ekvH bG).ext s1) ekv1 b2).ext s3
      have g13 : Sd G G3 := (Sd.of s1).trans ((Sd.tape T1 b2).trans (Sd.of s3))
      have gH3 : Sd H G3 := (Sd.tape hT bG).trans g13
      have MA : RowAt G D ps := ⟨⟨us, .inl hDG, hP⟩, by omega, fun q hq => (b20 q hq).2.2.1, fun q hq => ⟨(b20 q hq).1.1, by have := (b20 q hq).1.2; omega⟩⟩
      have M3 : RowAt G3 D ps := MA.sd g13
      obtain ⟨dr, tr, hIr⟩ := R3.ins
      have nnp : ∀ q ∈ ps, 0 ≤ q.2 := fun q hq => (b20 q hq).2.2.1
      refine ⟨_, rfl, r, dr, _, rfl, hIr, rfl, r, ps, rfl, R3, fun K4 k4 => ⟨_, rfl, rfl, _, rfl, ite2 (fun z => absurd z (by rw [← hsz]; simp)) (fun _ => ?_)⟩⟩
      refine lam_o (i := 3) rfl (fun H Q q => ⟨_, rfl, q⟩) (tb3.ext k4) (R3.same k4) (fun _ => rfl) (fun J E2 Q2 RJ he => ⟨r, ps, _, none, rfl, RJ, .int _, fun _ => he, fun m2 x e hy => ?_⟩) fun T5 M5 xM tbM kM => ?_
      · exfalso
        have z := (List.getElem?_eq_some_iff.mp hy).1
        injection e with e
        omega
      refine ⟨_, rfl, ?_⟩
      refine ⟨szL (Nat.le_of_ble_eq_true rfl), fun A5 hTz => ?_⟩
      generalize hGz : upd _ A5 _ = G5
      have s5 := same_new hTz hGz
      have kA5 := new_at hGz
      clear hGz hTz
      refine ⟨_, _, .tup (SqT.of (s5 _ _ kM)) (.cons (.str _) (.cons (.int _) .nil)), .tup (SqT.of kA5) (.cons (.str _) (.cons (.int _) .nil)), shaped_2 _ _, shaped_2 _ _, _, rfl, ?_⟩
      rw [eqv_2]
      refine ite2 (fun z => absurd z (by decide)) (fun _ => ?_)
      refine nxt ?_
      dsimp only
      have x5 := xM.same s5
      have g5 : Sd G3 G5 := (Sd.of k4).trans x5.sd
      have T5' : TapeAt G5 p l ns (m + 1) := (T3.same k4).xs x5
      have tb5 : Tabs T G5 := tbM.ext s5
      have R5 := R3.sd g5
      have M5' := M3.sd g5
      have sz1 : (sz : Int) - 1 = ((sz - 1 : Nat) : Int) := by omega
      have ez1 : (ed : Int) - 1 = ((ed - 1 : Nat) : Int) := by omega
      refine ⟨_, rfl, _, _, rfl, rfl, _, rfl, _, rfl, _, _, rfl, rfl, _, rfl, _, rfl, _, _, rfl, rfl, p, l, ns, m + 1, _, rfl, T5', by omega, (by show 0 ≤ (sz : Int) - 1; omega), (by show (sz : Int) - 1 < 10 ^ 400; omega), fun gr n6 G6 b6 T6 hn6 gr0 gr9 => ?_⟩
      refine ⟨_, rfl, _, rfl, p, l, ns, n6, _, rfl, T6, by omega, by omega, by omega, fun dy G7 b7 T7 dy0 dy9 => ?_⟩
      refine ⟨szL (Nat.le_of_ble_eq_true rfl), fun L8 hTz => ?_⟩
      generalize hGz : upd _ L8 _ = G8
      have s8 := same_new hTz hGz
      have kL8 := new_at hGz
      clear hGz hTz
      have T8 := T7.same s8
      have b58 : But p G5 G8 := (b6.trans b7).trans (But.of s8)
      obtain ⟨kv5, ekv5⟩ := T5'.pt
      have tb8 : Tabs T G8 := (tabs_tape tb5 ekv5 (b6.trans b7)).ext s8
      have g8 : Sd G5 G8 := Sd.tape T5' b58
      have R8 := R5.sd g8
      have M8 := M5'.sd g8
      refine ⟨L8, rfl, ⟨_, SqL.of kL8⟩, for_it (walk_list (xs := [.int 0, .int ((ed : Int) - 1), .int (ed : Int), .int ((sz : Int) - 1), .int gr, .int dy]))
        (fun i σ G => ∃ (x6 x7 x8 x9 x10 x11 : Option V), σ = [some (.ref p), some (.int (10 ^ 300)), some (.ref D), some (.ref r), some (.int (sz : Int)), some (.int (ed : Int)), x6, x7, x8, x9, x10, x11] ∧ Same G8 G)
        ⟨none, none, none, none, none, none, rfl, .refl _⟩ ?_ ?_ ?_⟩
      · rintro i σ G hi ⟨x6, x7, x8, x9, x10, x11, rfl, sG⟩
        exact SqL.of (sG _ _ kL8)
      · rintro i y σ G G' hi ⟨x6, x7, x8, x9, x10, x11, rfl, sG⟩ ⟨rfl, hy⟩
        obtain ⟨c, rfl, hc⟩ : ∃ c : Nat, y = .int (c : Int) ∧ c < sz := by
          match i, hy with
          | 0, hy => exact ⟨0, (Option.some.inj hy).symm, by omega⟩
          | 1, hy => exact ⟨ed - 1, (Option.some.inj hy).symm.trans (congrArg V.int ez1), by omega⟩
          | 2, hy => exact ⟨ed, (Option.some.inj hy).symm, by omega⟩
          | 3, hy => exact ⟨sz - 1, (Option.some.inj hy).symm.trans (congrArg V.int sz1), by omega⟩
          | 4, hy =>
            obtain ⟨k4, rfl⟩ : ∃ k4 : Nat, gr = (k4 : Int) := ⟨_, (Int.toNat_of_nonneg gr0).symm⟩
            exact ⟨k4, (Option.some.inj hy).symm, by omega⟩
          | 5, hy =>
            obtain ⟨k5, rfl⟩ : ∃ k5 : Nat, dy = (k5 : Int) := ⟨_, (Int.toNat_of_nonneg dy0).symm⟩
            exact ⟨k5, (Option.some.inj hy).symm, by omega⟩
        have hcl : c < (flat ps).length := by omega
        have hx : (flat ps)[c]? = some (flat ps)[c] := List.getElem?_eq_getElem hcl
        generalize (flat ps)[c] = y at hx
        have hv := numV_at nnp hx
        have R9 := R8.same sG
        obtain ⟨d9, t9, hI9⟩ := R9.ins
        refine ⟨_, rfl, r, d9, _, rfl, hI9, rfl, _, rfl, ?_⟩
        dsimp only [tNil, List.append_nil]
        refine bud_at R9 rfl hx fun K1 k1 => ?_
        refine ⟨_, rfl, _, rfl, D, ps, _, rfl, (M8.sd (Sd.of (sG.trans k1))), fun K2 k2 => ?_⟩
        rw [hv]
        refine ⟨rfl, _, rfl, ite2 (fun z => absurd z (by simp)) (fun _ => ?_)⟩
        exact ⟨_, _, _, _, _, _, rfl, sG.trans (k1.trans k2)⟩
      · rintro σ G9 ⟨x6, x7, x8, x9, x10, x11, rfl, s9⟩
        dsimp only
        have T9 := T8.same s9
        refine ⟨_, rfl, _, rfl, _, rfl, p, l, ns, n6 + 1, _, rfl, T9, by omega, by omega, by omega, fun cy G10 b10 T10 cy0 cy9 => ?_⟩
        refine ⟨szL (Nat.le_of_ble_eq_true rfl), fun L11 hTz => ?_⟩
        generalize hGz : upd _ L11 _ = G11
        have s11 := same_new hTz hGz
        have kL11 := new_at hGz
        clear hGz hTz
        obtain ⟨kv9, ekv9⟩ := T9.pt
        have g811 : Sd G8 G11 := (Sd.of s9).trans ((Sd.tape T9 b10).trans (Sd.of s11))
        have R11 := R8.sd g811
        have M11 := M8.sd g811
        have tb11 : Tabs T G11 := (tabs_tape (tb8.ext s9) ekv9 b10).ext s11
        have T11 : TapeAt G11 p l ns (n6 + 2) := T10.same s11
        have gH11 : Sd H G11 := ((gH3.trans g5).trans g8).trans g811
        obtain ⟨cn, rfl⟩ : ∃ cn : Nat, cy = (cn : Int) := ⟨_, (Int.toNat_of_nonneg cy0).symm⟩
        refine ⟨L11, rfl, ⟨_, SqL.of kL11⟩, for_it (walk_list (xs := [.int (ed : Int), .int (cn : Int)]))
          (fun i σ G => ∃ (x6 x7 x8 x9 x10 x11 : Option V), σ = [some (.ref p), some (.int (10 ^ 300)), some (.ref D), some (.ref r), some (.int (sz : Int)), some (.int (ed : Int)), x6, x7, x8, x9, x10, x11] ∧ Same G11 G)
          ⟨x6, x7, x8, x9, x10, x11, rfl, .refl _⟩ ?_ ?_ ?_⟩
        · rintro i σ G hi ⟨x6, x7, x8, x9, x10, x11, rfl, sG⟩
          exact SqL.of (sG _ _ kL11)
        · rintro i y σ G G' hi ⟨x6, x7, x8, x9, x10, x11, rfl, sG⟩ ⟨rfl, hy⟩
          obtain ⟨c, rfl, hc⟩ : ∃ c : Nat, y = .int (c : Int) ∧ c < sz := by
            match i, hy with
            | 0, hy => exact ⟨ed, (Option.some.inj hy).symm, by omega⟩
            | 1, hy => exact ⟨cn, (Option.some.inj hy).symm, by omega⟩
          have hcl : c < (flat ps).length := by omega
          have hc' : c ≤ (flat ps).length := by omega
          have hx : (flat ps)[c]? = some (flat ps)[c] := List.getElem?_eq_getElem hcl
          generalize (flat ps)[c] = y at hx
          have hv := numV_at nnp hx
          have R := R11.same sG
          obtain ⟨dz, tz, hIr⟩ := R.ins
          refine ⟨_, rfl, r, dz, _, rfl, hIr, rfl, _, rfl, ?_⟩
          dsimp only [tNil, List.append_nil]
          refine part_at R rfl (by omega) hc' fun ra pa K1 k1 n1 Ra la fa => ?_
          refine ⟨_, rfl, r, dz, _, rfl, k1 _ _ hIr, rfl, _, rfl, ?_⟩
          dsimp only [tNil, List.append_nil]
          refine part_at (R.same k1) rfl (by omega) hc' fun rb pb K2 k2 n2 Rb lb fb => ?_
          refine ⟨_, _, rfl, ?_⟩
          dsimp only [List.set]
          replace Ra := Ra.same k2
          obtain ⟨da, ta, hIa⟩ := Ra.ins
          obtain ⟨db, tb, hIb⟩ := Rb.ins
          have la' : (flat pa).length = c := by rw [fa, List.length_take]; omega
          have lb' : (flat pb).length = sz - c := by rw [fb, List.length_drop]; omega
          have k12 := k1.trans k2
          refine ⟨_, rfl, ra, da, _, rfl, hIa, rfl, ra, pa, rfl, Ra, fun K3 k3 => ⟨_, rfl, rb, db, _, rfl, k3 _ _ hIb, rfl, rb, pb, rfl, Rb.same k3, fun K4 k4 => ?_⟩⟩
          have k34 := k3.trans k4
          have R4 := R.same (k12.trans k34)
          refine ⟨_, rfl, r, dz, _, rfl, (k12.trans k34) _ _ hIr, rfl, _, rfl, r, ps, .ref ra, _, _, rfl, R4, .row (Ra.same k34), fun K5 k5 => ?_⟩
          refine ⟨szL (Nat.le_of_ble_eq_true rfl), fun A6 hTz => ?_⟩
          generalize hGz : upd _ A6 _ = K6
          have k6 := same_new hTz hGz
          have kA6 := new_at hGz
          clear hGz hTz
          refine ⟨_, rfl, _, rfl, _, rfl, _, _, rfl, rfl, _, rfl, ?_⟩
          refine ⟨szL (Nat.le_of_ble_eq_true rfl), fun A7 hTz => ?_⟩
          generalize hGz : upd _ A7 _ = K7
          have k7 := same_new hTz hGz
          have kA7 := new_at hGz
          clear hGz hTz
          have e0 : ([((flat pa).length : Int), ((flat pb).length : Int), ((cp (flat ps) (flat pa) : Nat) : Int)] : List Int) = [(c : Int), (sz : Int) - (c : Int), (c : Int)] := by
            have e1 : ((flat pa).length : Int) = (c : Int) := by omega
            have e2 : ((flat pb).length : Int) = (sz : Int) - (c : Int) := by omega
            have e3 : cp (flat ps) (flat pa) = c := by rw [fa]; exact cp_take2 hc'
            rw [e1, e2, e3]
          refine neL (xs := [((flat pa).length : Int), ((flat pb).length : Int), ((cp (flat ps) (flat pa) : Nat) : Int)]) (ys := [(c : Int), (sz : Int) - (c : Int), (c : Int)]) (k7 _ _ kA6) kA7 ⟨_, rfl, ?_⟩
          rw [decide_eq_true e0]
          refine ite2 (fun z => absurd z (by decide)) (fun _ => ?_)
          refine nxt ?_
          dsimp only
          have k37 := (k34.trans k5).trans (k6.trans k7)
          have k17 := k12.trans k37
          have Ra7 := Ra.same k37
          have Rb7 := Rb.same k37
          have hj : flat pa ++ flat pb = flat ps := by rw [fa, fb, List.take_append_drop]
          refine ⟨_, rfl, _, rfl, Ra7.insL, .inl Rb7.insL, ra, pa, .ref rb, _, _, rfl, Ra7, .row Rb7, by omega, fun r9 p9 K8 k8 n8 R9 l9 f9 => ?_⟩
          have R8' := R.same (k17.trans k8)
          refine ⟨_, rfl, R9.insL, .inl R8'.insL, r9, p9, .ref r, rfl, R9, .inl ⟨r, ps, rfl, R8', fun K9 k9 => ⟨_, rfl, ?_⟩⟩⟩
          rw [decide_eq_true (f9.trans hj)]
          refine ite2 (fun z => absurd z (by decide)) (fun _ => ?_)
          refine nxt ?_
          dsimp only
          have k79 := k8.trans k9
          have k19 := k17.trans k79
          have Rb9 := Rb7.same k79
          refine ⟨_, rfl, rb, db, _, rfl, (k37.trans k79) _ _ hIb, rfl, ?_⟩
          dsimp only [tNil, tCons, tC, List.append_nil]
          refine bud_at2 (m := 0) Rb9 fb rfl (by rw [drop_at]; exact hx) fun KA kA => ?_
          refine ⟨_, rfl, _, rfl, D, ps, _, rfl, (M11.sd (Sd.of (sG.trans (k19.trans kA)))), fun KB kB => ?_⟩
          rw [hv]
          refine ⟨rfl, _, rfl, ite2 (fun z => absurd z (by simp)) (fun _ => ?_)⟩
          have kAB := kA.trans kB
          have k1B := k19.trans kAB
          refine ⟨_, rfl, ra, da, _, rfl, ((k37.trans k79).trans kAB) _ _ hIa, rfl, _, rfl, ra, pa, .ref r, _, _, rfl, (Ra7.same k79).same kAB, .row (R.same k1B), fun KC kC => ⟨_, rfl, ?_⟩⟩
          rw [fa, lt_take hc', decide_eq_true hcl]
          refine ite2 (fun z => absurd z (by decide)) (fun _ => ?_)
          exact ⟨_, _, _, _, _, _, rfl, sG.trans (k1B.trans kC)⟩
        · rintro σ GE ⟨x6, x7, x8, x9, x10, x11, rfl, sE⟩
          have RE := R11.same sE
          obtain ⟨dz, tz, hIr⟩ := RE.ins
          have hPE : Prs GE us ps := Prs.sd hP ((g13.trans g5).trans (g8.trans (g811.trans (Sd.of sE))))
          have hDE : GE D = some (.lst us) := ((g13.trans g5).trans (g8.trans (g811.trans (Sd.of sE)))).lst hDG
          refine ⟨_, rfl, _, rfl, ?_⟩
          dsimp only [tNil]
          refine mk_rowL hDE (stat_of hPE b20) (by omega) fun r5 K1 k1 n1 Q5 => ?_
          have RE1 := RE.same k1
          refine ⟨RE1.insL, .inl Q5.insL, r, ps, .ref r5, rfl, RE1, .inl ⟨r5, ps, rfl, Q5, fun K2 k2 => ⟨_, rfl, ?_⟩⟩⟩
          rw [decide_eq_true rfl]
          refine ite2 (fun _ => ?_) (fun z => absurd rfl z)
          have k12 := k1.trans k2
          refine ⟨_, rfl, _, rfl, r, dz, _, rfl, k12 _ _ hIr, rfl, _, rfl, _, _, rfl, rfl, ?_⟩
          dsimp only [tNil, List.append_nil]
          refine part_at2 (RE.same k12) rfl (by omega) sz1 (by omega) fun r6 p6 K3 k3 n3 R6 l6 f6 => ?_
          have RE3 := (RE.same k12).same k3
          have hdf : flat ps ≠ flat p6 := fun z => by
            have z2 := congrArg List.length z
            rw [f6, List.length_take] at z2
            omega
          refine ⟨RE3.insL, .inl R6.insL, r, ps, .ref r6, rfl, RE3, .inl ⟨r6, p6, rfl, R6, fun K4 k4 => ⟨_, rfl, ?_⟩⟩⟩
          rw [decide_eq_false hdf]
          have kE := (sE.trans k12).trans (k3.trans k4)
          exact k _ K4 (gH11.trans (Sd.of kE)) (T11.same kE) (by omega) (tb11.ext kE)
end
end K23
namespace K23
open PySem PySem.Spec PyProof.Rows L2 RwM Rw EV TryN LamX
abbrev sLaw : Stmt := top 51
def spLaw (K : PySem.W.Frag) (T : List (Addr × Str)) : Sp := fun vs H Q _ => ∃ (a : Addr) (ns : List Int), vs = [.ref a] ∧ SqL K H a (ns.map V.int) ∧ ns.length ≤ 63 ∧ Tabs T H ∧ ∀ H', Q (.bl true) H'
theorem len_good {M : Nat} : ∀ ps : PS, (∀ q ∈ ps, q.1.length ≤ 4 ∧ q.2 ≤ (M : Int)) → (flat ps).length ≤ ps.length * (4 * M)
  | [], _ => Nat.zero_le _
  | q :: ps, h => by
    have ih := len_good ps fun x hx => h x (List.mem_cons_of_mem _ hx)
    obtain ⟨h1, h2⟩ := h q (List.mem_cons_self ..)
    rw [flat_cons, List.length_append, rep_length, List.length_cons, Nat.add_mul ps.length 1, Nat.one_mul]
    have h3 : q.2.toNat * q.1.length ≤ M * 4 := Nat.mul_le_mul (by omega) h1
    omega
theorem ten300L : ∃ M : Nat, (10 : Int) ^ 300 = (M : Int) ∧ (100 : Int) * (M : Int) < 10 ^ 305 := ⟨10 ^ 300, by decide +kernel, by decide +kernel⟩
section
variable {P : Program} {w : World} {K : PySem.W.Frag} {mg : Str → Option Value} {base : Heap}
abbrev nmLaw : List Str := ["_law_script", "_law_tape", "_law_turn", "_law_stretches", "_law_row", "_law_other", "_law_joined"]
theorem scLaw : FnScope nmLaw ["_law_script"] (defScope sLaw) := ⟨rfl, rfl, rfl, by decide +kernel, rfl, by decide +kernel, by decide +kernel⟩
theorem ok_law {f fBg fS fO fSa fC fP fW fR fU CR CU CB CO CT : Addr} {fd fdBg fdS fdO fdSa fdC fdP fdW fdR fdU : FuncData} {ff : Nat → Addr} {fdd : Nat → FuncData} {T : List (Addr × Str)} (F : Fun K "law" "law" sLaw f fd) (zR : mg "range" = none)
    (GBg : FnOk P w K mg base CX0 1 fBg fdBg ["_law_script"] (spBegin K)) (ABg : At K mg "_law_begin" fBg fdBg ["_law_script"]) (GS : FnOk P w K mg base CX0 4 fS fdS ["_law_tape"] spStrips) (AS : At K mg "_law_strips" fS fdS ["_law_tape"])
    (GO : FnOk P w K mg base CX0 4 fO fdO ["_law_tape", "_law_stretches"] spOth) (AO : At K mg "_law_otherwise" fO fdO ["_law_tape", "_law_stretches"])
    (GSa : FnOk P w K mg base CX0 11 fSa fdSa ["_law_tape", "_law_stretches", "_law_row", "_law_other"] (spSame T CR)) (ASa : At K mg "_law_same_right" fSa fdSa ["_law_tape", "_law_stretches", "_law_row", "_law_other"])
    (GC : FnOk P w K mg base CX0 11 fC fdC ["_law_tape", "_law_stretches", "_law_row", "_law_other"] (spCutR CR)) (AC : At K mg "_law_cut_right" fC fdC ["_law_tape", "_law_stretches", "_law_row", "_law_other"])
    (GP : FnOk P w K mg base CX0 11 fP fdP ["_law_tape", "_law_stretches", "_law_row", "_law_other"] (spParted CR)) (AP : At K mg "_law_parted_right" fP fdP ["_law_tape", "_law_stretches", "_law_row", "_law_other"])
    (GW : FnOk P w K mg base CX0 11 fW fdW ["_law_tape"] (spWid T)) (AW : At K mg "_law_widest_right" fW fdW ["_law_tape"])
    (RM : MkR P w K mg base (10 ^ 300) CR CU CB fR fU fdR fdU) (RK : RowKit P w K mg base CR CO CT ff fdd) : FnOk P w K mg base CX0 12 f fd ["_law_script"] (spLaw K T) := by
  refine F.ok scLaw (fun vs H Q E h => ?_) (fun cdv A outer s H vs Q E hr h => ?_)
  · obtain ⟨a, ns, rfl, _⟩ := h
    rfl
  · obtain ⟨a, ns, rfl, hS, hns, hTb, k⟩ := h
    have nd := scLaw.nd
    have hr1 := hr.mono (show 1 ≤ 11 by decide)
    have hr2 := hr.mono (show 2 ≤ 11 by decide)
    have hr4 := hr.mono (show 4 ≤ 11 by decide)
    have hr7 := hr.mono (show 7 ≤ 11 by decide)
    have hr8 := hr.mono (show 8 ≤ 11 by decide)
    have hu64 := hu64_of hr
    refine ⟨_, (pss_cons (ps_set (i := 1) nd rfl (Or.inl rfl) (pe_call GBg hr1 rfl ABg.mg ABg.kp ABg.bd .nil pass0 (pa_cons (pv 0) pa_nil)))
(pss_cons (ps_if (pt_not (pt_val (pe_call GW hr rfl AW.mg AW.kp AW.bd .nil pass0 (pa_cons (pv 1) pa_nil))))
(pss_one (ps_ret pe_bl))
pss_nil)
(pss_cons (ps_for PassesOwn.never rfl (pi_range1 rfl zR (pa_cons pe_int pa_nil)) (pg_name (i := 2) nd rfl (Or.inl rfl))
(pss_cons (ps_set (i := 3) nd rfl (Or.inl rfl) (pe_call GS hr4 rfl AS.mg AS.kp AS.bd .nil pass0 (pa_cons (pv 1) pa_nil)))
(pss_cons (ps_par rfl nd (i := 4) (j := 5) rfl rfl (by decide) rfl rfl (pa_cons (pe_make (E := E0) RM.mR RM.oR hr7 rfl RM.gR RM.bR .nil passN (pa_cons (pv 3) pa_nil)) (pa_cons (pe_make (E := E0) RM.mR RM.oR hr7 rfl RM.gR RM.bR .nil passN (pa_cons (pe_call GO hr4 rfl AO.mg AO.kp AO.bd .nil pass0 (pa_cons (pv 1) (pa_cons (pv 3) pa_nil))) pa_nil)) pa_nil)) (by rfl))
(pss_cons (ps_if (PW.pt (pw_or (pt_not (pt_val (pe_call GSa hr rfl ASa.mg ASa.kp ASa.bd .nil pass0 (pa_cons (pv 1) (pa_cons (pv 3) (pa_cons (pv 4) (pa_cons (pv 5) pa_nil))))))) (pw_or1 (pt_not (pt_val (pe_call GC hr rfl AC.mg AC.kp AC.bd .nil pass0 (pa_cons (pv 1) (pa_cons (pv 3) (pa_cons (pv 4) (pa_cons (pv 5) pa_nil))))))))))
(pss_one (ps_ret pe_bl))
pss_nil)
(pss_cons (ps_if (PW.pt (pw_or (pt_not (pt_val (pe_call GP hr rfl AP.mg AP.kp AP.bd .nil pass0 (pa_cons (pv 1) (pa_cons (pv 3) (pa_cons (pv 4) (pa_cons (pv 5) pa_nil))))))) (pw_or1 (pt_not (pt_val (pe_call GP hr rfl AP.mg AP.kp AP.bd .nil pass0 (pa_cons (pv 1) (pa_cons (pv 3) (pa_cons (pv 5) (pa_cons (pv 4) pa_nil))))))))))
(pss_one (ps_ret pe_bl))
pss_nil)
(pss_cons (ps_set (i := 6) nd rfl (Or.inl rfl) (pe_op (op_adO RK.op RK.add hr8 RK.addB passN) (pv 4) (pv 5)))
(pss_one (ps_if (PW.pt (pw_or (pt_cmpR op_ne (pe_meth0 (pv 6) RK.cR RK.total.at' RK.total.ok hr2 RK.total.bd .nil pass0) (pe_op op_mul pe_int (pe_meth0 (pv 4) RK.cR RK.total.at' RK.total.ok hr2 RK.total.bd .nil pass0)) (nomark _)) (pw_or (pt_cmpR op_ne (pe_meth (pv 6) RK.cR RK.common.at' RK.common.ok hr4 RK.common.bd .nil pass0 (pa_cons (pv 4) pa_nil)) (pe_meth0 (pv 4) RK.cR RK.total.at' RK.total.ok hr2 RK.total.bd .nil pass0) (nomark _)) (pw_or1 (pt_not (pt_cmpR (op_eqO RK.op RK.eq hr4 RK.eqB pass0) (pe_meth (pv 6) RK.cR RK.behind.at' RK.behind.ok hr8 RK.behind.bd .nil passN (pa_cons (pe_meth0 (pv 4) RK.cR RK.total.at' RK.total.ok hr2 RK.total.bd .nil pass0) pa_nil)) (pv 4) (nomark _)))))))
(pss_one (ps_ret pe_bl))
pss_nil))))))))
(pss_one (ps_ret pe_bl))))), ?_⟩
    refine ⟨_, rfl, a, ns, rfl, hS, hns, fun p l H1 s1 np nl npl T1 => ?_⟩
    refine gN ?_
    dsimp only
    refine ⟨_, rfl, p, l, _, 0, rfl, hTb.ext s1, T1, by omega, fun n2 G2 d2 T2 hn2 tb2 => ⟨_, rfl, ite2 (fun z => absurd z (by decide)) (fun _ => ?_)⟩⟩
    refine nxt ?_
    dsimp only
    have st : List.set (L2.start nmLaw [V.ref a]) 1 (some (V.ref p)) = [some (.ref a), some (.ref p), none, none, none, none, none] := rfl
    rw [st]
    refine ⟨2, rfl, by decide, by decide, for_it walk_range
      (fun i σ G => ∃ (x2 x3 x4 x5 x6 : Option V) (m : Nat), σ = [some (.ref a), some (.ref p), x2, x3, x4, x5, x6] ∧ TapeAt G p l (cells ns) m ∧ m ≤ 5000 + 5000 * i ∧ Tabs T G)
      ⟨none, none, none, none, none, n2, rfl, T2, by omega, tb2⟩ (fun _ _ _ _ _ => trivial) ?_ ?_⟩
    · rintro i y σ G G' hi ⟨x2, x3, x4, x5, x6, m, rfl, TG, hm, tbG⟩ ⟨rfl, rfl⟩
      have hi2 : i < 2 := hi
      obtain ⟨M, hM, M9⟩ := ten300L
      obtain ⟨kvg, ekvg⟩ := TG.pt
      refine ⟨_, rfl, p, l, _, m, rfl, TG, by omega, fun h ws ps n1 G1 b1 nh T1 hn1 hh hP hl1 hl4 hW => ?_⟩
      refine gN ?_
      dsimp only [List.set]
      have tb1 : Tabs T G1 := tabs_tape tbG ekvg b1
      have gS : ∀ x ∈ ps, (1 ≤ x.1.length ∧ x.1.length ≤ 40) ∧ Low x.1 ∧ 0 ≤ x.2 ∧ x.2 ≤ 10 ^ 300 := fun x hx => by
        obtain ⟨g1, g2, g3, g4, g5⟩ := hW x hx
        exact ⟨⟨g1, by omega⟩, g3, g4, g5⟩
      have hlen := len_good (M := M) ps fun q hq => ⟨(hW q hq).2.1, by rw [← hM]; exact (hW q hq).2.2.2.2⟩
      have hl16 : ps.length * (4 * M) ≤ 4 * (4 * M) := Nat.mul_le_mul_right _ hl4
      have big : (((flat ps).length : Nat) : Int) < 10 ^ 305 := by omega
      refine ⟨_, rfl, ?_⟩
      dsimp only [tNil]
      refine mk_rowL hh (stat_of hP gS) (by omega) fun r G3 s3 n3 R3 => ?_
      have T3 := T1.same s3
      refine ⟨_, rfl, _, rfl, p, l, h, _, n1, ws, ps, rfl, T3, by omega, s3 _ _ hh, Prs.same hP s3, hl4, hW, fun ho us qs n4 G4 b4 no T4 hn4 hus hQ hq12 hO hfl => ?_⟩
      dsimp only [tNil]
      have gO : ∀ x ∈ qs, (1 ≤ x.1.length ∧ x.1.length ≤ 40) ∧ Low x.1 ∧ 0 ≤ x.2 ∧ x.2 ≤ 10 ^ 300 := fun x hx => by
        obtain ⟨g1, g2, g3, g4, g5⟩ := hO x hx
        exact ⟨⟨g1, by omega⟩, g3, g4, g5⟩
      refine mk_rowL hus (stat_of hQ gO) (by omega) fun o G5 s5 n5 R5 => ?_
      refine ⟨_, _, rfl, ?_⟩
      dsimp only [List.set]
      have T5 := T4.same s5
      obtain ⟨kv3, ekv3⟩ := T3.pt
      have tb5 : Tabs T G5 := (tabs_tape (tb1.ext s3) ekv3 b4).ext s5
      have g15 : Sd G1 G5 := (Sd.of s3).trans ((Sd.tape T3 b4).trans (Sd.of s5))
      have A1 : RowAt G1 h ps := ⟨⟨ws, .inl hh, hP⟩, by omega, fun q hq => (gS q hq).2.2.1, fun q hq => ⟨(gS q hq).1.1, by have := (gS q hq).1.2; omega⟩⟩
      have W5 : Two CR G5 h r o ps ps qs := ⟨A1.sd g15, (R3.but T3 b4).same s5, R5, rfl, hfl, by omega, by omega, big⟩
      refine ⟨_, rfl, _, rfl, _, rfl, _, rfl, p, l, h, r, o, _, n4, ps, ps, qs, rfl, tb5, T5, by omega, W5, fun n6 G6 d6 T6 hn6 tb6 => ⟨_, rfl, ite2 (fun z => absurd z (by decide)) (fun _ => ?_)⟩⟩
      have W6 := W5.sd d6
      refine ⟨_, rfl, _, rfl, _, rfl, _, rfl, p, l, h, r, o, _, n6, ps, ps, qs, rfl, T6, by omega, W6, fun n7 G7 b7 T7 hn7 => ⟨_, rfl, ite2 (fun z => absurd z (by decide)) (fun _ => ?_)⟩⟩
      refine nxt ?_
      dsimp only
      have W7 := W6.but T6 b7
      obtain ⟨kv6, ekv6⟩ := T6.pt
      have tb7 : Tabs T G7 := tabs_tape tb6 ekv6 b7
      refine ⟨_, rfl, _, rfl, _, rfl, _, rfl, p, l, h, r, o, _, n7, ps, ps, qs, rfl, T7, by omega, W7, fun n8 G8 b8 T8 hn8 => ⟨_, rfl, ite2 (fun z => absurd z (by decide)) (fun _ => ?_)⟩⟩
      have W8 := W7.but T7 b8
      obtain ⟨kv7, ekv7⟩ := T7.pt
      have tb8 : Tabs T G8 := tabs_tape tb7 ekv7 b8
      refine ⟨_, rfl, _, rfl, _, rfl, _, rfl, p, l, h, o, r, _, n8, ps, qs, ps, rfl, T8, by omega, W8.flip, fun n9 G9 b9 T9 hn9 => ⟨_, rfl, ite2 (fun z => absurd z (by decide)) (fun _ => ?_)⟩⟩
      refine nxt ?_
      dsimp only
      have W9 := W8.but T8 b9
      obtain ⟨kv8, ekv8⟩ := T8.pt
      have tb9 : Tabs T G9 := tabs_tape tb8 ekv8 b9
      refine ⟨_, rfl, _, rfl, W9.r.insL, .inl W9.o.insL, r, ps, .ref o, _, _, rfl, W9.r, .row W9.o, by omega, fun j pj GA sA nA RA lA fA => ?_⟩
      refine gN ?_
      dsimp only [List.set]
      have WA := W9.sd (Sd.of sA)
      obtain ⟨dj, tj, hIj⟩ := RA.ins
      obtain ⟨dr, tr, hIr⟩ := WA.r.ins
      have hj : flat pj = flat ps ++ flat ps := by rw [fA, W9.eo]
      have lj : (flat pj).length = 2 * (flat ps).length := by rw [hj, List.length_append]; omega
      refine ⟨_, rfl, j, dj, _, rfl, hIj, rfl, j, pj, rfl, RA, fun K1 k1 => ⟨_, rfl, r, dr, _, rfl, k1 _ _ hIr, rfl, r, ps, rfl, WA.r.same k1, fun K2 k2 => ⟨_, _, rfl, rfl, .inl ⟨by omega, by omega⟩, rfl, _, rfl, ite2 (fun z => absurd z ?_) (fun _ => ?_)⟩⟩⟩
      · have e : ((flat pj).length : Int) = 2 * ((flat ps).length : Int) := by omega
        simp [e]
      have k12 := k1.trans k2
      refine ⟨_, rfl, j, dj, _, rfl, k12 _ _ hIj, rfl, _, rfl, j, pj, .ref r, _, _, rfl, RA.same k12, .row (WA.r.same k12), fun K3 k3 => ⟨_, rfl, r, dr, _, rfl, (k12.trans k3) _ _ hIr, rfl, r, ps, rfl, WA.r.same (k12.trans k3), fun K4 k4 => ⟨rfl, _, rfl, ite2 (fun z => absurd z (by rw [hj, cp_pre2]; simp)) (fun _ => ?_)⟩⟩⟩
      have k14 := (k12.trans k3).trans k4
      refine ⟨_, rfl, j, dj, _, rfl, k14 _ _ hIj, rfl, _, rfl, r, dr, _, rfl, k14 _ _ hIr, rfl, r, ps, rfl, WA.r.same k14, fun K5 k5 => ?_⟩
      dsimp only [tNil, List.append_nil]
      refine part_at (RA.same (k14.trans k5)) hj (by omega) (m := (flat ps).length) (by rw [List.length_append]; omega) fun e pe K6 k6 n6 Re le fe => ?_
      have k16 := (k14.trans k5).trans k6
      have WE := WA.sd (Sd.of k16)
      refine ⟨_, rfl, Re.insL, .inl WE.r.insL, e, pe, .ref r, rfl, Re, .inl ⟨r, ps, rfl, WE.r, fun K7 k7 => ⟨_, rfl, ?_⟩⟩⟩
      have hfe : flat pe = flat ps := by
        rw [fe]
        exact List.drop_left ..
      rw [decide_eq_true hfe]
      refine ite2 (fun z => absurd z (by decide)) (fun _ => ?_)
      have kF := sA.trans (k16.trans k7)
      exact ⟨_, _, _, _, _, n9, rfl, T9.same kF, by omega, tb9.ext kF⟩
    · rintro σ G ⟨x2, x3, x4, x5, x6, m, rfl, TG, hm, tbG⟩
      exact k G
end
end K23
namespace K23
open PySem PySem.Spec PyProof.Rows L2 RwM Rw EV LamX
abbrev emptyTab : Obj := { cls := .none, data := .fields #[] }
/-- the law's tracked heap at its call: the empty tables of cs, and the script where the written part does not say it -/
noncomputable def startHp (cs : List (Addr × Addr)) (sc : Option (Addr × HO)) : Hp := fun b =>
  if ∃ p ∈ cs, p.2 = b then some (.tbl #[]) else match sc with
    | some (a, u) => if b = a then some u else none
    | none => none
theorem startHp_tab {cs : List (Addr × Addr)} {sc : Option (Addr × HO)} {p : Addr × Addr} (h : p ∈ cs) : startHp cs sc p.2 = some (.tbl #[]) := if_pos ⟨p, h, rfl⟩
theorem startHp_sc {cs : List (Addr × Addr)} {a : Addr} {u : HO} (h : ¬ ∃ p ∈ cs, p.2 = a) : startHp cs (some (a, u)) a = some u := (if_neg h).trans (if_pos rfl)
theorem startHp_cases {cs : List (Addr × Addr)} {sc : Option (Addr × HO)} {b : Addr} {u : HO} (h : startHp cs sc b = some u) : (∃ p ∈ cs, p.2 = b ∧ u = .tbl #[]) ∨ ((¬ ∃ p ∈ cs, p.2 = b) ∧ sc = some (b, u)) := by
  unfold startHp at h
  split at h
  · rename_i z
    obtain ⟨p, hp, e⟩ := z
    cases h
    exact .inl ⟨p, hp, e, rfl⟩
  · rename_i z
    refine .inr ⟨z, ?_⟩
    split at h
    · split at h
      · rename_i e
        cases h
        rw [e]
      · cases h
    · cases h
/-- a law whose def is run where nothing is being shown -/
theorem law_callG {P : Program} {w : World} {K : PySem.W.Frag} {mg mb : Str → Option Value} {k : Nat} {fa a : Addr} {cs : List (Addr × Addr)} {fd : FuncData} {x : Str} {sp : Sp} {s₁ : Shared} {us : List Value} {ns : List Int}
    (KX : K.In s₁.heap) (hmod : s₁.heap.Ns mainGlobals mg ∧ s₁.heap.Ns builtinsNs mb ∧ (∀ x : Str, x ≠ "__name__" → mb x = bootBuiltins x) ∧ s₁.heap.NoLimit) (hg : s₁.gens = #[])
    (tabs : ∀ p ∈ cs, s₁.heap.get? p.2 = some emptyTab ∧ K.lookup p.2 = none ∧ PySem.W.CodeHd s₁.heap p.1 p.2)
    (hbm : ∃ (bm : Addr) (ob : Obj), mg "__builtins__" = some (.ref bm) ∧ bm ≠ builtinsNs ∧ s₁.heap.get? bm = some ob ∧ ob.cls = .type "module" ∧ ob.dict = some builtinsNs ∧ ob.data = .plain)
    (ha : s₁.heap.get? a = some { cls := .type "list", data := .seq us.toArray }) (hi : IntsAre us ns) (hl : ns.length ≤ sizeLine) (hr : Room k callerA)
    (F : ∀ base : Heap, K.In base → base.Ns mainGlobals mg → (∀ p ∈ cs, TabB base mg p.1 p.2) → FnOk P w K mg base CX0 k fa fd [x] sp) (bd : ∀ (s : Shared) (u : Value), BindsTo s fd ⟨[u], []⟩ [(x, u)])
    (hsp : ∀ H : Hp, (∀ p ∈ cs, H p.2 = some (.tbl #[])) → SqL K H a (ns.map V.int) → sp [.ref a] H (fun v _ => v = .bl true) fun _ _ _ => False) :
    codeAny (model P w) callerA (.call (.ref fa) ⟨[.ref a], []⟩) (fun r s' => r = .ok (.ret (.bool true)) ∧ OldK s₁.heap s'.heap ∧ s'.os = s₁.os ∧ AllBare s'.gens) s₁ := by
  obtain ⟨m1, m2, m3, m4⟩ := hmod
  have rv := vals_ints hi
  have lenV := hi.length
  have aT : ¬ ∃ p ∈ cs, p.2 = a := by
    rintro ⟨p, hp, rfl⟩
    have q := (tabs p hp).1
    rw [ha] at q
    exact absurd (congrArg (fun o : Option Obj => o.map (·.data)) q) (by simp)
  -- the script's own entry
  obtain ⟨sc, hsc, hS⟩ : ∃ sc : Option (Addr × HO), (sc = none ∨ (sc = some (a, .frz { cls := .type "list", data := .seq us.toArray } (.lst (ns.map V.int))) ∧ K.lookup a = none)) ∧ SqL K (startHp cs sc) a (ns.map V.int) := by
    cases hk : K.lookup a with
    | none => exact ⟨_, .inr ⟨rfl, rfl⟩, .inl (.inr ⟨_, startHp_sc aT⟩)⟩
    | some o =>
      have e := KX a o hk
      rw [ha] at e
      cases e
      exact ⟨none, .inl rfl, .inr ⟨_, us.toArray, _, hk, rfl, rfl, rfl, by rw [List.size_toArray, lenV]; exact hl, by simpa using rv⟩⟩
  have one : ∀ {b : Addr} {u : HO}, startHp cs sc b = some u → (∃ p ∈ cs, p.2 = b ∧ u = .tbl #[]) ∨ (b = a ∧ u = .frz { cls := .type "list", data := .seq us.toArray } (.lst (ns.map V.int)) ∧ K.lookup b = none) := by
    intro b u h
    rcases startHp_cases h with z | ⟨_, z⟩
    · exact .inl z
    · rcases hsc with e | ⟨e, hk⟩
      · rw [e] at z; cases z
      · rw [e] at z
        cases z
        exact .inr ⟨rfl, rfl, hk⟩
  have obj : ∀ {b : Addr} {u : HO}, startHp cs sc b = some u → (s₁.heap.get? b = some emptyTab ∨ s₁.heap.get? b = some { cls := .type "list", data := .seq us.toArray }) ∧ K.lookup b = none := by
    intro b u h
    rcases one h with ⟨p, hp, rfl, _⟩ | ⟨rfl, _, hk⟩
    · exact ⟨.inl (tabs p hp).1, (tabs p hp).2.1⟩
    · exact ⟨.inr ha, hk⟩
  generalize hH : startHp cs sc = H at hS one obj
  have tb : ∀ p ∈ cs, H p.2 = some (.tbl #[]) := fun p hp => by rw [← hH]; exact startHp_tab hp
  have hok : HOk P w H s₁.heap := by
    intro b u h
    rcases one h with ⟨p, hp, rfl, rfl⟩ | ⟨rfl, rfl, _⟩
    · exact (tabs p hp).1
    · exact ⟨ha, by rw [List.length_map]; exact hl, us, _, rv, ha⟩
  have stay : ∀ {b : Addr} {o : Obj}, s₁.heap.get? b = some o → o ≠ emptyTab → o ≠ { cls := .type "list", data := .seq us.toArray } → (hidT s₁.heap H).get? b = some o := by
    intro b o e n1 n2
    refine hidT_get e ?_
    cases q : H b with
    | none => rfl
    | some u =>
      rcases (obj q).1 with z | z
      · rw [e] at z; exact absurd (Option.some.inj z) n1
      · rw [e] at z; exact absurd (Option.some.inj z) n2
  have spaces : ∀ {b : Addr} {m : Str → Option Value}, s₁.heap.Ns b m → (hidT s₁.heap H).Ns b m := by
    rintro b m ⟨o, es, ep, e, d, r⟩
    exact ⟨o, es, ep, stay e (fun z => by rw [z] at d; cases d) (fun z => by rw [z] at d; cases d), d, r⟩
  have KB : K.In (hidT s₁.heap H) := by
    intro b o e
    refine hidT_get (KX b o e) ?_
    cases q : H b with
    | none => rfl
    | some u =>
      have z := (obj q).2
      rw [e] at z
      cases z
  have MB : L2.Mod K mg (hidT s₁.heap H) := ⟨KB, spaces m1, ⟨mb, spaces m2, m3⟩, by
    obtain ⟨mc, h1, h2⟩ := m4
    exact ⟨mc, spaces h1, h2⟩⟩
  have gne : ∀ p ∈ cs, mainGlobals ≠ p.2 := by
    intro p hp z
    obtain ⟨o, es, ep, e, d, _⟩ := m1
    rw [z, (tabs p hp).1] at e
    cases e
    cases d
  have TB : ∀ p ∈ cs, TabB (hidT s₁.heap H) mg p.1 p.2 := by
    intro p hp
    refine ⟨?_, ?_, gne p hp⟩
    · obtain ⟨o, vs, file, tf, fl, tg, iF, tx, tt, e1, r1, r2, r3, r⟩ := (tabs p hp).2.2
      refine ⟨o, vs, file, tf, fl, tg, iF, tx, tt, stay e1 (fun z => ?_) (fun z => ?_), r1, r2, r3, r⟩
      · rw [z] at r2; cases r2; simp at r3
      · rw [z] at r2; cases r2
    · obtain ⟨bm, ob, b1, b2, b3, b4, b5, b6⟩ := hbm
      have c1 : ob ≠ emptyTab := fun z => by rw [z] at b6; cases b6
      refine ⟨bm, ob, b1, b2, fun z => ?_, fun z => ?_, stay b3 c1 (fun z => by rw [z] at b6; cases b6), b4, b5, b6⟩
      · obtain ⟨o, es, ep, e, d, _⟩ := m1
        rw [z, e] at b3
        cases b3
        rw [d] at b6
        cases b6
      · rw [z, (tabs p hp).1] at b3
        exact c1 (Option.some.inj b3).symm
  have E0' : Env0 P w K mg (hidT s₁.heap H) callerA [] s₁ H := ⟨rfl, MB, fun b o e => of_hidT e, Nat.le_of_eq (hidT_size _ _), trivial, fun b hb => (nomatch hb), hok, .of_eq hg⟩
  refine codeAny_mono ((F _ KB (spaces m1) TB).run callerA [] s₁ H ⟨[.ref a], []⟩ [.ref a] [.ref a] _ _ hr E0' (bd s₁ (.ref a)) (.cons rfl .nil) (hsp H tb hS)) fun r s' h => ?_
  match r, h with
  | .error e, h => exact (show False from h).elim
  | .ok .next, h => exact False.elim h
  | .ok .brk, h => exact False.elim h
  | .ok .cont, h => exact False.elim h
  | .ok (.ret u), h =>
    obtain ⟨v, H', os, bare, un, hok', r', q⟩ := h
    obtain rfl : v = .bl true := q
    obtain rfl : u = Value.bool true := r'
    have grown : ∀ p ∈ cs, ∃ more : Array Value, s'.heap.get? p.2 = some { cls := .none, data := .fields more } := by
      intro p hp
      obtain ⟨more, z⟩ := un.tbls p.2 #[] (tb p hp)
      exact ⟨_, hok' p.2 _ z⟩
    have same : ∀ b o, (¬ ∃ p ∈ cs, p.2 = b) → s₁.heap.get? b = some o → s'.heap.get? b = some o := by
      intro b o nb e
      cases q : H b with
      | none => exact un.keep b o e q (fun z => nomatch z) (fun z => nomatch z)
      | some u =>
        rcases one q with ⟨p, hp, z, _⟩ | ⟨rfl, rfl, _⟩
        · exact absurd ⟨p, hp, z⟩ nb
        · have z := hok' b _ (un.frzs b _ _ q)
          rw [ha] at e
          cases e
          exact z.1
    refine ⟨rfl, ⟨fun b o e => ?_, fun b o e => ?_⟩, os, bare⟩
    · by_cases hb : ∃ p ∈ cs, p.2 = b
      · obtain ⟨p, hp, rfl⟩ := hb
        obtain ⟨more, hm⟩ := grown p hp
        have ht := (tabs p hp).1
        rw [ht] at e
        cases e
        exact .inr (.inl ⟨((tabs p hp).2.2.tab ht).isCodeTable, rfl, #[], more, rfl, by rw [Array.empty_append]; exact hm⟩)
      · exact .inl (same b o hb e)
    · by_cases hb : ∃ p ∈ cs, p.2 = b
      · obtain ⟨p, hp, rfl⟩ := hb
        obtain ⟨more, hm⟩ := grown p hp
        exact ⟨_, hm⟩
      · exact ⟨o, same b o hb e⟩
/-- the end of the row -/
theorem walkG {l : PySem.W.OpenLaw} {n k : Nat} {q : Program} {loose : List Str} {XP : (Str → Option Value) → Heap → Prop} {YP : World → Heap → Prop} {d : DefRec} {K : Params → PySem.W.Frag} {x : Str}
    (hn : l.most = some n) (hn2 : n ≤ sizeLine) (hdf : d.params.defaults = []) (hr : Room k callerA) (hY : ∀ (w : World) (h : Heap), YP w h → (K w.params).In h)
    (F : ∀ (w : World) (mg : Str → Option Value) (fa : Addr) (h : Heap), YP w h → (K w.params).In h → h.Ns mainGlobals mg → mg d.name = some (.ref fa) →
      ∃ (fd : FuncData) (cs : List (Addr × Addr)) (sp : Sp), (∀ p ∈ cs, h.get? p.2 = some emptyTab ∧ (K w.params).lookup p.2 = none ∧ PySem.W.CodeHd h p.1 p.2) ∧ (∀ (s : Shared) (u : Value), BindsTo s fd ⟨[u], []⟩ [(x, u)]) ∧
        (∀ (H : Hp) (a : Addr) (ns : List Int), ns.length ≤ n → (∀ p ∈ cs, H p.2 = some (.tbl #[])) → SqL (K w.params) H a (ns.map V.int) → sp [.ref a] H (fun v _ => v = .bl true) fun _ _ _ => False) ∧
        ∀ base : Heap, (K w.params).In base → base.Ns mainGlobals mg → (∀ p ∈ cs, TabB base mg p.1 p.2) → FnOk l.prog w (K w.params) mg base CX0 k fa fd [x] sp) :
    PySem.W.WalkO q loose XP YP l.row.toRowW d [] (fun f vs => PySem.call f vs) := by
  refine Att.attach_callB hn hdf fun w s₀ s₁ mg mb fa o pm cd doc a vs ns G Y ho hd hcd hmg hobj hints hlen hbits hg => ?_
  have KX := hY w _ Y
  obtain ⟨fd, cs, sp, tabs, hb, hsp, hF⟩ := F w mg fa _ Y KX G.T.g hmg
  exact law_callG KX ⟨G.T.g, G.T.b, G.T.builtins, G.T.nolimit⟩ hg tabs G.T.bmain hobj hints (Nat.le_trans hlen hn2) hr hF hb fun H hH hS => hsp H a ns hlen hH hS
end K23
namespace K23
open PySem PySem.Spec PyProof.Rows L2 RwM Rw EV TryN LamX
/-- a plain def as the top leaves it: its function object, with its code -/
structure DefAt (K : PySem.W.Frag) (x qual : Str) (st : Stmt) (f : Addr) : Prop where
  fn : ∃ oc od kV doc pm an cd ct sl, K.lookup f = some ⟨oc, od, .func (PySem.W.fnOf x qual (defArgs st) (defBody st) (defScope st) .none kV doc pm an cd ct), sl⟩ ∧ PySem.W.codeIn K cd qual = true
  keep : PySem.W.keepIn K (.ref f) = true
theorem DefAt.mk' {K : PySem.W.Frag} {f : Addr} {x qual : Str} {st : Stmt} {oc : Value} {od : Option Addr} {kV doc pm : Value} {an : Option Addr} {cd ct : Value} {sl : Array (Option Value)}
    (l : K.lookup f = some ⟨oc, od, .func (PySem.W.fnOf x qual (defArgs st) (defBody st) (defScope st) .none kV doc pm an cd ct), sl⟩) (c : PySem.W.codeIn K cd qual = true) (k : PySem.W.keepIn K (.ref f) = true) : DefAt K x qual st f :=
  ⟨⟨oc, od, kV, doc, pm, an, cd, ct, sl, l, c⟩, k⟩
theorem DefAt.fun {K : PySem.W.Frag} {x qual : Str} {st : Stmt} {f : Addr} (d : DefAt K x qual st f) : ∃ fd, Fun K x qual st f fd := by
  obtain ⟨oc, od, kV, doc, pm, an, cd, ct, sl, l, c⟩ := d.fn
  exact ⟨_, fun_mk l c d.keep⟩
/-- one whose code object is named -/
structure CodeAt (K : PySem.W.Frag) (x : Str) (st : Stmt) (f c : Addr) : Prop where
  fn : ∃ oc od kV doc pm an ct sl, K.lookup f = some ⟨oc, od, .func (PySem.W.fnOf x x (defArgs st) (defBody st) (defScope st) .none kV doc pm an (.ref c) ct), sl⟩ ∧ PySem.W.codeIn K (.ref c) x = true
  keep : PySem.W.keepIn K (.ref f) = true
theorem CodeAt.mk' {K : PySem.W.Frag} {f c : Addr} {x : Str} {st : Stmt} {oc : Value} {od : Option Addr} {kV doc pm : Value} {an : Option Addr} {ct : Value} {sl : Array (Option Value)}
    (l : K.lookup f = some ⟨oc, od, .func (PySem.W.fnOf x x (defArgs st) (defBody st) (defScope st) .none kV doc pm an (.ref c) ct), sl⟩) (e : PySem.W.codeIn K (.ref c) x = true) (k : PySem.W.keepIn K (.ref f) = true) : CodeAt K x st f c :=
  ⟨⟨oc, od, kV, doc, pm, an, ct, sl, l, e⟩, k⟩
theorem CodeAt.fun {K : PySem.W.Frag} {x : Str} {st : Stmt} {f c : Addr} (d : CodeAt K x st f c) : ∃ fd, Fun K x x st f fd ∧ FunC K x st f fd c := by
  obtain ⟨oc, od, kV, doc, pm, an, ct, sl, l, e⟩ := d.fn
  exact ⟨_, fun_mk l e d.keep, ⟨oc, od, kV, doc, pm, an, ct, sl, rfl, l, e⟩⟩
/-- an exception class right below W with a one-field __init__ -/
structure ErrAt (K : PySem.W.Frag) (W : Addr) (x qual : Str) (st : Stmt) (fld : Str) (C f1 : Addr) : Prop where
  aC : PySem.W.nsIn K mainGlobals x = some (some (.ref C))
  obj : ∃ nm q N bs sn sub ab col dd k0 k1 k2 k3 k5, K.lookup C = some (excClassObj nm q C N bs [.ref W, .type "ValueError", .type "Exception", .type "BaseException", .type "object"] true sn sub ab col dd k0 k1 k2 k3 k5 "ValueError.__new__")
  sa : PySem.W.findIn K (.ref C) "__setattr__" = some (some (.builtin "object.__setattr__"))
  ga : PySem.W.findIn K (.ref C) "__getattribute__" = some (some (.builtin "BaseException.__getattribute__"))
  gg : PySem.W.findIn K (.ref C) "__getattr__" = some none
  no : PySem.W.findIn K (.ref C) fld = some none
  a1 : PySem.W.findIn K (.ref C) "__init__" = some (some (.ref f1))
  t1 : PySem.W.typeIn K (.ref f1) = some (.type "function")
  df : DefAt K "__init__" qual st f1
  kC : PySem.W.keepIn K (.ref C) = true
  eC : PySem.W.subIn K (.ref C) (.type "BaseException") = some true
  tC : PySem.W.typeIn K (.ref C) = some (.type "type")
  hC : PySem.W.hasDictIn K C = true
  cl : PySem.W.findIn K (.ref C) "__class__" = some (some (.builtin "object.__class__"))
  mo : PySem.W.mroIn K C (.type "object") = some true
theorem obj_mk {K : PySem.W.Frag} {W C : Addr} {nm q : Str} {N : Addr} {bs : List Value} {sn : List Str} {sub : List Value} {ab : Bool} {col : Option Bool} {dd : Option Addr} {k0 k1 k2 k3 k5 : Option Value}
    (h : K.lookup C = some (excClassObj nm q C N bs [.ref W, .type "ValueError", .type "Exception", .type "BaseException", .type "object"] true sn sub ab col dd k0 k1 k2 k3 k5 "ValueError.__new__")) :
    ∃ nm q N bs sn sub ab col dd k0 k1 k2 k3 k5, K.lookup C = some (excClassObj nm q C N bs [.ref W, .type "ValueError", .type "Exception", .type "BaseException", .type "object"] true sn sub ab col dd k0 k1 k2 k3 k5 "ValueError.__new__") :=
  ⟨nm, q, N, bs, sn, sub, ab, col, dd, k0, k1, k2, k3, k5, h⟩
theorem ErrAt.oex {K : PySem.W.Frag} {W : Addr} {x qual : Str} {st : Stmt} {fld : Str} {C f1 : Addr} (e : ErrAt K W x qual st fld C f1) : OexC K C := by
  obtain ⟨nm, q, N, bs, sn, sub, ab, col, dd, k0, k1, k2, k3, k5, h⟩ := e.obj
  exact ⟨⟨nm, q, N, bs, _, sn, sub, ab, col, dd, k0, k1, k2, k3, k5, h, rfl⟩, e.sa, e.eC, e.tC, e.kC⟩
theorem ErrAt.err {P : Program} {w : World} {K : PySem.W.Frag} {mg : Str → Option Value} {base h : Heap} {W : Addr} {x qual : Str} {st : Stmt} {fld : Str} {C f1 : Addr} (e : ErrAt K W x qual st fld C f1) (X : K.In h) (G : h.Ns mainGlobals mg)
    (ok : ∀ fd, Fun K "__init__" qual st f1 fd → OexC K C → PySem.W.findIn K (.ref C) fld = some none → FnOk P w K mg base CX0 1 f1 fd ["self", fld] (spSet C [fld]))
    (bd : ∀ (kV doc pm : Value) (an : Option Addr) (cdv ct : Value) (us ws : List Value), 0 < us.length → (us ++ ws).length = 2 →
      bindArgs (PySem.W.fnOf "__init__" qual (defArgs st) (defBody st) (defScope st) .none kV doc pm an cdv ct) ⟨us, ((["self", fld] : List Str).drop us.length).zip ws⟩ = pure ((["self", fld] : List Str).zip (us ++ ws))) : Err P w K mg base x C [fld] := by
  obtain ⟨oc, od, kV, doc, pm, an, cd, ct, sl, hl, hc⟩ := e.df.fn
  have F := fun_mk (st := st) hl hc e.df.keep
  exact ⟨e.oex, ⟨e.ga, e.gg, e.eC, e.hC⟩, PySem.W.mg_of X G e.aC, fun f hf => by rw [List.mem_singleton.mp hf]; exact e.no, ⟨f1, _, e.a1, e.t1, ok _ F e.oex e.no, fun s us ws h1 h2 => .of_eq (bd _ _ _ _ _ _ us ws h1 h2)⟩⟩
theorem ErrAt.exc {K : PySem.W.Frag} {W : Addr} {x qual : Str} {st : Stmt} {fld : Str} {C f1 : Addr} (e : ErrAt K W x qual st fld C f1) (hn : PySem.W.specialIn K (.builtin "object.__class__") "__get__" = some (some (.builtin "getset_descriptor.__get__"))) (ht : PySem.W.takesIn K (.builtin "object.__class__") = some true) : ExcC K C :=
  ⟨e.ga, e.gg, e.eC, e.hC, e.cl, hn, ht, e.mo⟩
theorem ErrAt.xf {K : PySem.W.Frag} {W : Addr} {x qual : Str} {st : Stmt} {fld : Str} {C f1 : Addr} (e : ErrAt K W x qual st fld C f1) : XfC K C := ⟨e.ga, e.gg, e.eC, e.hC⟩
/-- a class of the program -/
structure ClsLeft (K : PySem.W.Frag) (x : Str) (C fI : Addr) (fld : Str) : Prop where
  aC : PySem.W.nsIn K mainGlobals x = some (some (.ref C))
  pg : PySem.W.plainGet K C Str.empty = true
  hd : PySem.W.hasDictIn K C = true
  po : PySem.W.plainOver K C = true
  sa : PySem.W.findIn K (.ref C) "__setattr__" = some (some (.builtin "object.__setattr__"))
  cl : PySem.W.findIn K (.ref C) "__class__" = some (some (.builtin "object.__class__"))
  mo : PySem.W.mroIn K C (.type "object") = some true
  me : PySem.W.kitOne K (.ref C) (.ref C) = some true
  k1 : PySem.W.kitOne K (.type "NoneType") (.ref C) = some false
  k2 : PySem.W.kitOne K (.type "bool") (.ref C) = some false
  k3 : PySem.W.kitOne K (.type "int") (.ref C) = some false
  k4 : PySem.W.kitOne K (.type "str") (.ref C) = some false
  k5 : PySem.W.kitOne K (.type "dict") (.ref C) = some false
  k6 : PySem.W.kitOne K (.type "list") (.ref C) = some false
  k7 : PySem.W.kitOne K (.type "tuple") (.ref C) = some false
  mks : PySem.W.makesIn K C = true
  it : PySem.W.findIn K (.ref C) "__init__" = some (some (.ref fI))
  fn : PySem.W.isFn K (.ref fI) = true
  kp : PySem.W.keepIn K (.ref C) = true
  no : PySem.W.findIn K (.ref C) fld = some none
theorem ClsLeft.cls {K : PySem.W.Frag} {x : Str} {C fI : Addr} {fld : Str} (e : ClsLeft K x C fI fld) : Cls K C := ⟨e.pg, e.hd, e.po, e.sa⟩
theorem ClsLeft.own {K : PySem.W.Frag} {x : Str} {C fI : Addr} {fld : Str} (e : ClsLeft K x C fI fld) (hn : PySem.W.specialIn K (.builtin "object.__class__") "__get__" = some (some (.builtin "getset_descriptor.__get__"))) (ht : PySem.W.takesIn K (.builtin "object.__class__") = some true) : OwnC K C := by
  refine ⟨⟨e.cls, e.cl, hn, ht, e.mo, e.me⟩, fun T hT => ?_⟩
  simp only [List.mem_cons, List.not_mem_nil, or_false] at hT
  rcases hT with z | z | z | z | z | z | z <;> subst z
  · exact e.k1
  · exact e.k2
  · exact e.k3
  · exact e.k4
  · exact e.k5
  · exact e.k6
  · exact e.k7
theorem ClsLeft.make {K : PySem.W.Frag} {x : Str} {C fI : Addr} {fld : Str} (e : ClsLeft K x C fI fld) : Mk K C fI := ⟨e.mks, e.it, e.fn, e.kp⟩
/-- a method -/
structure MethAt (K : PySem.W.Frag) (C : Addr) (m qual : Str) (st : Stmt) (f : Addr) : Prop where
  at_ : PySem.W.findIn K (.ref C) m = some (some (.ref f))
  fn : PySem.W.isFn K (.ref f) = true
  df : DefAt K m qual st f
theorem MethAt.meth {K : PySem.W.Frag} {C : Addr} {m qual : Str} {st : Stmt} {f : Addr} (e : MethAt K C m qual st f) : Meth K C m f := ⟨e.at_, e.fn, e.df.keep⟩
abbrev sMany8 : Stmt := inClass (top 8) 0
abbrev sBadR9 : Stmt := inClass (top 9) 0
abbrev sOut10 : Stmt := inClass (top 10) 0
theorem scMany8 : FnScope ["self", "most"] ["self", "most"] (defScope sMany8) := ⟨rfl, rfl, rfl, by decide +kernel, rfl, by decide +kernel, by decide +kernel⟩
theorem scBadR9 : FnScope ["self", "index"] ["self", "index"] (defScope sBadR9) := ⟨rfl, rfl, rfl, by decide +kernel, rfl, by decide +kernel, by decide +kernel⟩
theorem scOut10 : FnScope ["self", "number"] ["self", "number"] (defScope sOut10) := ⟨rfl, rfl, rfl, by decide +kernel, rfl, by decide +kernel, by decide +kernel⟩
/-- Row.__init__ with its default, (); Row.plain with its keyword's default -/
structure InitAt (K : PySem.W.Frag) (f a0 : Addr) : Prop where
  fn : ∃ oc od kV doc pm an cd ct sl D c d n ms, K.lookup f = some ⟨oc, od, .func (PySem.W.fnOf "__init__" "Row.__init__" (defArgs sRowI) (defBody sRowI) (defScope sRowI) (.ref D) kV doc pm an cd ct), sl⟩ ∧ PySem.W.codeIn K cd "Row.__init__" = true ∧ K.lookup D = some ⟨c, d, .seq [Value.ref a0].toArray n, ms⟩
  emp : ∃ d n ms, K.lookup a0 = some ⟨.type "tuple", d, .seq ([] : List Value).toArray n, ms⟩
  keep : PySem.W.keepIn K (.ref f) = true
theorem InitAt.mk' {K : PySem.W.Frag} {f a0 D : Addr} {oc : Value} {od : Option Addr} {kV doc pm : Value} {an : Option Addr} {cd ct : Value} {sl ms ms2 : Array (Option Value)} {c : Value} {d d2 : Option Addr} {n n2 : Nat}
    (l : K.lookup f = some ⟨oc, od, .func (PySem.W.fnOf "__init__" "Row.__init__" (defArgs sRowI) (defBody sRowI) (defScope sRowI) (.ref D) kV doc pm an cd ct), sl⟩) (e : PySem.W.codeIn K cd "Row.__init__" = true)
    (l2 : K.lookup D = some ⟨c, d, .seq [Value.ref a0].toArray n, ms⟩) (l3 : K.lookup a0 = some ⟨.type "tuple", d2, .seq ([] : List Value).toArray n2, ms2⟩) (k : PySem.W.keepIn K (.ref f) = true) : InitAt K f a0 :=
  ⟨⟨oc, od, kV, doc, pm, an, cd, ct, sl, D, c, d, n, ms, l, e, l2⟩, ⟨d2, n2, ms2, l3⟩, k⟩
theorem InitAt.fun {K : PySem.W.Frag} {f a0 : Addr} (e : InitAt K f a0) : ∃ fd, FunD K "__init__" "Row.__init__" (defArgs sRowI) (defBody sRowI) (defScope sRowI) [.ref a0] [] f fd := by
  obtain ⟨oc, od, kV, doc, pm, an, cd, ct, sl, D, c, d, n, ms, l, hc, l2⟩ := e.fn
  exact ⟨_, ⟨⟨oc, od, .ref D, kV, doc, pm, an, cd, ct, sl, rfl, l, hc, .inr ⟨by simp, D, _, [Value.ref a0], n, rfl, l2, rfl, .cons rfl .nil⟩, .inl rfl⟩, e.keep⟩⟩
theorem InitAt.nil {K : PySem.W.Frag} {f a0 : Addr} (e : InitAt K f a0) (H : Hp) : SqT K H a0 [] := by
  obtain ⟨d, n, ms, l⟩ := e.emp
  exact .inr ⟨_, ([] : List Value).toArray, n, l, rfl, rfl, Nat.zero_le _, .nil⟩
theorem init1 {K : PySem.W.Frag} {f a0 : Addr} {fd : FuncData} (F : FunD K "__init__" "Row.__init__" (defArgs sRowI) (defBody sRowI) (defScope sRowI) [.ref a0] [] f fd) : ∃ ds, Vals [V.ref a0] ds ∧ Binds K fd ["self", "stretches"] ds :=
  F.binds1 (ps := ["self", "stretches"]) 1 0 (by simp) rfl fun T kV doc pm an cdv ct us its h1 h2 => match us, its, h1, h2 with | [_], [_], _, _ => ⟨_, rfl, rfl⟩
theorem init2 {K : PySem.W.Frag} {f a0 : Addr} {fd : FuncData} (F : FunD K "__init__" "Row.__init__" (defArgs sRowI) (defBody sRowI) (defScope sRowI) [.ref a0] [] f fd) : Binds K fd ["self", "stretches"] [] := by
  obtain ⟨ds, hv, hb⟩ := F.binds1 (ps := ["self", "stretches"]) 2 1 (by simp) rfl fun T kV doc pm an cdv ct us its h1 h2 => match us, its, h1, h2 with | [_, _], [_], _, _ => ⟨_, rfl, rfl⟩
  cases hv
  exact hb
structure PlainAt (K : PySem.W.Frag) (C f : Addr) : Prop where
  at_ : PySem.W.findIn K (.ref C) "plain" = some (some (.ref f))
  isf : PySem.W.isFn K (.ref f) = true
  fn : ∃ oc od doc pm an cd ct sl D tk, K.lookup f = some ⟨oc, od, .func (PySem.W.fnOf "plain" "Row.plain" (defArgs sPlain) (defBody sPlain) (defScope sPlain) .none (.ref D) doc pm an cd ct), sl⟩ ∧ PySem.W.codeIn K cd "Row.plain" = true ∧ PySem.W.nsIn K D "most" = some (some (.int 2000 tk))
  keep : PySem.W.keepIn K (.ref f) = true
theorem PlainAt.mk' {K : PySem.W.Frag} {C f D : Addr} {oc : Value} {od : Option Addr} {doc pm : Value} {an : Option Addr} {cd ct : Value} {sl : Array (Option Value)} {tk : Tok} (a : PySem.W.findIn K (.ref C) "plain" = some (some (.ref f))) (b : PySem.W.isFn K (.ref f) = true)
    (l : K.lookup f = some ⟨oc, od, .func (PySem.W.fnOf "plain" "Row.plain" (defArgs sPlain) (defBody sPlain) (defScope sPlain) .none (.ref D) doc pm an cd ct), sl⟩) (e : PySem.W.codeIn K cd "Row.plain" = true)
    (l2 : PySem.W.nsIn K D "most" = some (some (.int 2000 tk))) (k : PySem.W.keepIn K (.ref f) = true) : PlainAt K C f := ⟨a, b, ⟨oc, od, doc, pm, an, cd, ct, sl, D, tk, l, e, l2⟩, k⟩
theorem PlainAt.meth {K : PySem.W.Frag} {C f : Addr} (e : PlainAt K C f) : Meth K C "plain" f := ⟨e.at_, e.isf, e.keep⟩
theorem PlainAt.fun {K : PySem.W.Frag} {C f : Addr} (e : PlainAt K C f) : ∃ fd, FunD K "plain" "Row.plain" (defArgs sPlain) (defBody sPlain) (defScope sPlain) [] [("most", .int 2000)] f fd := by
  obtain ⟨oc, od, doc, pm, an, cd, ct, sl, D, tk, l, hc, l2⟩ := e.fn
  exact ⟨_, ⟨⟨oc, od, .none, .ref D, doc, pm, an, cd, ct, sl, rfl, l, hc, .inl ⟨rfl, rfl⟩, .inr ⟨D, rfl, fun q hq => by rw [List.mem_singleton.mp hq]; exact ⟨_, l2, tk, rfl⟩⟩⟩, e.keep⟩⟩
theorem plainDf {K : PySem.W.Frag} {f : Addr} {fd : FuncData} (F : FunD K "plain" "Row.plain" (defArgs sPlain) (defBody sPlain) (defScope sPlain) [] [("most", .int 2000)] f fd) : ∃ ds, Vals [V.int 2000] ds ∧ Binds K fd ["self", "most"] ds :=
  F.binds0 (ps := ["self", "most"]) 1 (by simp) rfl fun D doc pm an cdv ct us ks h1 h2 => match us, ks, h1, h2 with | [_], [_], _, _ => ⟨_, _, _, _, _, _, rfl, rfl, rfl⟩
theorem plainKw {K : PySem.W.Frag} {f : Addr} {fd : FuncData} (F : FunD K "plain" "Row.plain" (defArgs sPlain) (defBody sPlain) (defScope sPlain) [] [("most", .int 2000)] f fd) : KBn K fd ["self", "most"] 1 ["most"] (fun us ws => us ++ ws) (fun us ws => us ++ ws) := by
  obtain ⟨mv, h⟩ := F.kbinds0 (ps := ["self", "most"]) 1 ["most"] [] (fun us mv ws => us ++ ws) (by simp) (fun q hq => by cases hq) (fun r _ z => r.append z) fun D doc pm an cdv ct us mv ws h1 h2 h3 => by
    obtain rfl : mv = [] := List.length_eq_zero_iff.mp h2
    match us, ws, h1, h3 with
    | [_], [_], _, _ => rfl
  exact h
/-- the empty tables at ts, as a piece of the written part; what stands beside it -/
abbrev emptyAt (ts : List Addr) : PySem.W.Frag := ts.map fun a => (a, emptyTab)
theorem in_left {K T : PySem.W.Frag} {h : Heap} (X : PySem.W.Frag.In (K ++ T) h) : K.In h := fun b o e => X b o (by
  show List.lookup b (K ++ T) = some o
  rw [List.lookup_append, show List.lookup b K = some o from e]
  rfl)
/-- the head's look, with the tables beside the written part -/
abbrev hookT (K : Params → PySem.W.Frag) (as : List Addr) (e : ∀ P, as = (K P).map (·.1)) (ts : List Addr) : PySem.W.Hook := PySem.W.kHook (fun P => K P ++ emptyAt ts) (as ++ ts) fun P => by
  have q : (emptyAt ts).map (·.1) = ts := by
    simp only [emptyAt, List.map_map]
    exact List.map_id' ts
  rw [List.map_append, q, e P]
structure TwoV (K : PySem.W.Frag) (T : String) (m : Str) : Prop where
  ex : ∃ v, PySem.W.findIn K (.type T) m = some v
theorem TwoV.mk' {K : PySem.W.Frag} {T : String} {m : Str} {v : Option Value} (h : PySem.W.findIn K (.type T) m = some v) : TwoV K T m := ⟨⟨v, h⟩⟩

theorem all_mk {l : PySem.W.OpenLaw} {w : World} {K : PySem.W.Frag} {mg : Str → Option Value} {h : Heap} {fa : Addr} {F1 F2 F3 F4 F5 F15 F16 F17 F18 F19 F20 F21 F22 F23 F24 F28 F29 F30 F32 F33 F34 F36 F37 F38 F39 F40 F41 F42 F43 F44 F45 F46 F47 F48 F49 F50 F51 M1 M2 M3 M4 M6 M7 M8 M9 c47 c50 P47 P50 W CT CB CO CR CU IT IB IO IR IU a0 MP : Addr} {MT : Int} {tk1 tk2 tk3 tk4 : Tok} (X : K.In h) (G : h.Ns mainGlobals mg) (hfa : mg "law" = some (.ref fa))
    (aW : PySem.W.nsIn K mainGlobals "WebError" = some (some (.ref W)))
    (ET : ErrAt K W "TooMany" "TooMany.__init__" sMany8 "most" CT IT)
    (EB : ErrAt K W "BadRow" "BadRow.__init__" sBadR9 "index" CB IB)
    (EO : ErrAt K W "OutsideRow" "OutsideRow.__init__" sOut10 "number" CO IO)
    (sOO : PySem.W.subIn K (.ref CO) (.ref CO) = some true)
    (sTO : PySem.W.subIn K (.ref CT) (.ref CO) = some false)
    (sTT : PySem.W.subIn K (.ref CT) (.ref CT) = some true)
    (ZR : ClsLeft K "Row" CR IR "stretches")
    (ZU : ClsLeft K "Runs" CU IU "pairs")
    (hn : PySem.W.specialIn K (.builtin "object.__class__") "__get__" = some (some (.builtin "getset_descriptor.__get__")))
    (ht : PySem.W.takesIn K (.builtin "object.__class__") = some true)
    (II : InitAt K IR a0)
    (UI : DefAt K "__init__" "Runs.__init__" sRunsI IU)
    (PL : PlainAt K CR MP)
    (Y1 : MethAt K CR "__add__" "Row.__add__" sAddM M1)
    (Y2 : MethAt K CR "__eq__" "Row.__eq__" sEqM M2)
    (Y3 : MethAt K CR "total" "Row.total" sTotal M3)
    (Y4 : MethAt K CR "bud" "Row.bud" sBud M4)
    (Y6 : MethAt K CR "beginning" "Row.beginning" sBeginning M6)
    (Y7 : MethAt K CR "behind" "Row.behind" sBehindM M7)
    (Y8 : MethAt K CR "before" "Row.before" sBefore M8)
    (Y9 : MethAt K CR "common" "Row.common" sCommonM M9)
    (oNE : PySem.W.findIn K (.ref CR) "__ne__" = some (some (.builtin "object.__ne__")))
    (oFS : PySem.W.selfFirst K CR = true)
    (oRA : PySem.W.findIn K (.ref CR) "__radd__" = some none)
    (oNT : PySem.W.subIn K (.ref CR) (.type "tuple") = some false)
    (oST : PySem.W.subIn K (.type "tuple") (.ref CR) = some false)
    (oSL : PySem.W.subIn K (.type "list") (.ref CR) = some false)
    (vTA : TwoV K "tuple" "__add__")
    (vTR : TwoV K "tuple" "__radd__")
    (vLA : TwoV K "list" "__add__")
    (vLR : TwoV K "list" "__radd__")
    (a1 : PySem.W.nsIn K mainGlobals "is_integer" = some (some (.ref F1)))
    (D1 : DefAt K "is_integer" "is_integer" sIsInt F1)
    (a2 : PySem.W.nsIn K mainGlobals "is_within" = some (some (.ref F2)))
    (D2 : DefAt K "is_within" "is_within" sWithin F2)
    (a3 : PySem.W.nsIn K mainGlobals "is_list" = some (some (.ref F3)))
    (D3 : DefAt K "is_list" "is_list" sIsList F3)
    (a4 : PySem.W.nsIn K mainGlobals "is_pair" = some (some (.ref F4)))
    (D4 : DefAt K "is_pair" "is_pair" sIsPair F4)
    (a5 : PySem.W.nsIn K mainGlobals "is_integers" = some (some (.ref F5)))
    (D5 : DefAt K "is_integers" "is_integers" sIsInts F5)
    (a15 : PySem.W.nsIn K mainGlobals "count_numbers" = some (some (.ref F15)))
    (D15 : DefAt K "count_numbers" "count_numbers" sCount F15)
    (a16 : PySem.W.nsIn K mainGlobals "merged" = some (some (.ref F16)))
    (D16 : DefAt K "merged" "merged" sMerged F16)
    (a17 : PySem.W.nsIn K mainGlobals "first_numbers" = some (some (.ref F17)))
    (D17 : DefAt K "first_numbers" "first_numbers" sFirst F17)
    (a18 : PySem.W.nsIn K mainGlobals "numbers_behind" = some (some (.ref F18)))
    (D18 : DefAt K "numbers_behind" "numbers_behind" sBehind F18)
    (a19 : PySem.W.nsIn K mainGlobals "number_at" = some (some (.ref F19)))
    (D19 : DefAt K "number_at" "number_at" sNumAt F19)
    (a20 : PySem.W.nsIn K mainGlobals "spelled" = some (some (.ref F20)))
    (D20 : DefAt K "spelled" "spelled" sSpelled F20)
    (a21 : PySem.W.nsIn K mainGlobals "agreeing" = some (some (.ref F21)))
    (D21 : DefAt K "agreeing" "agreeing" sAgree F21)
    (a22 : PySem.W.nsIn K mainGlobals "count_common" = some (some (.ref F22)))
    (D22 : DefAt K "count_common" "count_common" sCommon F22)
    (a23 : PySem.W.nsIn K mainGlobals "repeated_length" = some (some (.ref F23)))
    (D23 : DefAt K "repeated_length" "repeated_length" sRepeated F23)
    (a24 : PySem.W.nsIn K mainGlobals "packed" = some (some (.ref F24)))
    (D24 : DefAt K "packed" "packed" sPacked F24)
    (a28 : PySem.W.nsIn K mainGlobals "is_loop_word" = some (some (.ref F28)))
    (D28 : DefAt K "is_loop_word" "is_loop_word" sLoopWord F28)
    (a29 : PySem.W.nsIn K mainGlobals "is_stretch" = some (some (.ref F29)))
    (D29 : DefAt K "is_stretch" "is_stretch" sStretch F29)
    (a30 : PySem.W.nsIn K mainGlobals "taken_stretches" = some (some (.ref F30)))
    (D30 : DefAt K "taken_stretches" "taken_stretches" sTaken F30)
    (a32 : PySem.W.nsIn K mainGlobals "are_same" = some (some (.ref F32)))
    (D32 : DefAt K "are_same" "are_same" sAreSame F32)
    (a33 : PySem.W.nsIn K mainGlobals "is_row" = some (some (.ref F33)))
    (D33 : DefAt K "is_row" "is_row" sIsRow F33)
    (a34 : PySem.W.nsIn K mainGlobals "stretches_of" = some (some (.ref F34)))
    (D34 : DefAt K "stretches_of" "stretches_of" sStrOf F34)
    (a36 : PySem.W.nsIn K mainGlobals "_law_begin" = some (some (.ref F36)))
    (D36 : DefAt K "_law_begin" "_law_begin" sBegin F36)
    (a37 : PySem.W.nsIn K mainGlobals "_law_draw" = some (some (.ref F37)))
    (D37 : DefAt K "_law_draw" "_law_draw" sDraw F37)
    (a38 : PySem.W.nsIn K mainGlobals "_law_pick" = some (some (.ref F38)))
    (D38 : DefAt K "_law_pick" "_law_pick" sPick F38)
    (a39 : PySem.W.nsIn K mainGlobals "_law_great" = some (some (.ref F39)))
    (D39 : DefAt K "_law_great" "_law_great" sGreat F39)
    (a40 : PySem.W.nsIn K mainGlobals "_law_ten" = some (some (.ref F40)))
    (D40 : DefAt K "_law_ten" "_law_ten" sTen F40)
    (a41 : PySem.W.nsIn K mainGlobals "_law_is" = some (some (.ref F41)))
    (D41 : DefAt K "_law_is" "_law_is" sIs F41)
    (a42 : PySem.W.nsIn K mainGlobals "_law_strips" = some (some (.ref F42)))
    (D42 : DefAt K "_law_strips" "_law_strips" sStrips F42)
    (a43 : PySem.W.nsIn K mainGlobals "_law_bulk" = some (some (.ref F43)))
    (D43 : DefAt K "_law_bulk" "_law_bulk" sBulk F43)
    (a44 : PySem.W.nsIn K mainGlobals "_law_number" = some (some (.ref F44)))
    (D44 : DefAt K "_law_number" "_law_number" sNumber F44)
    (a45 : PySem.W.nsIn K mainGlobals "_law_otherwise" = some (some (.ref F45)))
    (D45 : DefAt K "_law_otherwise" "_law_otherwise" sOth F45)
    (a46 : PySem.W.nsIn K mainGlobals "_law_raised" = some (some (.ref F46)))
    (D46 : DefAt K "_law_raised" "_law_raised" sRai F46)
    (a47 : PySem.W.nsIn K mainGlobals "_law_same_right" = some (some (.ref F47)))
    (D47 : CodeAt K "_law_same_right" sSame F47 c47)
    (a48 : PySem.W.nsIn K mainGlobals "_law_cut_right" = some (some (.ref F48)))
    (D48 : DefAt K "_law_cut_right" "_law_cut_right" sCut F48)
    (a49 : PySem.W.nsIn K mainGlobals "_law_parted_right" = some (some (.ref F49)))
    (D49 : DefAt K "_law_parted_right" "_law_parted_right" sParted F49)
    (a50 : PySem.W.nsIn K mainGlobals "_law_widest_right" = some (some (.ref F50)))
    (D50 : CodeAt K "_law_widest_right" sWid F50 c50)
    (a51 : PySem.W.nsIn K mainGlobals "law" = some (some (.ref F51)))
    (D51 : DefAt K "law" "law" sLaw F51)
    (b_tuple : PySem.W.nsIn K mainGlobals "tuple" = some none)
    (b_len : PySem.W.nsIn K mainGlobals "len" = some none)
    (b_sum : PySem.W.nsIn K mainGlobals "sum" = some none)
    (b_list : PySem.W.nsIn K mainGlobals "list" = some none)
    (b_range : PySem.W.nsIn K mainGlobals "range" = some none)
    (b_min : PySem.W.nsIn K mainGlobals "min" = some none)
    (b_max : PySem.W.nsIn K mainGlobals "max" = some none)
    (b_isinstance : PySem.W.nsIn K mainGlobals "isinstance" = some none)
    (b_int : PySem.W.nsIn K mainGlobals "int" = some none)
    (b_bool : PySem.W.nsIn K mainGlobals "bool" = some none)
    (b_all : PySem.W.nsIn K mainGlobals "all" = some none)
    (b_enumerate : PySem.W.nsIn K mainGlobals "enumerate" = some none)
    (n0 : PySem.W.nsIn K mainGlobals "LONGEST_WORD" = some (some (.int 40 tk1)))
    (n1 : PySem.W.nsIn K mainGlobals "GREATEST_BUD" = some (some (.int 3 tk2)))
    (n2 : PySem.W.nsIn K mainGlobals "MOST_STRETCHES" = some (some (.int 20 tk3)))
    (nM : PySem.W.nsIn K mainGlobals "MOST_TIMES" = some (some (.int MT tk4)))
    (hM : MT = 10 ^ 300)
    (cd47 : PySem.W.CodeHd h c47 P47)
    (tb47 : h.get? P47 = some emptyTab)
    (kn47 : K.lookup P47 = none)
    (cd50 : PySem.W.CodeHd h c50 P50)
    (tb50 : h.get? P50 = some emptyTab)
    (kn50 : K.lookup P50 = none)
    (dif : P47 ≠ P50)
    : ∃ (fd : FuncData) (cs : List (Addr × Addr)) (sp : Sp), (∀ p ∈ cs, h.get? p.2 = some emptyTab ∧ K.lookup p.2 = none ∧ PySem.W.CodeHd h p.1 p.2) ∧ (∀ (s : Shared) (u : Value), BindsTo s fd ⟨[u], []⟩ [("_law_script", u)]) ∧
      (∀ (H : Hp) (a : Addr) (ns : List Int), ns.length ≤ 63 → (∀ p ∈ cs, H p.2 = some (.tbl #[])) → SqL K H a (ns.map V.int) → sp [.ref a] H (fun v _ => v = .bl true) fun _ _ _ => False) ∧
      ∀ base : Heap, K.In base → base.Ns mainGlobals mg → (∀ p ∈ cs, TabB base mg p.1 p.2) → FnOk l.prog w K mg base CX0 12 fa fd ["_law_script"] sp := by
  subst hM
  have e := hfa.symm.trans (PySem.W.mg_of X G a51)
  cases e
  have z_tuple : mg "tuple" = none := PySem.W.mg_none_of X G b_tuple
  have z_len : mg "len" = none := PySem.W.mg_none_of X G b_len
  have z_sum : mg "sum" = none := PySem.W.mg_none_of X G b_sum
  have z_list : mg "list" = none := PySem.W.mg_none_of X G b_list
  have z_range : mg "range" = none := PySem.W.mg_none_of X G b_range
  have z_min : mg "min" = none := PySem.W.mg_none_of X G b_min
  have z_max : mg "max" = none := PySem.W.mg_none_of X G b_max
  have z_isinstance : mg "isinstance" = none := PySem.W.mg_none_of X G b_isinstance
  have z_int : mg "int" = none := PySem.W.mg_none_of X G b_int
  have z_bool : mg "bool" = none := PySem.W.mg_none_of X G b_bool
  have z_all : mg "all" = none := PySem.W.mg_none_of X G b_all
  have z_enumerate : mg "enumerate" = none := PySem.W.mg_none_of X G b_enumerate
  have m0 : mg "LONGEST_WORD" = some (.int 40 tk1) := PySem.W.mg_of X G n0
  have m1 : mg "GREATEST_BUD" = some (.int 3 tk2) := PySem.W.mg_of X G n1
  have m2 : mg "MOST_STRETCHES" = some (.int 20 tk3) := PySem.W.mg_of X G n2
  have mM : mg "MOST_TIMES" = some (.int (10 ^ 300) tk4) := PySem.W.mg_of X G nM
  have gR : mg "Row" = some (.ref CR) := PySem.W.mg_of X G ZR.aC
  have gU : mg "Runs" = some (.ref CU) := PySem.W.mg_of X G ZU.aC
  obtain ⟨fd1, G1⟩ := D1.fun
  have A1 : At K mg "is_integer" F1 fd1 ["value"] := ⟨PySem.W.mg_of X G a1, D1.keep, G1.binds (ps := ["value"]) fun _ _ _ _ _ _ us hl => match us, hl with | [_], _ => rfl⟩
  obtain ⟨fd2, G2⟩ := D2.fun
  have A2 : At K mg "is_within" F2 fd2 ["value", "least", "most"] := ⟨PySem.W.mg_of X G a2, D2.keep, G2.binds (ps := ["value", "least", "most"]) fun _ _ _ _ _ _ us hl => match us, hl with | [_, _, _], _ => rfl⟩
  obtain ⟨fd3, G3⟩ := D3.fun
  have A3 : At K mg "is_list" F3 fd3 ["value"] := ⟨PySem.W.mg_of X G a3, D3.keep, G3.binds (ps := ["value"]) fun _ _ _ _ _ _ us hl => match us, hl with | [_], _ => rfl⟩
  obtain ⟨fd4, G4⟩ := D4.fun
  have A4 : At K mg "is_pair" F4 fd4 ["value"] := ⟨PySem.W.mg_of X G a4, D4.keep, G4.binds (ps := ["value"]) fun _ _ _ _ _ _ us hl => match us, hl with | [_], _ => rfl⟩
  obtain ⟨fd5, G5⟩ := D5.fun
  have A5 : At K mg "is_integers" F5 fd5 ["value"] := ⟨PySem.W.mg_of X G a5, D5.keep, G5.binds (ps := ["value"]) fun _ _ _ _ _ _ us hl => match us, hl with | [_], _ => rfl⟩
  obtain ⟨fd15, G15⟩ := D15.fun
  have A15 : At K mg "count_numbers" F15 fd15 ["pairs"] := ⟨PySem.W.mg_of X G a15, D15.keep, G15.binds (ps := ["pairs"]) fun _ _ _ _ _ _ us hl => match us, hl with | [_], _ => rfl⟩
  obtain ⟨fd16, G16⟩ := D16.fun
  have A16 : At K mg "merged" F16 fd16 ["pairs"] := ⟨PySem.W.mg_of X G a16, D16.keep, G16.binds (ps := ["pairs"]) fun _ _ _ _ _ _ us hl => match us, hl with | [_], _ => rfl⟩
  obtain ⟨fd17, G17⟩ := D17.fun
  have A17 : At K mg "first_numbers" F17 fd17 ["pairs", "many"] := ⟨PySem.W.mg_of X G a17, D17.keep, G17.binds (ps := ["pairs", "many"]) fun _ _ _ _ _ _ us hl => match us, hl with | [_, _], _ => rfl⟩
  obtain ⟨fd18, G18⟩ := D18.fun
  have A18 : At K mg "numbers_behind" F18 fd18 ["pairs", "many"] := ⟨PySem.W.mg_of X G a18, D18.keep, G18.binds (ps := ["pairs", "many"]) fun _ _ _ _ _ _ us hl => match us, hl with | [_, _], _ => rfl⟩
  obtain ⟨fd19, G19⟩ := D19.fun
  have A19 : At K mg "number_at" F19 fd19 ["pairs", "index"] := ⟨PySem.W.mg_of X G a19, D19.keep, G19.binds (ps := ["pairs", "index"]) fun _ _ _ _ _ _ us hl => match us, hl with | [_, _], _ => rfl⟩
  obtain ⟨fd20, G20⟩ := D20.fun
  have A20 : At K mg "spelled" F20 fd20 ["pairs"] := ⟨PySem.W.mg_of X G a20, D20.keep, G20.binds (ps := ["pairs"]) fun _ _ _ _ _ _ us hl => match us, hl with | [_], _ => rfl⟩
  obtain ⟨fd21, G21⟩ := D21.fun
  have A21 : At K mg "agreeing" F21 fd21 ["word", "begun", "other", "other_begun", "most"] := ⟨PySem.W.mg_of X G a21, D21.keep, G21.binds (ps := ["word", "begun", "other", "other_begun", "most"]) fun _ _ _ _ _ _ us hl => match us, hl with | [_, _, _, _, _], _ => rfl⟩
  obtain ⟨fd22, G22⟩ := D22.fun
  have A22 : At K mg "count_common" F22 fd22 ["pairs", "other_pairs"] := ⟨PySem.W.mg_of X G a22, D22.keep, G22.binds (ps := ["pairs", "other_pairs"]) fun _ _ _ _ _ _ us hl => match us, hl with | [_, _], _ => rfl⟩
  obtain ⟨fd23, G23⟩ := D23.fun
  have A23 : At K mg "repeated_length" F23 fd23 ["numbers", "first", "step"] := ⟨PySem.W.mg_of X G a23, D23.keep, G23.binds (ps := ["numbers", "first", "step"]) fun _ _ _ _ _ _ us hl => match us, hl with | [_, _, _], _ => rfl⟩
  obtain ⟨fd24, G24⟩ := D24.fun
  have A24 : At K mg "packed" F24 fd24 ["numbers"] := ⟨PySem.W.mg_of X G a24, D24.keep, G24.binds (ps := ["numbers"]) fun _ _ _ _ _ _ us hl => match us, hl with | [_], _ => rfl⟩
  obtain ⟨fd28, G28⟩ := D28.fun
  have A28 : At K mg "is_loop_word" F28 fd28 ["value"] := ⟨PySem.W.mg_of X G a28, D28.keep, G28.binds (ps := ["value"]) fun _ _ _ _ _ _ us hl => match us, hl with | [_], _ => rfl⟩
  obtain ⟨fd29, G29⟩ := D29.fun
  have A29 : At K mg "is_stretch" F29 fd29 ["value"] := ⟨PySem.W.mg_of X G a29, D29.keep, G29.binds (ps := ["value"]) fun _ _ _ _ _ _ us hl => match us, hl with | [_], _ => rfl⟩
  obtain ⟨fd30, G30⟩ := D30.fun
  have A30 : At K mg "taken_stretches" F30 fd30 ["value"] := ⟨PySem.W.mg_of X G a30, D30.keep, G30.binds (ps := ["value"]) fun _ _ _ _ _ _ us hl => match us, hl with | [_], _ => rfl⟩
  obtain ⟨fd32, G32⟩ := D32.fun
  have A32 : At K mg "are_same" F32 fd32 ["pairs", "other_pairs"] := ⟨PySem.W.mg_of X G a32, D32.keep, G32.binds (ps := ["pairs", "other_pairs"]) fun _ _ _ _ _ _ us hl => match us, hl with | [_, _], _ => rfl⟩
  obtain ⟨fd33, G33⟩ := D33.fun
  have A33 : At K mg "is_row" F33 fd33 ["value"] := ⟨PySem.W.mg_of X G a33, D33.keep, G33.binds (ps := ["value"]) fun _ _ _ _ _ _ us hl => match us, hl with | [_], _ => rfl⟩
  obtain ⟨fd34, G34⟩ := D34.fun
  have A34 : At K mg "stretches_of" F34 fd34 ["row"] := ⟨PySem.W.mg_of X G a34, D34.keep, G34.binds (ps := ["row"]) fun _ _ _ _ _ _ us hl => match us, hl with | [_], _ => rfl⟩
  obtain ⟨fd36, G36⟩ := D36.fun
  have A36 : At K mg "_law_begin" F36 fd36 ["_law_script"] := ⟨PySem.W.mg_of X G a36, D36.keep, G36.binds (ps := ["_law_script"]) fun _ _ _ _ _ _ us hl => match us, hl with | [_], _ => rfl⟩
  obtain ⟨fd37, G37⟩ := D37.fun
  have A37 : At K mg "_law_draw" F37 fd37 ["_law_tape", "_law_limit"] := ⟨PySem.W.mg_of X G a37, D37.keep, G37.binds (ps := ["_law_tape", "_law_limit"]) fun _ _ _ _ _ _ us hl => match us, hl with | [_, _], _ => rfl⟩
  obtain ⟨fd38, G38⟩ := D38.fun
  have A38 : At K mg "_law_pick" F38 fd38 ["_law_tape", "_law_some"] := ⟨PySem.W.mg_of X G a38, D38.keep, G38.binds (ps := ["_law_tape", "_law_some"]) fun _ _ _ _ _ _ us hl => match us, hl with | [_, _], _ => rfl⟩
  obtain ⟨fd39, G39⟩ := D39.fun
  have A39 : At K mg "_law_great" F39 fd39 ["_law_tape", "_law_cap"] := ⟨PySem.W.mg_of X G a39, D39.keep, G39.binds (ps := ["_law_tape", "_law_cap"]) fun _ _ _ _ _ _ us hl => match us, hl with | [_, _], _ => rfl⟩
  obtain ⟨fd40, G40⟩ := D40.fun
  have A40 : At K mg "_law_ten" F40 fd40 ["_law_figures"] := ⟨PySem.W.mg_of X G a40, D40.keep, G40.binds (ps := ["_law_figures"]) fun _ _ _ _ _ _ us hl => match us, hl with | [_], _ => rfl⟩
  obtain ⟨fd41, G41⟩ := D41.fun
  have A41 : At K mg "_law_is" F41 fd41 ["_law_value", "_law_truth"] := ⟨PySem.W.mg_of X G a41, D41.keep, G41.binds (ps := ["_law_value", "_law_truth"]) fun _ _ _ _ _ _ us hl => match us, hl with | [_, _], _ => rfl⟩
  obtain ⟨fd42, G42⟩ := D42.fun
  have A42 : At K mg "_law_strips" F42 fd42 ["_law_tape"] := ⟨PySem.W.mg_of X G a42, D42.keep, G42.binds (ps := ["_law_tape"]) fun _ _ _ _ _ _ us hl => match us, hl with | [_], _ => rfl⟩
  obtain ⟨fd43, G43⟩ := D43.fun
  have A43 : At K mg "_law_bulk" F43 fd43 ["_law_stretches"] := ⟨PySem.W.mg_of X G a43, D43.keep, G43.binds (ps := ["_law_stretches"]) fun _ _ _ _ _ _ us hl => match us, hl with | [_], _ => rfl⟩
  obtain ⟨fd44, G44⟩ := D44.fun
  have A44 : At K mg "_law_number" F44 fd44 ["_law_stretches", "_law_index"] := ⟨PySem.W.mg_of X G a44, D44.keep, G44.binds (ps := ["_law_stretches", "_law_index"]) fun _ _ _ _ _ _ us hl => match us, hl with | [_, _], _ => rfl⟩
  obtain ⟨fd45, G45⟩ := D45.fun
  have A45 : At K mg "_law_otherwise" F45 fd45 ["_law_tape", "_law_stretches"] := ⟨PySem.W.mg_of X G a45, D45.keep, G45.binds (ps := ["_law_tape", "_law_stretches"]) fun _ _ _ _ _ _ us hl => match us, hl with | [_, _], _ => rfl⟩
  obtain ⟨fd46, G46⟩ := D46.fun
  have A46 : At K mg "_law_raised" F46 fd46 ["_law_call"] := ⟨PySem.W.mg_of X G a46, D46.keep, G46.binds (ps := ["_law_call"]) fun _ _ _ _ _ _ us hl => match us, hl with | [_], _ => rfl⟩
  obtain ⟨fd47, G47, C47⟩ := D47.fun
  have A47 : At K mg "_law_same_right" F47 fd47 ["_law_tape", "_law_stretches", "_law_row", "_law_other"] := ⟨PySem.W.mg_of X G a47, D47.keep, G47.binds (ps := ["_law_tape", "_law_stretches", "_law_row", "_law_other"]) fun _ _ _ _ _ _ us hl => match us, hl with | [_, _, _, _], _ => rfl⟩
  obtain ⟨fd48, G48⟩ := D48.fun
  have A48 : At K mg "_law_cut_right" F48 fd48 ["_law_tape", "_law_stretches", "_law_row", "_law_other"] := ⟨PySem.W.mg_of X G a48, D48.keep, G48.binds (ps := ["_law_tape", "_law_stretches", "_law_row", "_law_other"]) fun _ _ _ _ _ _ us hl => match us, hl with | [_, _, _, _], _ => rfl⟩
  obtain ⟨fd49, G49⟩ := D49.fun
  have A49 : At K mg "_law_parted_right" F49 fd49 ["_law_tape", "_law_stretches", "_law_row", "_law_other"] := ⟨PySem.W.mg_of X G a49, D49.keep, G49.binds (ps := ["_law_tape", "_law_stretches", "_law_row", "_law_other"]) fun _ _ _ _ _ _ us hl => match us, hl with | [_, _, _, _], _ => rfl⟩
  obtain ⟨fd50, G50, C50⟩ := D50.fun
  have A50 : At K mg "_law_widest_right" F50 fd50 ["_law_tape"] := ⟨PySem.W.mg_of X G a50, D50.keep, G50.binds (ps := ["_law_tape"]) fun _ _ _ _ _ _ us hl => match us, hl with | [_], _ => rfl⟩
  obtain ⟨fd51, G51⟩ := D51.fun
  obtain ⟨md1, H1⟩ := Y1.df.fun
  have B1 : Binds K md1 ["self", "other"] [] := H1.binds (ps := ["self", "other"]) fun _ _ _ _ _ _ us hl => match us, hl with | [_, _], _ => rfl
  obtain ⟨md2, H2⟩ := Y2.df.fun
  have B2 : Binds K md2 ["self", "other"] [] := H2.binds (ps := ["self", "other"]) fun _ _ _ _ _ _ us hl => match us, hl with | [_, _], _ => rfl
  obtain ⟨md3, H3⟩ := Y3.df.fun
  have B3 : Binds K md3 ["self"] [] := H3.binds (ps := ["self"]) fun _ _ _ _ _ _ us hl => match us, hl with | [_], _ => rfl
  obtain ⟨md4, H4⟩ := Y4.df.fun
  have B4 : Binds K md4 ["self", "index"] [] := H4.binds (ps := ["self", "index"]) fun _ _ _ _ _ _ us hl => match us, hl with | [_, _], _ => rfl
  obtain ⟨md6, H6⟩ := Y6.df.fun
  have B6 : Binds K md6 ["self", "many"] [] := H6.binds (ps := ["self", "many"]) fun _ _ _ _ _ _ us hl => match us, hl with | [_, _], _ => rfl
  obtain ⟨md7, H7⟩ := Y7.df.fun
  have B7 : Binds K md7 ["self", "many"] [] := H7.binds (ps := ["self", "many"]) fun _ _ _ _ _ _ us hl => match us, hl with | [_, _], _ => rfl
  obtain ⟨md8, H8⟩ := Y8.df.fun
  have B8 : Binds K md8 ["self", "other"] [] := H8.binds (ps := ["self", "other"]) fun _ _ _ _ _ _ us hl => match us, hl with | [_, _], _ => rfl
  obtain ⟨md9, H9⟩ := Y9.df.fun
  have B9 : Binds K md9 ["self", "other"] [] := H9.binds (ps := ["self", "other"]) fun _ _ _ _ _ _ us hl => match us, hl with | [_, _], _ => rfl
  obtain ⟨fdI, GI⟩ := II.fun
  obtain ⟨fdU, GU⟩ := UI.fun
  have BU : Binds K fdU ["self", "pairs"] [] := GU.binds (ps := ["self", "pairs"]) fun _ _ _ _ _ _ us hl => match us, hl with | [_, _], _ => rfl
  obtain ⟨fdP, GP⟩ := PL.fun
  obtain ⟨ds0, hd0, hb0⟩ := init1 GI
  have bR := init2 GI
  have oR := ZR.own hn ht
  have oU := ZU.own hn ht
  have ZT : ∀ (P : Program) (base : Heap), Err P w K mg base "TooMany" CT ["most"] := fun P base => ET.err X G (fun fd F T n => ok_init1 rfl scMany8 (Or.inl rfl) (Or.inl rfl) (by decide) (by decide) F T n) fun _ _ _ _ _ _ us ws h0 hl => match us, ws, h0, hl with | [_], [_], _, _ => rfl | [_, _], [], _, _ => rfl
  have ZB : ∀ (P : Program) (base : Heap), Err P w K mg base "BadRow" CB ["index"] := fun P base => EB.err X G (fun fd F T n => ok_init1 rfl scBadR9 (Or.inl rfl) (Or.inl rfl) (by decide) (by decide) F T n) fun _ _ _ _ _ _ us ws h0 hl => match us, ws, h0, hl with | [_], [_], _, _ => rfl | [_, _], [], _, _ => rfl
  have ZO : ∀ (P : Program) (base : Heap), Err P w K mg base "OutsideRow" CO ["number"] := fun P base => EO.err X G (fun fd F T n => ok_init1 rfl scOut10 (Or.inl rfl) (Or.inl rfl) (by decide) (by decide) F T n) fun _ _ _ _ _ _ us ws h0 hl => match us, ws, h0, hl with | [_], [_], _, _ => rfl | [_, _], [], _, _ => rfl
  have RF : RaiF K mg CO CT := ⟨PySem.W.mg_of X G EO.aC, PySem.W.mg_of X G ET.aC, PySem.W.exm_ref EO.eC EO.hC EO.tC sOO, PySem.W.exm_ref EO.eC EO.hC EO.tC sTO, PySem.W.exm_ref ET.eC ET.hC ET.tC sTT, EO.xf, ET.xf, EO.no, ET.no⟩
  have RO : RowOp K CR M2 M1 := ⟨Y2.at_, Y2.fn, oNE, ZR.mo, Y1.at_, Y1.fn, oFS, oRA, oNT, oST, oSL, vTA.ex, vTR.ex, vLA.ex, vLR.ex⟩
  refine ⟨fd51, [(c47, P47), (c50, P50)], spLaw K [(P47, qSame), (P50, qWid)], ?_, fun s u => ?_, fun H a ns hl hT hS => ?_, fun base hbK hbN hTB => ?_⟩
  · intro p hp
    simp only [List.mem_cons, List.not_mem_nil, or_false] at hp
    rcases hp with z | z <;> subst z
    · exact ⟨tb47, kn47, cd47⟩
    · exact ⟨tb50, kn50, cd50⟩
  · obtain ⟨oc, od, kV, doc, pm, an, cdv, ct, osl, rfl, lk, hcd⟩ := G51.ex
    exact .of_eq rfl
  · refine ⟨a, ns, rfl, hS, hl, fun p hp => ?_, fun _ => rfl⟩
    simp only [List.mem_cons, List.not_mem_nil, or_false] at hp
    rcases hp with z | z <;> subst z
    · exact TabS.nil (hT (c47, P47) (by simp))
    · exact TabS.nil (hT (c50, P50) (by simp))
  · have T47 := hTB _ (List.mem_cons_self ..)
    have T50 := hTB _ (List.mem_cons_of_mem _ (List.mem_cons_self ..))
    have O16 := ok_merged (P := l.prog) (w := w) (mg := mg) (base := base) G16 z_tuple mM
    have O15 := ok_count (P := l.prog) (w := w) (mg := mg) (base := base) G15 z_sum z_len
    have O17 := ok_first G17 z_len O16 A16
    have O18 := ok_behind G18 z_len O16 A16
    have O19 := ok_numAt (P := l.prog) (w := w) (mg := mg) (base := base) G19 z_len
    have O20 := ok_spelled (P := l.prog) (w := w) (mg := mg) (base := base) G20 z_list z_tuple
    have O21 := ok_agree (P := l.prog) (w := w) (mg := mg) (base := base) G21 z_len z_range
    have O22 := ok_common G22 z_len z_min O21 A21
    have O23 := ok_repeated (P := l.prog) (w := w) (mg := mg) (base := base) G23 z_len
    have O24 := ok_packed G24 z_len z_range m0 O16 A16 O23 A23
    have O1 := ok_isInt (P := l.prog) (w := w) (mg := mg) (base := base) G1 z_isinstance z_int z_bool
    have O2 := ok_within G2 O1 A1
    have O3 := ok_isList (P := l.prog) (w := w) (mg := mg) (base := base) G3 z_isinstance z_list z_tuple
    have O4 := ok_isPair G4 z_len O3 A3
    have O5 := ok_isInts G5 z_all O1 A1 O3 A3
    have O28 := ok_loopWord G28 z_all z_len m0 m1 O2 A2 O3 A3
    have O29 := ok_stretch G29 mM O2 A2 O4 A4 O28 A28
    have O30 := ok_taken G30 z_len z_tuple z_enumerate m2 O3 A3 O29 A29 (ZB l.prog base)
    have OU := ok_runsI (P := l.prog) (w := w) (mg := mg) (base := base) GU ZU.cls ZU.no
    have OR := ok_rowI GI z_isinstance gU oU ZR.cls ZU.no ZR.no O30 A30
    have RM : MkR l.prog w K mg base (10 ^ 300) CR CU CB IR IU fdI fdU := ⟨gR, gU, ZR.make, ZU.make, bR, BU, OR, OU⟩
    have Om3 := ok_total H3 ZR.cls ZR.no O15 A15
    have Om4 := ok_bud H4 ZR.cls ZR.no Om3 Y3.meth B3 O2 A2 O19 A19 (ZO l.prog base)
    have Om6 := ok_beginning H6 ZR.cls ZR.no RM Om3 Y3.meth B3 O2 A2 O17 A17 (ZO l.prog base)
    have Om7 := ok_behindM H7 ZR.cls ZR.no RM Om3 Y3.meth B3 O2 A2 O18 A18 (ZO l.prog base)
    have O34 := ok_strOf G34 z_isinstance z_tuple gR oR ZR.no O24 A24
    have O33 := ok_isRow G33 z_isinstance gR oR O5 A5
    have Om9 := ok_commonM H9 ZR.cls ZR.no O34 A34 O22 A22
    have O32 := ok_areSame G32 O15 A15 O22 A22
    have Om8 := ok_before H8 ZR.cls ZR.no O34 A34 O22 A22 O15 A15 Om3 Y3.meth B3 O19 A19
    have Om2 := ok_eqM H2 z_isinstance gR oR ZR.no O32 A32
    have Om1 := ok_addM H1 ZR.cls ZR.no RM O33 A33 O34 A34 O16 A16
    have Om5 := ok_plain GP ZR.cls ZR.no Om3 Y3.meth B3 O20 A20 (ZT l.prog base)
    have RK : RowKit l.prog w K mg base CR CO CT (fun i => match i with | 0 => M3 | 1 => M4 | 2 => MP | 3 => M6 | 4 => M7 | 5 => M8 | 6 => M9 | 7 => M2 | _ => M1) (fun i => match i with | 0 => md3 | 1 => md4 | 2 => fdP | 3 => md6 | 4 => md7 | 5 => md8 | 6 => md9 | 7 => md2 | _ => md1) :=
      ⟨ZR.cls, ⟨Om3, Y3.meth, B3⟩, ⟨Om4, Y4.meth, B4⟩, Om5, PL.meth, plainDf GP, plainKw GP, ⟨Om6, Y6.meth, B6⟩, ⟨Om7, Y7.meth, B7⟩, ⟨Om8, Y8.meth, B8⟩, ⟨Om9, Y9.meth, B9⟩, Om2, B2, Om1, B1, RO⟩
    have O36 := ok_begin (P := l.prog) (w := w) (mg := mg) (base := base) G36 z_list z_int z_len
    have O37 := ok_draw (P := l.prog) (w := w) (mg := mg) (base := base) G37 z_int z_len
    have O38 := ok_pick G38 z_len O37 A37
    have O40 := ok_ten (P := l.prog) (w := w) (mg := mg) (base := base) G40 z_int
    have O41 := ok_is (P := l.prog) (w := w) (mg := mg) (base := base) G41
    have O39 := ok_great G39 z_min z_max O37 A37 O38 A38 O40 A40
    have O42 := ok_strips G42 z_tuple z_range O37 A37 O38 A38 O40 A40 O39 A39
    have O43 := ok_bulk (P := l.prog) (w := w) (mg := mg) (base := base) G43 z_sum z_len
    have O44 := ok_number (P := l.prog) (w := w) (mg := mg) (base := base) G44 z_len z_int
    have O45 := ok_oth G45 z_len z_int O37 A37 O39 A39
    have RA : RaiAll l.prog w K mg base CO CT F46 fd46 := ⟨G46, A46, RF⟩
    have O47 := ok_same (T := [(P47, qSame), (P50, qWid)]) C47 z_range O43 A43 O39 A39 O44 A44 RA RK T47 (List.mem_cons_self ..) (fun p hp e => by
      simp only [List.mem_cons, List.not_mem_nil, or_false] at hp
      rcases hp with z | z <;> subst z
      · rfl
      · exact absurd e.symm dif)
    have O48 := ok_cutR G48 z_range z_min z_list O43 A43 O39 A39 O44 A44 O37 A37 O41 A41 RK
    have O49 := ok_parted (a0 := a0) (ds0 := ds0) G49 z_tuple z_int O43 A43 O37 A37 O41 A41 O42 A42 RM RK
    have O50 := ok_wid (T := [(P47, qSame), (P50, qWid)]) C50 z_range z_tuple O40 A40 O39 A39 O44 A44 O37 A37 RA RM RK T50 (List.mem_cons_of_mem _ (List.mem_cons_self ..)) (fun p hp e => by
      simp only [List.mem_cons, List.not_mem_nil, or_false] at hp
      rcases hp with z | z <;> subst z
      · exact absurd e dif
      · rfl)
    exact ok_law G51 z_range O36 A36 O42 A42 O45 A45 O47 A47 O48 A48 O49 A49 O50 A50 RM RK
end K23

local macro_rules | `(tactic| o_headL ($_ $a $b $c)) => `(tactic| o_headL (K23.hookT $a $b $c [406, 425]))
open PySem PySem.W PyProof.Rows
set_option maxRecDepth 100000 in
set_option maxHeartbeats 0 in
theorem PySem.Challenge.cw_growwebs_k24_whole_far_rows_holds : PySem.Challenge.rw_growwebs_k24_whole_far_rows.Holds := by
  w_on; o_law; k_headL; (case hw => w_witness2)
  k_fill
  refine K23.walkG (l := PySem.Challenge.rw_growwebs_k24_whole_far_rows) (n := 63) (k := 12) (x := "_law_script") rfl (by decide) rfl ⟨rfl, by decide, by decide⟩ (fun w h Y => K23.in_left (kIn_of Y)) ?F
  case F =>
    intro w mg fa h Y KX G hmg
    refine' K23.all_mk (P47 := 406) (P50 := 425) KX G hmg ?aW ?ET ?EB ?EO ?sOO ?sTO ?sTT ?ZR ?ZU ?hn ?ht ?II ?UI ?PL ?Y1 ?Y2 ?Y3 ?Y4 ?Y6 ?Y7 ?Y8 ?Y9 ?oNE ?oFS ?oRA ?oNT ?oST ?oSL ?vTA ?vTR ?vLA ?vLR ?a1 ?D1 ?a2 ?D2 ?a3 ?D3 ?a4 ?D4 ?a5 ?D5 ?a15 ?D15 ?a16 ?D16 ?a17 ?D17 ?a18 ?D18 ?a19 ?D19 ?a20 ?D20 ?a21 ?D21 ?a22 ?D22 ?a23 ?D23 ?a24 ?D24 ?a28 ?D28 ?a29 ?D29 ?a30 ?D30 ?a32 ?D32 ?a33 ?D33 ?a34 ?D34 ?a36 ?D36 ?a37 ?D37 ?a38 ?D38 ?a39 ?D39 ?a40 ?D40 ?a41 ?D41 ?a42 ?D42 ?a43 ?D43 ?a44 ?D44 ?a45 ?D45 ?a46 ?D46 ?a47 ?D47 ?a48 ?D48 ?a49 ?D49 ?a50 ?D50 ?a51 ?D51 ?b_tuple ?b_len ?b_sum ?b_list ?b_range ?b_min ?b_max ?b_isinstance ?b_int ?b_bool ?b_all ?b_enumerate ?n0 ?n1 ?n2 ?nM ?hM ?cd47 ?tb47 ?kn47 ?cd50 ?tb50 ?kn50 ?dif
    (case aW => k_is)
    (case ET => (refine' K23.ErrAt.mk ?q_aC (K23.obj_mk ?q_obj) ?q_sa ?q_ga ?q_gg ?q_no ?q_a1 ?q_t1 ?q_df ?q_kC ?q_eC ?q_tC ?q_hC ?q_cl ?q_mo; (case q_aC => k_is); (case q_obj => k_is); (case q_sa => k_is); (case q_ga => k_is); (case q_gg => k_is); (case q_no => k_is); (case q_a1 => k_is); (case q_t1 => k_is); (case q_df => (refine' K23.DefAt.mk' ?q_l ?q_c ?q_k; (case q_l => k_is); (case q_c => k_is); (case q_k => k_is))); (case q_kC => k_is); (case q_eC => k_is); (case q_tC => k_is); (case q_hC => k_is); (case q_cl => k_is); (case q_mo => k_is)))
    (case EB => (refine' K23.ErrAt.mk ?q_aC (K23.obj_mk ?q_obj) ?q_sa ?q_ga ?q_gg ?q_no ?q_a1 ?q_t1 ?q_df ?q_kC ?q_eC ?q_tC ?q_hC ?q_cl ?q_mo; (case q_aC => k_is); (case q_obj => k_is); (case q_sa => k_is); (case q_ga => k_is); (case q_gg => k_is); (case q_no => k_is); (case q_a1 => k_is); (case q_t1 => k_is); (case q_df => (refine' K23.DefAt.mk' ?q_l ?q_c ?q_k; (case q_l => k_is); (case q_c => k_is); (case q_k => k_is))); (case q_kC => k_is); (case q_eC => k_is); (case q_tC => k_is); (case q_hC => k_is); (case q_cl => k_is); (case q_mo => k_is)))
    (case EO => (refine' K23.ErrAt.mk ?q_aC (K23.obj_mk ?q_obj) ?q_sa ?q_ga ?q_gg ?q_no ?q_a1 ?q_t1 ?q_df ?q_kC ?q_eC ?q_tC ?q_hC ?q_cl ?q_mo; (case q_aC => k_is); (case q_obj => k_is); (case q_sa => k_is); (case q_ga => k_is); (case q_gg => k_is); (case q_no => k_is); (case q_a1 => k_is); (case q_t1 => k_is); (case q_df => (refine' K23.DefAt.mk' ?q_l ?q_c ?q_k; (case q_l => k_is); (case q_c => k_is); (case q_k => k_is))); (case q_kC => k_is); (case q_eC => k_is); (case q_tC => k_is); (case q_hC => k_is); (case q_cl => k_is); (case q_mo => k_is)))
    (case sOO => k_is)
    (case sTO => k_is)
    (case sTT => k_is)
    (case ZR => (refine' K23.ClsLeft.mk ?q_aC ?q_pg ?q_hd ?q_po ?q_sa ?q_cl ?q_mo ?q_me ?q_k1 ?q_k2 ?q_k3 ?q_k4 ?q_k5 ?q_k6 ?q_k7 ?q_mks ?q_it ?q_fn ?q_kp ?q_no; (case q_aC => k_is); (case q_pg => k_is); (case q_hd => k_is); (case q_po => k_is); (case q_sa => k_is); (case q_cl => k_is); (case q_mo => k_is); (case q_me => kit_is); (case q_k1 => kit_is); (case q_k2 => kit_is); (case q_k3 => kit_is); (case q_k4 => kit_is); (case q_k5 => kit_is); (case q_k6 => kit_is); (case q_k7 => kit_is); (case q_mks => k_is); (case q_it => k_is); (case q_fn => k_is); (case q_kp => k_is); (case q_no => k_is)))
    (case ZU => (refine' K23.ClsLeft.mk ?q_aC ?q_pg ?q_hd ?q_po ?q_sa ?q_cl ?q_mo ?q_me ?q_k1 ?q_k2 ?q_k3 ?q_k4 ?q_k5 ?q_k6 ?q_k7 ?q_mks ?q_it ?q_fn ?q_kp ?q_no; (case q_aC => k_is); (case q_pg => k_is); (case q_hd => k_is); (case q_po => k_is); (case q_sa => k_is); (case q_cl => k_is); (case q_mo => k_is); (case q_me => kit_is); (case q_k1 => kit_is); (case q_k2 => kit_is); (case q_k3 => kit_is); (case q_k4 => kit_is); (case q_k5 => kit_is); (case q_k6 => kit_is); (case q_k7 => kit_is); (case q_mks => k_is); (case q_it => k_is); (case q_fn => k_is); (case q_kp => k_is); (case q_no => k_is)))
    (case hn => k_is)
    (case ht => k_is)
    (case II => (refine' K23.InitAt.mk' ?q_l ?q_e ?q_l2 ?q_l3 ?q_k; (case q_l => k_is); (case q_e => k_is); (case q_l2 => k_is); (case q_l3 => k_is); (case q_k => k_is)))
    (case UI => (refine' K23.DefAt.mk' ?q_l ?q_c ?q_k; (case q_l => k_is); (case q_c => k_is); (case q_k => k_is)))
    (case PL => (refine' K23.PlainAt.mk' ?q_a ?q_b ?q_l ?q_e ?q_l2 ?q_k; (case q_a => k_is); (case q_b => k_is); (case q_l => k_is); (case q_e => k_is); (case q_l2 => k_is); (case q_k => k_is)))
    (case Y1 => (refine' K23.MethAt.mk ?q_a ?q_f ?q_df; (case q_a => k_is); (case q_f => k_is); (case q_df => (refine' K23.DefAt.mk' ?q_l ?q_c ?q_k; (case q_l => k_is); (case q_c => k_is); (case q_k => k_is)))))
    (case Y2 => (refine' K23.MethAt.mk ?q_a ?q_f ?q_df; (case q_a => k_is); (case q_f => k_is); (case q_df => (refine' K23.DefAt.mk' ?q_l ?q_c ?q_k; (case q_l => k_is); (case q_c => k_is); (case q_k => k_is)))))
    (case Y3 => (refine' K23.MethAt.mk ?q_a ?q_f ?q_df; (case q_a => k_is); (case q_f => k_is); (case q_df => (refine' K23.DefAt.mk' ?q_l ?q_c ?q_k; (case q_l => k_is); (case q_c => k_is); (case q_k => k_is)))))
    (case Y4 => (refine' K23.MethAt.mk ?q_a ?q_f ?q_df; (case q_a => k_is); (case q_f => k_is); (case q_df => (refine' K23.DefAt.mk' ?q_l ?q_c ?q_k; (case q_l => k_is); (case q_c => k_is); (case q_k => k_is)))))
    (case Y6 => (refine' K23.MethAt.mk ?q_a ?q_f ?q_df; (case q_a => k_is); (case q_f => k_is); (case q_df => (refine' K23.DefAt.mk' ?q_l ?q_c ?q_k; (case q_l => k_is); (case q_c => k_is); (case q_k => k_is)))))
    (case Y7 => (refine' K23.MethAt.mk ?q_a ?q_f ?q_df; (case q_a => k_is); (case q_f => k_is); (case q_df => (refine' K23.DefAt.mk' ?q_l ?q_c ?q_k; (case q_l => k_is); (case q_c => k_is); (case q_k => k_is)))))
    (case Y8 => (refine' K23.MethAt.mk ?q_a ?q_f ?q_df; (case q_a => k_is); (case q_f => k_is); (case q_df => (refine' K23.DefAt.mk' ?q_l ?q_c ?q_k; (case q_l => k_is); (case q_c => k_is); (case q_k => k_is)))))
    (case Y9 => (refine' K23.MethAt.mk ?q_a ?q_f ?q_df; (case q_a => k_is); (case q_f => k_is); (case q_df => (refine' K23.DefAt.mk' ?q_l ?q_c ?q_k; (case q_l => k_is); (case q_c => k_is); (case q_k => k_is)))))
    (case oNE => k_is)
    (case oFS => k_is)
    (case oRA => k_is)
    (case oNT => k_is)
    (case oST => k_is)
    (case oSL => k_is)
    (case vTA => (refine' K23.TwoV.mk' ?q_z; (case q_z => k_is)))
    (case vTR => (refine' K23.TwoV.mk' ?q_z; (case q_z => k_is)))
    (case vLA => (refine' K23.TwoV.mk' ?q_z; (case q_z => k_is)))
    (case vLR => (refine' K23.TwoV.mk' ?q_z; (case q_z => k_is)))
    (case a1 => k_is)
    (case D1 => (refine' K23.DefAt.mk' ?q_l ?q_c ?q_k; (case q_l => k_is); (case q_c => k_is); (case q_k => k_is)))
    (case a2 => k_is)
    (case D2 => (refine' K23.DefAt.mk' ?q_l ?q_c ?q_k; (case q_l => k_is); (case q_c => k_is); (case q_k => k_is)))
    (case a3 => k_is)
    (case D3 => (refine' K23.DefAt.mk' ?q_l ?q_c ?q_k; (case q_l => k_is); (case q_c => k_is); (case q_k => k_is)))
    (case a4 => k_is)
    (case D4 => (refine' K23.DefAt.mk' ?q_l ?q_c ?q_k; (case q_l => k_is); (case q_c => k_is); (case q_k => k_is)))
    (case a5 => k_is)
    (case D5 => (refine' K23.DefAt.mk' ?q_l ?q_c ?q_k; (case q_l => k_is); (case q_c => k_is); (case q_k => k_is)))
    (case a15 => k_is)
    (case D15 => (refine' K23.DefAt.mk' ?q_l ?q_c ?q_k; (case q_l => k_is); (case q_c => k_is); (case q_k => k_is)))
    (case a16 => k_is)
    (case D16 => (refine' K23.DefAt.mk' ?q_l ?q_c ?q_k; (case q_l => k_is); (case q_c => k_is); (case q_k => k_is)))
    (case a17 => k_is)
    (case D17 => (refine' K23.DefAt.mk' ?q_l ?q_c ?q_k; (case q_l => k_is); (case q_c => k_is); (case q_k => k_is)))
    (case a18 => k_is)
    (case D18 => (refine' K23.DefAt.mk' ?q_l ?q_c ?q_k; (case q_l => k_is); (case q_c => k_is); (case q_k => k_is)))
    (case a19 => k_is)
    (case D19 => (refine' K23.DefAt.mk' ?q_l ?q_c ?q_k; (case q_l => k_is); (case q_c => k_is); (case q_k => k_is)))
    (case a20 => k_is)
    (case D20 => (refine' K23.DefAt.mk' ?q_l ?q_c ?q_k; (case q_l => k_is); (case q_c => k_is); (case q_k => k_is)))
    (case a21 => k_is)
    (case D21 => (refine' K23.DefAt.mk' ?q_l ?q_c ?q_k; (case q_l => k_is); (case q_c => k_is); (case q_k => k_is)))
    (case a22 => k_is)
    (case D22 => (refine' K23.DefAt.mk' ?q_l ?q_c ?q_k; (case q_l => k_is); (case q_c => k_is); (case q_k => k_is)))
    (case a23 => k_is)
    (case D23 => (refine' K23.DefAt.mk' ?q_l ?q_c ?q_k; (case q_l => k_is); (case q_c => k_is); (case q_k => k_is)))
    (case a24 => k_is)
    (case D24 => (refine' K23.DefAt.mk' ?q_l ?q_c ?q_k; (case q_l => k_is); (case q_c => k_is); (case q_k => k_is)))
    (case a28 => k_is)
    (case D28 => (refine' K23.DefAt.mk' ?q_l ?q_c ?q_k; (case q_l => k_is); (case q_c => k_is); (case q_k => k_is)))
    (case a29 => k_is)
    (case D29 => (refine' K23.DefAt.mk' ?q_l ?q_c ?q_k; (case q_l => k_is); (case q_c => k_is); (case q_k => k_is)))
    (case a30 => k_is)
    (case D30 => (refine' K23.DefAt.mk' ?q_l ?q_c ?q_k; (case q_l => k_is); (case q_c => k_is); (case q_k => k_is)))
    (case a32 => k_is)
    (case D32 => (refine' K23.DefAt.mk' ?q_l ?q_c ?q_k; (case q_l => k_is); (case q_c => k_is); (case q_k => k_is)))
    (case a33 => k_is)
    (case D33 => (refine' K23.DefAt.mk' ?q_l ?q_c ?q_k; (case q_l => k_is); (case q_c => k_is); (case q_k => k_is)))
    (case a34 => k_is)
    (case D34 => (refine' K23.DefAt.mk' ?q_l ?q_c ?q_k; (case q_l => k_is); (case q_c => k_is); (case q_k => k_is)))
    (case a36 => k_is)
    (case D36 => (refine' K23.DefAt.mk' ?q_l ?q_c ?q_k; (case q_l => k_is); (case q_c => k_is); (case q_k => k_is)))
    (case a37 => k_is)
    (case D37 => (refine' K23.DefAt.mk' ?q_l ?q_c ?q_k; (case q_l => k_is); (case q_c => k_is); (case q_k => k_is)))
    (case a38 => k_is)
    (case D38 => (refine' K23.DefAt.mk' ?q_l ?q_c ?q_k; (case q_l => k_is); (case q_c => k_is); (case q_k => k_is)))
    (case a39 => k_is)
    (case D39 => (refine' K23.DefAt.mk' ?q_l ?q_c ?q_k; (case q_l => k_is); (case q_c => k_is); (case q_k => k_is)))
    (case a40 => k_is)
    (case D40 => (refine' K23.DefAt.mk' ?q_l ?q_c ?q_k; (case q_l => k_is); (case q_c => k_is); (case q_k => k_is)))
    (case a41 => k_is)
    (case D41 => (refine' K23.DefAt.mk' ?q_l ?q_c ?q_k; (case q_l => k_is); (case q_c => k_is); (case q_k => k_is)))
    (case a42 => k_is)
    (case D42 => (refine' K23.DefAt.mk' ?q_l ?q_c ?q_k; (case q_l => k_is); (case q_c => k_is); (case q_k => k_is)))
    (case a43 => k_is)
    (case D43 => (refine' K23.DefAt.mk' ?q_l ?q_c ?q_k; (case q_l => k_is); (case q_c => k_is); (case q_k => k_is)))
    (case a44 => k_is)
    (case D44 => (refine' K23.DefAt.mk' ?q_l ?q_c ?q_k; (case q_l => k_is); (case q_c => k_is); (case q_k => k_is)))
    (case a45 => k_is)
    (case D45 => (refine' K23.DefAt.mk' ?q_l ?q_c ?q_k; (case q_l => k_is); (case q_c => k_is); (case q_k => k_is)))
    (case a46 => k_is)
    (case D46 => (refine' K23.DefAt.mk' ?q_l ?q_c ?q_k; (case q_l => k_is); (case q_c => k_is); (case q_k => k_is)))
    (case a47 => k_is)
    (case D47 => (refine' K23.CodeAt.mk' ?q_l ?q_c ?q_k; (case q_l => k_is); (case q_c => k_is); (case q_k => k_is)))
    (case a48 => k_is)
    (case D48 => (refine' K23.DefAt.mk' ?q_l ?q_c ?q_k; (case q_l => k_is); (case q_c => k_is); (case q_k => k_is)))
    (case a49 => k_is)
    (case D49 => (refine' K23.DefAt.mk' ?q_l ?q_c ?q_k; (case q_l => k_is); (case q_c => k_is); (case q_k => k_is)))
    (case a50 => k_is)
    (case D50 => (refine' K23.CodeAt.mk' ?q_l ?q_c ?q_k; (case q_l => k_is); (case q_c => k_is); (case q_k => k_is)))
    (case a51 => k_is)
    (case D51 => (refine' K23.DefAt.mk' ?q_l ?q_c ?q_k; (case q_l => k_is); (case q_c => k_is); (case q_k => k_is)))
    (case b_tuple => k_is)
    (case b_len => k_is)
    (case b_sum => k_is)
    (case b_list => k_is)
    (case b_range => k_is)
    (case b_min => k_is)
    (case b_max => k_is)
    (case b_isinstance => k_is)
    (case b_int => k_is)
    (case b_bool => k_is)
    (case b_all => k_is)
    (case b_enumerate => k_is)
    (case n0 => k_is)
    (case n1 => k_is)
    (case n2 => k_is)
    (case nM => k_is)
    (case hM => decide +kernel)
    (case cd47 => exact codeHd_of_K KX (by kernel_rfl))
    (case tb47 => exact kIn_of Y _ _ (by kernel_rfl))
    (case kn47 => kernel_rfl)
    (case cd50 => exact codeHd_of_K KX (by kernel_rfl))
    (case tb50 => exact kIn_of Y _ _ (by kernel_rfl))
    (case kn50 => kernel_rfl)
    (case dif => decide)
