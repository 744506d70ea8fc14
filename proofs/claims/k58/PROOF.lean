import PyProof.Rows.All
import Wide.All
import OpenK.AllK
import Wide.FinOn
import HandS.ForMost
import HandS.ForExc
import HandS.Conv
import HandS.Wide
import HandS.Codes
import HandS.Walk
import HandS.TupAny
import HandS.Flow
import HandS.IsInst
import HandS.Lambda
import HandS.Defaults
import HandS.Deep
import HandS.WideBits
import HandS.Text
import HandS.Base
import HandS.Call
import HandS.List
import HandS.Exc
import HandS.ExcOwn
import HandS.ExcInit
import HandS.ExcIs
import HandS.ExcValue
import HandS.MakeKw
import HandS.Words
import HandS.WordsExc
import KE.KExcIs
import HandS.Small
import HandS.Style
import HandS.ExcField
import HandS.TryMany
import HandS.RaiseMore
import HandS.Star
import HandS.SlotsOwn
import HandS.OwnEq
import KE.KOpsOwn
import PyProof.InstEq
import HandS.TupSets
import HandS.SetKeys
import HandS.Strs
import HandS.More
import PyProof.CollectStr
import HandS.SortInts
import PyProof.ListStr
import KE.KRevSl
import PyProof.SliceStr2
import HandS.DictComp
import HandS.DeepEq
import HandS.ListItems
import PyProof.NeKinds
import HandS.MakeKwOnly
import HandS.EndBits
import PyProof.StrLawsIn
import KE.OsRunLaw
import KE.KNestM
import PySem.Challenge.RW_growwebs_k58_rules_and_refusals
set_option Elab.async false
set_option linter.all false
set_option maxRecDepth 100000
set_option maxHeartbeats 4000000
/-! Pu: what a Python text computes, over plain data: no heap in the answers. -/
namespace Pu
open PySem PySem.Spec PyProof.Rows L2
open LamX (Tabs)

/-- plain data -/
inductive D where
  | non | bl (b : Bool) | int (i : Int) | str (z : Str) | ty (n : String) | fn (a : Addr)
  | lst (xs : List D) | tup (xs : List D) | dic (kvs : List (Key × D)) | ins (C : Addr) (fs : List (Str × D))
  /-- a list that nobody changes (the script) -/
  | frl (xs : List D)
/-- what a name may hold: data, or a thing of the store -/
inductive Sl where
  | dat (d : D) | opq (i : Nat)
/-- an exception: its class, its fields -/
structure Er where
  C : Addr
  fs : Option (List (Str × D))
/-- a thing of the store -/
inductive MO where
  | lst (xs : List Sl) | dic (kvs : List (Key × D)) | ins (C : Addr) (fs : List (Str × D)) | fz (d : D)
abbrev Mem := List MO
abbrev Rho := List (Option Sl)
abbrev Re (α : Type) := Option (Except Er α × Mem)

/-- a tuple -/
def TupW (_ : PySem.W.Frag) (H : Hp) (a : Addr) (xs : List V) : Prop := H a = some (.tup xs)
theorem TupW.sq {K : PySem.W.Frag} {H : Hp} {a : Addr} {xs : List V} (h : TupW K H a xs) : SqT K H a xs := .inl (.inl h)
theorem TupW.same {K : PySem.W.Frag} {H H' : Hp} {a : Addr} {xs : List V} (h : TupW K H a xs) (s : Same H H') : TupW K H' a xs := s _ _ h
mutual
inductive Is (K : PySem.W.Frag) (H : Hp) : V → D → Prop where
  | non : Is K H .non .non
  | bl (b : Bool) : Is K H (.bl b) (.bl b)
  | int (i : Int) : Is K H (.int i) (.int i)
  | str (z : Str) : Is K H (.str z) (.str z)
  | ty (n : String) : Is K H (.ty n) (.ty n)
  | fn (a : Addr) : Is K H (.ref a) (.fn a)
  | lst {a : Addr} {vs : List V} {xs : List D} (h : H a = some (.lst vs)) (t : IsAll K H vs xs) : Is K H (.ref a) (.lst xs)
  | tup {a : Addr} {vs : List V} {xs : List D} (h : TupW K H a vs) (t : IsAll K H vs xs) : Is K H (.ref a) (.tup xs)
  | dic {a : Addr} {o : Obj} {kvs : List (Key × V)} {ds : List (Key × D)} (h : H a = some (.frz o (.dK kvs))) (t : IsKv K H kvs ds) : Is K H (.ref a) (.dic ds)
  | ins {a C dx : Addr} {fs : List (Str × V)} {gs : List (Str × D)} (h : H a = some (.ins C dx fs)) (t : IsFs K H fs gs) : Is K H (.ref a) (.ins C gs)
  | frl {a : Addr} {vs : List V} {xs : List D} (h : SqL K H a vs) (t : IsAll K H vs xs) : Is K H (.ref a) (.frl xs)
inductive IsAll (K : PySem.W.Frag) (H : Hp) : List V → List D → Prop where
  | nil : IsAll K H [] []
  | cons {v : V} {d : D} {vs : List V} {ds : List D} (h : Is K H v d) (t : IsAll K H vs ds) : IsAll K H (v :: vs) (d :: ds)
inductive IsKv (K : PySem.W.Frag) (H : Hp) : List (Key × V) → List (Key × D) → Prop where
  | nil : IsKv K H [] []
  | cons {k : Key} {v : V} {d : D} {vs : List (Key × V)} {ds : List (Key × D)} (h : Is K H v d) (t : IsKv K H vs ds) : IsKv K H ((k, v) :: vs) ((k, d) :: ds)
inductive IsFs (K : PySem.W.Frag) (H : Hp) : List (Str × V) → List (Str × D) → Prop where
  | nil : IsFs K H [] []
  | cons {k : Str} {v : V} {d : D} {vs : List (Str × V)} {ds : List (Str × D)} (h : Is K H v d) (t : IsFs K H vs ds) : IsFs K H ((k, v) :: vs) ((k, d) :: ds)
end

section
variable {K : PySem.W.Frag} {T : List (Addr × Str)} {H H' : Hp}
theorem sameT {a : Addr} {xs : List V} (s : Same H H') (h : SqT K H a xs) : SqT K H' a xs := by
  rcases h with (h | ⟨o, h⟩) | h
  · exact .inl (.inl (s _ _ h))
  · exact .inl (.inr ⟨o, s _ _ h⟩)
  · exact .inr h
mutual
theorem Is.same (s : Same H H') : ∀ {v : V} {d : D}, Is K H v d → Is K H' v d
  | _, _, .non => .non
  | _, _, .bl b => .bl b
  | _, _, .int i => .int i
  | _, _, .str z => .str z
  | _, _, .ty n => .ty n
  | _, _, .fn a => .fn a
  | _, _, .lst h t => .lst (s _ _ h) (IsAll.same s t)
  | _, _, .tup h t => .tup (h.same s) (IsAll.same s t)
  | _, _, .dic h t => .dic (s _ _ h) (IsKv.same s t)
  | _, _, .ins h t => .ins (s _ _ h) (IsFs.same s t)
  | _, _, .frl h t => .frl (s.seq h) (IsAll.same s t)
theorem IsAll.same (s : Same H H') : ∀ {vs : List V} {ds : List D}, IsAll K H vs ds → IsAll K H' vs ds
  | _, _, .nil => .nil
  | _, _, .cons h t => .cons (Is.same s h) (IsAll.same s t)
theorem IsKv.same (s : Same H H') : ∀ {vs : List (Key × V)} {ds : List (Key × D)}, IsKv K H vs ds → IsKv K H' vs ds
  | _, _, .nil => .nil
  | _, _, .cons h t => .cons (Is.same s h) (IsKv.same s t)
theorem IsFs.same (s : Same H H') : ∀ {vs : List (Str × V)} {ds : List (Str × D)}, IsFs K H vs ds → IsFs K H' vs ds
  | _, _, .nil => .nil
  | _, _, .cons h t => .cons (Is.same s h) (IsFs.same s t)
end
theorem IsAll.len : ∀ {vs : List V} {ds : List D}, IsAll K H vs ds → vs.length = ds.length
  | _, _, .nil => rfl
  | _, _, .cons _ t => congrArg Nat.succ (IsAll.len t)
theorem IsAll.append {us : List V} {es : List D} (h : IsAll K H us es) : ∀ {vs : List V} {ds : List D}, IsAll K H vs ds → IsAll K H (vs ++ us) (ds ++ es)
  | _, _, .nil => h
  | _, _, .cons r t => .cons r (IsAll.append h t)
theorem IsAll.get : ∀ {vs : List V} {ds : List D} {i : Nat} {v : V}, IsAll K H vs ds → vs[i]? = some v → ∃ d, ds[i]? = some d ∧ Is K H v d
  | _, _, _, _, .nil, e => by simp at e
  | _, _, 0, _, .cons r _, e => by simp at e; subst e; exact ⟨_, rfl, r⟩
  | _, _, i + 1, _, .cons _ t, e => by
    simp only [List.getElem?_cons_succ] at e ⊢
    exact IsAll.get t e
theorem IsAll.get' : ∀ {vs : List V} {ds : List D} {i : Nat} {d : D}, IsAll K H vs ds → ds[i]? = some d → ∃ v, vs[i]? = some v ∧ Is K H v d
  | _, _, _, _, .nil, e => by simp at e
  | _, _, 0, _, .cons r _, e => by simp at e; subst e; exact ⟨_, rfl, r⟩
  | _, _, i + 1, _, .cons _ t, e => by
    simp only [List.getElem?_cons_succ] at e ⊢
    exact IsAll.get' t e
theorem IsAll.take (n : Nat) : ∀ {vs : List V} {ds : List D}, IsAll K H vs ds → IsAll K H (vs.take n) (ds.take n) := by
  induction n with
  | zero => intro vs ds _; exact .nil
  | succ n ih => intro vs ds h; cases h with
    | nil => exact .nil
    | cons r t => exact .cons r (ih t)
theorem IsAll.drop (n : Nat) : ∀ {vs : List V} {ds : List D}, IsAll K H vs ds → IsAll K H (vs.drop n) (ds.drop n) := by
  induction n with
  | zero => intro vs ds h; exact h
  | succ n ih => intro vs ds h; cases h with
    | nil => exact .nil
    | cons r t => exact ih t
theorem IsAll.rev : ∀ {vs : List V} {ds : List D}, IsAll K H vs ds → IsAll K H vs.reverse ds.reverse
  | _, _, .nil => .nil
  | _, _, .cons r t => by
    rw [List.reverse_cons, List.reverse_cons]
    exact IsAll.append (.cons r .nil) (IsAll.rev t)
theorem IsKv.len : ∀ {vs : List (Key × V)} {ds : List (Key × D)}, IsKv K H vs ds → vs.length = ds.length
  | _, _, .nil => rfl
  | _, _, .cons _ t => congrArg Nat.succ (IsKv.len t)
theorem IsFs.look {f : Str} : ∀ {vs : List (Str × V)} {ds : List (Str × D)} {d : D}, IsFs K H vs ds → ds.lookup f = some d → ∃ v, vs.lookup f = some v ∧ Is K H v d
  | _, _, _, .nil, e => by simp at e
  | _, _, d, .cons (k := k) r t, e => by
    rw [List.lookup_cons] at e ⊢
    cases h : f == k with
    | true => rw [h] at e; simp only [Option.some.injEq] at e ⊢; subst e; exact ⟨_, rfl, r⟩
    | false => rw [h] at e; simp only at e ⊢; exact IsFs.look t e
theorem IsFs.lookN {f : Str} : ∀ {vs : List (Str × V)} {ds : List (Str × D)}, IsFs K H vs ds → ds.lookup f = none → vs.lookup f = none
  | _, _, .nil, _ => rfl
  | _, _, .cons (k := k) r t, e => by
    rw [List.lookup_cons] at e ⊢
    cases h : f == k with
    | true => rw [h] at e; simp at e
    | false => rw [h] at e; simp only at e ⊢; exact IsFs.lookN t e
end

/-- what stands behind a name -/
inductive IsS (K : PySem.W.Frag) (H0 : Hp) (am : List Addr) : V → Sl → Prop where
  | dat {v : V} {d : D} (h : Is K H0 v d) : IsS K H0 am v (.dat d)
  | opq {i : Nat} {a : Addr} (h : am[i]? = some a) : IsS K H0 am (.ref a) (.opq i)
def MIs (K : PySem.W.Frag) (H0 : Hp) (am : List Addr) (u : HO) : MO → Prop
  | .lst xs => ∃ vs, u = .lst vs ∧ Paired (IsS K H0 am) vs xs
  | .dic ds => ∃ kvs, u = .dK kvs ∧ IsKv K H0 kvs ds
  | .ins C gs => ∃ dx fs, u = .ins C dx fs ∧ IsFs K H0 fs gs
  | .fz _ => False
/-- nothing, or a table -/
def Fre (H : Hp) (a : Addr) : Prop := ∀ o, H a = some o → ∃ ps, o = .tbl ps
theorem Fre.none {H : Hp} {a : Addr} (h : H a = Option.none) : Fre H a := fun o e => by rw [h] at e; cases e
theorem not_fre {H : Hp} {a : Addr} {o : HO} (h : H a = some o) (n : ∀ ps, o ≠ .tbl ps) : ¬ Fre H a := fun z => by
  obtain ⟨ps, e⟩ := z o h
  exact n ps e
theorem of_not_fre {H : Hp} {a : Addr} (h : ¬ Fre H a) : ∃ o, H a = some o ∧ ∀ ps, o ≠ .tbl ps := by
  cases e : H a with
  | none => exact absurd (Fre.none e) h
  | some o => exact ⟨o, rfl, fun ps z => h fun u hu => ⟨ps, by rw [e] at hu; cases hu; exact z⟩⟩
/-- the store -/
structure MOk (K : PySem.W.Frag) (T : List (Addr × Str)) (H0 : Hp) (am : List Addr) (H : Hp) (m : Mem) : Prop where
  len : am.length = m.length
  nd : am.Nodup
  is : ∀ (i : Nat) (o : MO), m[i]? = some o → ∃ a, am[i]? = some a ∧ ((∃ u, H0 a = none ∧ H a = some u ∧ MIs K H0 am u o) ∨ ∃ d, o = .fz d ∧ Is K H0 (.ref a) d)
  sub : Same H0 H
  tr : ∀ a ∈ am, ¬ Fre H a
  nt : ∀ a ps, H0 a ≠ some (.tbl ps)
  tb : Tabs T H
def EnvOk (K : PySem.W.Frag) (H0 : Hp) (am : List Addr) (ρ : Rho) (σ : L2.St) : Prop :=
  ρ.length = σ.length ∧ ∀ (i : Nat) (s : Sl), ρ[i]? = some (some s) → ∃ v, σ[i]? = some (some v) ∧ IsS K H0 am v s
/-- a thing that does not become data by itself -/
def Stay (H : Hp) (a : Addr) : Prop := ∃ o, H a = some o ∧ (∀ ps, o ≠ .tbl ps) ∧ (∀ xs, o ≠ .tup xs) ∧ ∀ C dx fs, o ≠ .ins C dx fs
theorem Stay.nf {H : Hp} {a : Addr} (h : Stay H a) : ¬ Fre H a := by
  obtain ⟨o, e, n, _⟩ := h
  exact not_fre e n
/-- what a step may do to the heaps -/
structure Ex (H0 H H1 H' : Hp) (am am' : List Addr) : Prop where
  s0 : Same H0 H1
  pre : ∃ r, am' = am ++ r ∧ ∀ a ∈ r, Fre H a
  fr : ∀ a o, H a = some o → (∀ ps, o ≠ .tbl ps) → a ∉ am → H' a = some o
  kp : ∀ a, Fre H' a → Fre H a
  nw : ∀ a, a ∉ am → H0 a = none → Stay H a → H1 a = none
theorem Ex.refl {H0 H : Hp} {am : List Addr} : Ex H0 H H0 H am am := ⟨Same.refl _, ⟨[], by simp, by simp⟩, fun _ _ h _ _ => h, fun _ h => h, fun _ _ h _ => h⟩
theorem Ex.trans {H0 H H1 H' H2 H'' : Hp} {am am1 am2 : List Addr} (a : Ex H0 H H1 H' am am1) (b : Ex H1 H' H2 H'' am1 am2) : Ex H0 H H2 H'' am am2 := by
  obtain ⟨r, e1, h1⟩ := a.pre
  obtain ⟨r2, e2, h2⟩ := b.pre
  refine ⟨a.s0.trans b.s0, ⟨r ++ r2, by rw [e2, e1, List.append_assoc], fun c hc => ?_⟩, fun c o h t n => b.fr c o (a.fr c o h t n) t ?_, fun c h => a.kp c (b.kp c h), fun c n h k => b.nw c ?_ (a.nw c n h k) (by obtain ⟨o, e, t, u⟩ := k; exact ⟨o, a.fr c o e t n, t, u⟩)⟩
  · rcases List.mem_append.mp hc with z | z
    · exact h1 c z
    · exact a.kp c (h2 c z)
  · rw [e1, List.mem_append]
    rintro (z | z)
    · exact n z
    · exact not_fre h t (h1 c z)
  · rw [e1, List.mem_append]
    rintro (z | z)
    · exact n z
    · exact k.nf (h1 c z)
theorem Ex.get {H0 H H1 H' : Hp} {am am' : List Addr} (a : Ex H0 H H1 H' am am') {i : Nat} {x : Addr} (h : am[i]? = some x) : am'[i]? = some x := by
  obtain ⟨r, e, _⟩ := a.pre
  rw [e, List.getElem?_append_left (List.getElem?_eq_some_iff.mp h).1]
  exact h
section
variable {K : PySem.W.Frag} {T : List (Addr × Str)} {H0 H H1 H' : Hp} {am am' : List Addr}
theorem IsS.ex {v : V} {s : Sl} (h : IsS K H0 am v s) (e : Ex H0 H H1 H' am am') : IsS K H1 am' v s := by
  cases h with
  | dat h => exact .dat (h.same e.s0)
  | opq h => exact .opq (e.get h)
theorem PS.ex {vs : List V} {ss : List Sl} (h : Paired (IsS K H0 am) vs ss) (e : Ex H0 H H1 H' am am') : Paired (IsS K H1 am') vs ss := L2.Paired.mapP h fun _ _ z => z.ex e
theorem EnvOk.ex {ρ : Rho} {σ : L2.St} (h : EnvOk K H0 am ρ σ) (e : Ex H0 H H1 H' am am') : EnvOk K H1 am' ρ σ := ⟨h.1, fun i s q => by
  obtain ⟨v, e1, z⟩ := h.2 i s q
  exact ⟨v, e1, z.ex e⟩⟩
theorem EnvOk.set {ρ : Rho} {σ : L2.St} (h : EnvOk K H0 am ρ σ) {i : Nat} {v : V} {s : Sl} (z : IsS K H0 am v s) : EnvOk K H0 am (ρ.set i (some s)) (σ.set i (some v)) := by
  refine ⟨by rw [List.length_set, List.length_set]; exact h.1, fun j t q => ?_⟩
  by_cases c : i = j
  · subst c
    have hl : i < ρ.length := by
      have := (List.getElem?_eq_some_iff.mp q).1
      rwa [List.length_set] at this
    rw [List.getElem?_set_self hl] at q
    cases q
    exact ⟨v, by rw [List.getElem?_set_self (by rw [← h.1]; exact hl)], z⟩
  · rw [List.getElem?_set_ne c] at q
    obtain ⟨u, e, z'⟩ := h.2 j t q
    exact ⟨u, by rw [List.getElem?_set_ne c]; exact e, z'⟩
end
/-- only new things are made -/
structure Nw (H0 H H1 H' : Hp) : Prop where
  s0 : Same H0 H1
  s : Same H H'
  sub : Same H1 H'
  new : ∀ a, H0 a = none → H a ≠ none → H1 a = none
  nt : ∀ a ps, H1 a = some (.tbl ps) → H0 a = some (.tbl ps)
section
variable {K : PySem.W.Frag} {T : List (Addr × Str)} {H0 H H1 H' H2 H'' : Hp} {am am' : List Addr} {m : Mem}
theorem Nw.refl (s : Same H0 H) : Nw H0 H H0 H := ⟨.refl _, .refl _, s, fun _ h _ => h, fun _ _ h => h⟩
theorem Nw.trans (a : Nw H0 H H1 H') (b : Nw H1 H' H2 H'') : Nw H0 H H2 H'' := ⟨a.s0.trans b.s0, a.s.trans b.s, b.sub, fun c h n => b.new c (a.new c h n) fun z => n (a.s.free z), fun c ps h => a.nt c ps (b.nt c ps h)⟩
theorem Same.new {H : Hp} {t : Addr} {o : HO} (h : H t = none) : Same H (upd H t o) := fun b u e => by
  rw [upd_ne (ne_of_none e h)]
  exact e
theorem Nw.alloc (s : Same H0 H) {p : Addr} {o : HO} (hp : H p = none) (ht : ∀ ps, o ≠ .tbl ps := by intro ps z; cases z) : Nw H0 H (upd H0 p o) (upd H p o) := by
  have h0 : H0 p = none := s.free hp
  refine ⟨Same.new h0, Same.new hp, fun b u e => ?_, fun a h n => ?_, fun a ps h => ?_⟩
  · by_cases c : b = p
    · subst c
      rw [upd_same] at e ⊢
      exact e
    · rw [upd_ne c] at e ⊢
      exact s _ _ e
  · by_cases c : a = p
    · subst c
      exact absurd hp n
    · rw [upd_ne c]
      exact h
  · by_cases c : a = p
    · subst c
      rw [upd_same] at h
      exact absurd (Option.some.inj h) (ht ps)
    · rw [upd_ne c] at h
      exact h
theorem Nw.ex (a : Nw H0 H H1 H') : Ex H0 H H1 H' am am := ⟨a.s0, ⟨[], by simp, by simp⟩, fun b o h _ _ => a.s b o h, fun b h o e => h o (a.s _ _ e), fun b _ h k => a.new b h fun z => k.nf (Fre.none z)⟩
theorem MIs.ex {u : HO} {o : MO} (h : MIs K H0 am u o) (e : Ex H0 H H1 H' am am') : MIs K H1 am' u o := by
  cases o with
  | lst xs => obtain ⟨vs, e1, t⟩ := h; exact ⟨vs, e1, PS.ex t e⟩
  | dic ds => obtain ⟨vs, e1, t⟩ := h; exact ⟨vs, e1, t.same e.s0⟩
  | ins C gs => obtain ⟨dx, fs, e1, t⟩ := h; exact ⟨dx, fs, e1, t.same e.s0⟩
  | fz d => exact h.elim
theorem MOk.nw (mo : MOk K T H0 am H m) (a : Nw H0 H H1 H') : MOk K T H1 am H' m := ⟨mo.len, mo.nd, fun i o h => by
  obtain ⟨b, e1, ⟨u, e2, e3, q⟩ | ⟨d, e2, q⟩⟩ := mo.is i o h
  · exact ⟨b, e1, .inl ⟨u, a.new b e2 (by rw [e3]; exact fun z => nomatch z), a.s _ _ e3, q.ex a.ex⟩⟩
  · exact ⟨b, e1, .inr ⟨d, e2, q.same a.s0⟩⟩, a.sub, fun b h z => mo.tr b h (fun o e => z o (a.s _ _ e)), fun b ps h => mo.nt b ps (a.nt b ps h), mo.tb.ext a.s⟩
end

/-- the end of a step: what its result must be good for -/
def Glo (K : PySem.W.Frag) (T : List (Addr × Str)) (E : XK) {α β : Type} (Rel : Hp → List Addr → β → α → Prop) (H0 H : Hp) (am : List Addr) (r : Except Er α) (m' : Mem) (Q : β → Hp → Prop) : Prop :=
  match r with
  | .ok d => ∀ v H1 H' am', Ex H0 H H1 H' am am' → MOk K T H1 am' H' m' → Rel H1 am' v d → Q v H'
  | .error e => ∀ H1 H' am', Ex H0 H H1 H' am am' → MOk K T H1 am' H' m' → match e.fs with
    | none => E (.ref e.C) none H'
    | some gs => ∀ x H2 H'' fs, Nw H1 H' H2 H'' → H' x = none → H'' x = some (.xd fs) → IsFs K H2 fs gs → E (.ref e.C) (some x) H''
theorem Glo.ex {K : PySem.W.Frag} {T : List (Addr × Str)} {E : XK} {α β : Type} {Rel : Hp → List Addr → β → α → Prop} {H0 H H1 H' : Hp} {am am' : List Addr} {r : Except Er α} {m' : Mem} {Q : β → Hp → Prop} (g : Glo K T E Rel H0 H am r m' Q) (e : Ex H0 H H1 H' am am') :
    Glo K T E Rel H1 H' am' r m' Q := by
  cases r with
  | ok d => exact fun v H2 H'' am2 e2 mo q => g v H2 H'' am2 (e.trans e2) mo q
  | error x => exact fun H2 H'' am2 e2 mo => g H2 H'' am2 (e.trans e2) mo
def SdAt (K : PySem.W.Frag) (T : List (Addr × Str)) (E : XK) {α β : Type} (Rel : Hp → List Addr → β → α → Prop) (H0 : Hp) (am : List Addr) (H : Hp) (t : L2.St → Hp → (β → Hp → Prop) → Prop) (f : Rho → Mem → Re α) : Prop :=
  ∀ ρ m σ r m' Q, MOk K T H0 am H m → EnvOk K H0 am ρ σ → f ρ m = some (r, m') → Glo K T E Rel H0 H am r m' Q → t σ H Q
def Sd (K : PySem.W.Frag) (T : List (Addr × Str)) (E : XK) {α β : Type} (Rel : Hp → List Addr → β → α → Prop) (t : L2.St → Hp → (β → Hp → Prop) → Prop) (f : Rho → Mem → Re α) : Prop := ∀ H0 am H, SdAt K T E Rel H0 am H t f
def bindR {α β : Type} (x : Re α) (g : α → Mem → Re β) : Re β := match x with
  | some (.ok a, m) => g a m
  | some (.error e, m) => some (.error e, m)
  | none => none
def bindD {α β : Type} (f : Rho → Mem → Re α) (g : α → Rho → Mem → Re β) : Rho → Mem → Re β := fun ρ m => bindR (f ρ m) fun a m' => g a ρ m'
def retD {α : Type} (a : α) : Rho → Mem → Re α := fun _ m => some (.ok a, m)
section
variable {K : PySem.W.Frag} {T : List (Addr × Str)} {E : XK} {α β γ δ : Type} {R1 : Hp → List Addr → β → α → Prop} {R2 : Hp → List Addr → δ → γ → Prop}
theorem SdAt.bind {H0 : Hp} {am : List Addr} {H : Hp} {t : L2.St → Hp → (β → Hp → Prop) → Prop} {f : Rho → Mem → Re α} {u : β → L2.St → Hp → (δ → Hp → Prop) → Prop} {g : α → Rho → Mem → Re γ}
    (h1 : SdAt K T E R1 H0 am H t f) (h2 : ∀ H1 H' am' x a, Ex H0 H H1 H' am am' → R1 H1 am' x a → SdAt K T E R2 H1 am' H' (u x) (g a)) : SdAt K T E R2 H0 am H (fun σ H Q => t σ H fun x H1 => u x σ H1 Q) (bindD f g) := by
  intro ρ m σ r m' Q mo eo e gl
  simp only [bindD, bindR] at e
  cases hf : f ρ m with
  | none => rw [hf] at e; cases e
  | some z =>
    obtain ⟨z, m1⟩ := z
    rw [hf] at e
    cases z with
    | ok a => exact h1 ρ m σ (.ok a) m1 _ mo eo hf fun v H1 H' am' ex mo' q => h2 H1 H' am' v a ex q ρ m1 σ r m' Q mo' (eo.ex ex) e (gl.ex ex)
    | error x =>
      cases e
      exact h1 ρ m σ (.error x) _ _ mo eo hf gl
theorem Sd.bind {t : L2.St → Hp → (β → Hp → Prop) → Prop} {f : Rho → Mem → Re α} {u : β → L2.St → Hp → (δ → Hp → Prop) → Prop} {g : α → Rho → Mem → Re γ}
    (h1 : Sd K T E R1 t f) (h2 : ∀ H0 H am x a, R1 H0 am x a → SdAt K T E R2 H0 am H (u x) (g a)) : Sd K T E R2 (fun σ H Q => t σ H fun x H1 => u x σ H1 Q) (bindD f g) :=
  fun H0 am H => (h1 H0 am H).bind fun H1 H' am' x a _ q => h2 H1 H' am' x a q
theorem SdAt.ret {H0 : Hp} {am : List Addr} {H : Hp} {v : β} {a : α} (h : R1 H0 am v a) : SdAt K T E R1 H0 am H (fun _ H Q => Q v H) (retD a) := by
  intro ρ m σ r m' Q mo eo e gl
  unfold retD at e
  cases e
  exact gl v H0 H am Ex.refl mo h
end

/-- the reading that f tells -/
def tOf (K : PySem.W.Frag) (T : List (Addr × Str)) (E : XK) {α β : Type} (Rel : Hp → List Addr → β → α → Prop) (f : Rho → Mem → Re α) : L2.St → Hp → (β → Hp → Prop) → Prop := fun σ H Q =>
  ∃ ρ m H0 am r m', MOk K T H0 am H m ∧ EnvOk K H0 am ρ σ ∧ f ρ m = some (r, m') ∧ Glo K T E Rel H0 H am r m' Q
theorem sd_tOf {K : PySem.W.Frag} {T : List (Addr × Str)} {E : XK} {α β : Type} {Rel : Hp → List Addr → β → α → Prop} {f : Rho → Mem → Re α} : Sd K T E Rel (tOf K T E Rel f) f := fun H0 am H ρ m σ r m' Q mo eo e gl => ⟨ρ, m, H0, am, r, m', mo, eo, e, gl⟩
theorem Sd.can {K : PySem.W.Frag} {T : List (Addr × Str)} {E : XK} {α β : Type} {Rel : Hp → List Addr → β → α → Prop} {t : L2.St → Hp → (β → Hp → Prop) → Prop} {f : Rho → Mem → Re α} (h : Sd K T E Rel t f) : ∀ σ H Q, tOf K T E Rel f σ H Q → t σ H Q :=
  fun σ H Q ⟨ρ, m, H0, am, r, m', mo, eo, e, gl⟩ => h H0 am H ρ m σ r m' Q mo eo e gl
/-! ### the judgements -/
abbrev IsT (_ : Hp) (_ : List Addr) (b c : Bool) : Prop := b = c
structure PX (X : Cx) (T : List (Addr × Str)) (E : XK) (e : Expr) (f : Rho → Mem → Re Sl) : Prop where
  ex : ∃ t, PE X e t ∧ Sd X.K T E (IsS X.K) t f
theorem PX.can {X : Cx} {T : List (Addr × Str)} {E : XK} {e : Expr} {f : Rho → Mem → Re Sl} (h : PX X T E e f) : PE X e (tOf X.K T E (IsS X.K) f) := by
  obtain ⟨t, p, s⟩ := h
  exact ⟨fun pins sh σ H Q I q => p.run pins sh σ H Q I (s.can σ H Q q)⟩
structure PTX (X : Cx) (T : List (Addr × Str)) (E : XK) (e : Expr) (f : Rho → Mem → Re Bool) : Prop where
  ex : ∃ t, PT X e t ∧ Sd X.K T E IsT t f
theorem PTX.can {X : Cx} {T : List (Addr × Str)} {E : XK} {e : Expr} {f : Rho → Mem → Re Bool} (h : PTX X T E e f) : PT X e (tOf X.K T E IsT f) := by
  obtain ⟨t, p, s⟩ := h
  exact ⟨fun pins sh σ H Q I q => p.run pins sh σ H Q I (s.can σ H Q q)⟩
structure PWX (X : Cx) (T : List (Addr × Str)) (E : XK) (e : Expr) (f : Rho → Mem → Re Bool) : Prop where
  ex : ∃ t, PW X e t ∧ Sd X.K T E IsT t f
structure PAX (X : Cx) (T : List (Addr × Str)) (E : XK) (es : List Expr) (f : Rho → Mem → Re (List Sl)) : Prop where
  ex : ∃ t, PA X es t ∧ Sd X.K T E (fun H0 am => Paired (IsS X.K H0 am)) t f
  len : ∀ ρ m ss m', f ρ m = some (.ok ss, m') → ss.length = es.length
inductive Out where
  | nx (ρ : Rho) | rt (s : Sl) | bk (ρ : Rho) | ct (ρ : Rho) | er (e : Er)
abbrev RS := Option (Out × Mem)
def GlS (K : PySem.W.Frag) (T : List (Addr × Str)) (E : XK) (H0 H : Hp) (am : List Addr) (o : Out) (m' : Mem) (D : Ends) : Prop :=
  match o with
  | .nx ρ => ∀ σ H1 H' am', Ex H0 H H1 H' am am' → MOk K T H1 am' H' m' → EnvOk K H1 am' ρ σ → D.nx σ H'
  | .bk ρ => ∀ σ H1 H' am', Ex H0 H H1 H' am am' → MOk K T H1 am' H' m' → EnvOk K H1 am' ρ σ → D.bk σ H'
  | .ct ρ => ∀ σ H1 H' am', Ex H0 H H1 H' am am' → MOk K T H1 am' H' m' → EnvOk K H1 am' ρ σ → D.ct σ H'
  | .rt s => ∀ v H1 H' am', Ex H0 H H1 H' am am' → MOk K T H1 am' H' m' → IsS K H1 am' v s → D.rt v H'
  | .er e => Glo K T E (fun _ _ (_ : Unit) (_ : Unit) => True) H0 H am (.error e) m' (fun _ _ => True)
theorem GlS.ex {K : PySem.W.Frag} {T : List (Addr × Str)} {E : XK} {H0 H H1 H' : Hp} {am am' : List Addr} {o : Out} {m' : Mem} {D : Ends} (g : GlS K T E H0 H am o m' D) (e : Ex H0 H H1 H' am am') : GlS K T E H1 H' am' o m' D := by
  cases o with
  | nx ρ => exact fun σ H2 H'' am2 e2 mo q => g σ H2 H'' am2 (e.trans e2) mo q
  | bk ρ => exact fun σ H2 H'' am2 e2 mo q => g σ H2 H'' am2 (e.trans e2) mo q
  | ct ρ => exact fun σ H2 H'' am2 e2 mo q => g σ H2 H'' am2 (e.trans e2) mo q
  | rt s => exact fun v H2 H'' am2 e2 mo q => g v H2 H'' am2 (e.trans e2) mo q
  | er x => exact Glo.ex (K := K) (E := E) (Rel := fun _ _ (_ : Unit) (_ : Unit) => True) (r := .error x) (Q := fun _ _ => True) g e
def SsAt (K : PySem.W.Frag) (T : List (Addr × Str)) (E : XK) (H0 : Hp) (am : List Addr) (H : Hp) (t : TS) (f : Rho → Mem → RS) : Prop :=
  ∀ ρ m σ o m' D, MOk K T H0 am H m → EnvOk K H0 am ρ σ → f ρ m = some (o, m') → GlS K T E H0 H am o m' D → t D σ H
def Ss (K : PySem.W.Frag) (T : List (Addr × Str)) (E : XK) (t : TS) (f : Rho → Mem → RS) : Prop := ∀ H0 am H, SsAt K T E H0 am H t f
structure PSX (X : Cx) (T : List (Addr × Str)) (E : XK) (st : Stmt) (f : Rho → Mem → RS) : Prop where
  ex : ∃ t, PS X st t ∧ Ss X.K T E t f
structure PSsX (X : Cx) (T : List (Addr × Str)) (E : XK) (st : List Stmt) (f : Rho → Mem → RS) : Prop where
  ex : ∃ t, PSs X st t ∧ Ss X.K T E t f
/-- from a value to what follows -/
def bindS {α : Type} (x : Re α) (g : α → Mem → RS) : RS := match x with
  | some (.ok a, m) => g a m
  | some (.error e, m) => some (.er e, m)
  | none => none
theorem Sd.toS {K : PySem.W.Frag} {T : List (Addr × Str)} {E : XK} {α β : Type} {R1 : Hp → List Addr → β → α → Prop} {t : L2.St → Hp → (β → Hp → Prop) → Prop} {f : Rho → Mem → Re α} {u : β → TS} {g : α → Rho → Mem → RS}
    (h1 : Sd K T E R1 t f) (h2 : ∀ H0 H am x a, R1 H0 am x a → SsAt K T E H0 am H (u x) (g a)) : Ss K T E (fun D σ H => t σ H fun x H1 => u x D σ H1) (fun ρ m => bindS (f ρ m) fun a m' => g a ρ m') := by
  intro H0 am H ρ m σ o m' D mo eo e gl
  simp only [bindS] at e
  cases hf : f ρ m with
  | none => rw [hf] at e; cases e
  | some z =>
    obtain ⟨z, m1⟩ := z
    rw [hf] at e
    cases z with
    | ok a => exact h1 H0 am H ρ m σ (.ok a) m1 _ mo eo hf fun v H1 H' am' ex mo' q => h2 H1 H' am' v a q ρ m1 σ o m' D mo' (eo.ex ex) e (gl.ex ex)
    | error x =>
      cases e
      exact h1 H0 am H ρ m σ (.error x) _ _ mo eo hf gl
end Pu
namespace Pu
open PySem PySem.Spec PyProof.Rows L2
open LamX (Tabs)

/-! ### data seen through the store -/
def allD : List Sl → Option (List D)
  | [] => some []
  | .dat d :: r => (allD r).map (d :: ·)
  | .opq _ :: _ => none
def vw (m : Mem) : Sl → Option D
  | .dat d => some d
  | .opq i => match m[i]? with
    | some (.lst xs) => (allD xs).map D.lst
    | some (.dic k) => some (.dic k)
    | some (.ins C fs) => some (.ins C fs)
    | some (.fz d) => some d
    | none => none
inductive Vw (K : PySem.W.Frag) (H0 H : Hp) : V → D → Prop where
  | imm {v : V} {d : D} (h : Is K H0 v d) : Vw K H0 H v d
  | lst {a : Addr} {vs : List V} {xs : List D} (h : H a = some (.lst vs)) (t : IsAll K H0 vs xs) : Vw K H0 H (.ref a) (.lst xs)
  | dic {a : Addr} {kvs : List (Key × V)} {ds : List (Key × D)} (h : H a = some (.dK kvs)) (t : IsKv K H0 kvs ds) : Vw K H0 H (.ref a) (.dic ds)
  | ins {a C dx : Addr} {fs : List (Str × V)} {gs : List (Str × D)} (h : H a = some (.ins C dx fs)) (t : IsFs K H0 fs gs) : Vw K H0 H (.ref a) (.ins C gs)
section
variable {K : PySem.W.Frag} {T : List (Addr × Str)} {H0 H H1 H' : Hp} {am am' : List Addr} {m : Mem}
theorem allD_all : ∀ {vs : List V} {ss : List Sl} {ds : List D}, Paired (IsS K H0 am) vs ss → allD ss = some ds → IsAll K H0 vs ds
  | _, _, _, .nil, e => by unfold allD at e; cases e; exact .nil
  | _, _, _, .cons (b := s) r t, e => by
    cases s with
    | opq i => unfold allD at e; cases e
    | dat d =>
      unfold allD at e
      cases r with
      | dat r =>
        rename_i l2
        cases h : allD l2 with
        | none => rw [h] at e; cases e
        | some l => rw [h] at e; cases e; exact .cons r (allD_all t h)
theorem vw_ok (mo : MOk K T H0 am H m) {v : V} {s : Sl} {d : D} (h : IsS K H0 am v s) (e : vw m s = some d) : Vw K H0 H v d := by
  cases h with
  | dat h => unfold vw at e; cases e; exact .imm h
  | opq h =>
    rename_i i a
    simp only [vw] at e
    have key : ∀ o, m[i]? = some o → (∃ u, H a = some u ∧ MIs K H0 am u o) ∨ ∃ d, o = .fz d ∧ Is K H0 (.ref a) d := fun o e1 => by
      obtain ⟨b, e2, ⟨u, _, e3, q⟩ | q⟩ := mo.is i o e1
      · rw [h] at e2
        cases e2
        exact .inl ⟨u, e3, q⟩
      · rw [h] at e2
        cases e2
        exact .inr q
    cases hm : m[i]? with
    | none => rw [hm] at e; cases e
    | some o =>
      rw [hm] at e
      cases o with
      | lst xs =>
        obtain ⟨u, e3, vs, rfl, t⟩ | ⟨_, z, _⟩ := key _ hm
        case inr => cases z
        simp only at e
        cases hx : allD xs with
        | none => rw [hx] at e; cases e
        | some ds => rw [hx] at e; cases e; exact .lst e3 (allD_all t hx)
      | dic k =>
        obtain ⟨u, e3, vs, rfl, t⟩ | ⟨_, z, _⟩ := key _ hm
        case inr => cases z
        cases e; exact .dic e3 t
      | ins C fs =>
        obtain ⟨u, e3, dx, vs, rfl, t⟩ | ⟨_, z, _⟩ := key _ hm
        case inr => cases z
        cases e; exact .ins e3 t
      | fz d2 =>
        obtain ⟨u, e3, t⟩ | ⟨_, z, t⟩ := key _ hm
        · exact t.elim
        · cases z; cases e; exact .imm t
theorem Vw.is (s : Same H0 H) {v : V} {d : D} (h : Vw K H0 H v d) (nd : ∀ k, d ≠ .dic k) : Is K H v d := by
  cases h with
  | imm h => exact h.same s
  | lst h t => exact .lst h (t.same s)
  | dic h t => exact absurd rfl (nd _)
  | ins h t => exact .ins h (t.same s)
theorem Vw.lstI (s : Same H0 H) {v : V} {xs : List D} (h : Vw K H0 H v (.lst xs)) : ∃ a vs, v = .ref a ∧ H a = some (.lst vs) ∧ IsAll K H0 vs xs := by
  cases h with
  | imm h => cases h with
    | lst h t => exact ⟨_, _, rfl, s _ _ h, t⟩
  | lst h t => exact ⟨_, _, rfl, h, t⟩
theorem Vw.frlI (s : Same H0 H) {v : V} {xs : List D} (h : Vw K H0 H v (.frl xs)) : ∃ a vs, v = .ref a ∧ SqL K H a vs ∧ IsAll K H0 vs xs := by
  cases h with
  | imm h => cases h with
    | frl h t => exact ⟨_, _, rfl, s.seq h, t⟩
theorem Vw.tupI (s : Same H0 H) {v : V} {xs : List D} (h : Vw K H0 H v (.tup xs)) : ∃ a vs, v = .ref a ∧ TupW K H a vs ∧ IsAll K H0 vs xs := by
  cases h with
  | imm h => cases h with
    | tup h t => exact ⟨_, _, rfl, h.same s, t⟩
theorem Vw.dicI (s : Same H0 H) {v : V} {xs : List (Key × D)} (h : Vw K H0 H v (.dic xs)) : ∃ a vs, v = .ref a ∧ Rd H a (.dK vs) ∧ IsKv K H0 vs xs := by
  cases h with
  | imm h => cases h with
    | dic h t => exact ⟨_, _, rfl, .inr ⟨_, s _ _ h⟩, t⟩
  | dic h t => exact ⟨_, _, rfl, .inl h, t⟩
theorem Vw.insI (s : Same H0 H) {v : V} {C : Addr} {gs : List (Str × D)} (h : Vw K H0 H v (.ins C gs)) : ∃ a dx fs, v = .ref a ∧ H a = some (.ins C dx fs) ∧ IsFs K H0 fs gs := by
  cases h with
  | imm h => cases h with
    | ins h t => exact ⟨_, _, _, rfl, s _ _ h, t⟩
  | ins h t => exact ⟨_, _, _, rfl, h, t⟩
theorem Vw.intI {v : V} {i : Int} (h : Vw K H0 H v (.int i)) : v = .int i := by
  cases h with
  | imm h => cases h; rfl
theorem Vw.blI {v : V} {i : Bool} (h : Vw K H0 H v (.bl i)) : v = .bl i := by
  cases h with
  | imm h => cases h; rfl
theorem Vw.strI {v : V} {i : Str} (h : Vw K H0 H v (.str i)) : v = .str i := by
  cases h with
  | imm h => cases h; rfl
theorem Vw.nonI {v : V} (h : Vw K H0 H v .non) : v = .non := by
  cases h with
  | imm h => cases h; rfl
theorem Vw.tyI {v : V} {i : String} (h : Vw K H0 H v (.ty i)) : v = .ty i := by
  cases h with
  | imm h => cases h; rfl
end

/-! ### operations on data -/
/-- r does what o says -/
def OpD (K : PySem.W.Frag) (r : R2) (o : D → D → Option D) : Prop := ∀ (H0 H : Hp) (x y : V) (d e c : D) (Q : VK), Same H0 H → Vw K H0 H x d → Vw K H0 H y e → o d e = some c →
  (∀ v H1 H', Nw H0 H H1 H' → Is K H1 v c → Q v H') → r x y H Q
def UnD (K : PySem.W.Frag) (r : V → Hp → VK → Prop) (o : D → Option D) : Prop := ∀ (H0 H : Hp) (x : V) (d c : D) (Q : VK), Same H0 H → Vw K H0 H x d → o d = some c →
  (∀ v H1 H', Nw H0 H H1 H' → Is K H1 v c → Q v H') → r x H Q
inductive VwAll (K : PySem.W.Frag) (H0 H : Hp) : List V → List D → Prop where
  | nil : VwAll K H0 H [] []
  | cons {v : V} {d : D} {vs : List V} {ds : List D} (h : Vw K H0 H v d) (t : VwAll K H0 H vs ds) : VwAll K H0 H (v :: vs) (d :: ds)
def CallD (K : PySem.W.Frag) (r : List V → Hp → VK → Prop) (o : List D → Option D) : Prop := ∀ (H0 H : Hp) (xs : List V) (ds : List D) (c : D) (Q : VK), Same H0 H → VwAll K H0 H xs ds → o ds = some c →
  (∀ v H1 H', Nw H0 H H1 H' → Is K H1 v c → Q v H') → r xs H Q
def liftO (m : Mem) (o : Option D) : Re Sl := match o with
  | some c => some (.ok (.dat c), m)
  | none => none
def f1 (o : D → Option D) (a : Sl) (m : Mem) : Re Sl := match vw m a with
  | some d => liftO m (o d)
  | none => none
def f2 (o : D → D → Option D) (a b : Sl) (m : Mem) : Re Sl := match vw m a, vw m b with
  | some d, some e => liftO m (o d e)
  | _, _ => none
def vwAll (m : Mem) : List Sl → Option (List D)
  | [] => some []
  | s :: r => match vw m s, vwAll m r with
    | some d, some ds => some (d :: ds)
    | _, _ => none
def fN (o : List D → Option D) (as : List Sl) (m : Mem) : Re Sl := match vwAll m as with
  | some ds => liftO m (o ds)
  | none => none
section
variable {K : PySem.W.Frag} {T : List (Addr × Str)} {E : XK} {H0 H H1 H' : Hp} {am am' : List Addr} {m : Mem}
theorem liftO_ok {o : Option D} {r : Except Er Sl} {m' : Mem} (e : liftO m o = some (r, m')) : ∃ c, o = some c ∧ r = .ok (.dat c) ∧ m' = m := by
  unfold liftO at e
  cases o with
  | none => cases e
  | some c => cases e; exact ⟨c, rfl, rfl, rfl⟩
theorem vwAll_ok (mo : MOk K T H0 am H m) : ∀ {vs : List V} {ss : List Sl} {ds : List D}, Paired (IsS K H0 am) vs ss → vwAll m ss = some ds → VwAll K H0 H vs ds
  | _, _, _, .nil, e => by unfold vwAll at e; cases e; exact .nil
  | _, _, _, .cons (b := s) (l₂ := l2) r t, e => by
    unfold vwAll at e
    cases h1 : vw m s with
    | none => rw [h1] at e; cases e
    | some d => cases h2 : vwAll m l2 with
      | none => rw [h1, h2] at e; cases e
      | some l => rw [h1, h2] at e; cases e; exact .cons (vw_ok mo r h1) (vwAll_ok mo t h2)
theorem UnD.at {r : V → Hp → VK → Prop} {o : D → Option D} (h : UnD K r o) {x : V} {a : Sl} (q : IsS K H0 am x a) : SdAt K T E (IsS K) H0 am H (fun _ H1 Q => r x H1 Q) (fun _ m => f1 o a m) := by
  intro ρ m σ rr m' Q mo eo e gl
  simp only [f1] at e
  cases h1 : vw m a with
  | none => rw [h1] at e; cases e
  | some d =>
    rw [h1] at e
    obtain ⟨c, e1, rfl, rfl⟩ := liftO_ok e
    exact h H0 H x d c Q mo.sub (vw_ok mo q h1) e1 fun v H1 H' nw z => gl v H1 H' am nw.ex (mo.nw nw) (.dat z)
theorem OpD.at {r : R2} {o : D → D → Option D} (h : OpD K r o) {x y : V} {a b : Sl} (q : IsS K H0 am x a) (q2 : IsS K H0 am y b) : SdAt K T E (IsS K) H0 am H (fun _ H1 Q => r x y H1 Q) (fun _ m => f2 o a b m) := by
  intro ρ m σ rr m' Q mo eo e gl
  simp only [f2] at e
  cases h1 : vw m a with
  | none => rw [h1] at e; cases e
  | some d => cases h2 : vw m b with
    | none => rw [h1, h2] at e; cases e
    | some d2 =>
      rw [h1, h2] at e
      obtain ⟨c, e1, rfl, rfl⟩ := liftO_ok e
      exact h H0 H x y d d2 c Q mo.sub (vw_ok mo q h1) (vw_ok mo q2 h2) e1 fun v H1 H' nw z => gl v H1 H' am nw.ex (mo.nw nw) (.dat z)
theorem CallD.at {r : List V → Hp → VK → Prop} {o : List D → Option D} (h : CallD K r o) {xs : List V} {ss : List Sl} (q : Paired (IsS K H0 am) xs ss) : SdAt K T E (IsS K) H0 am H (fun _ H1 Q => r xs H1 Q) (fun _ m => fN o ss m) := by
  intro ρ m σ rr m' Q mo eo e gl
  simp only [fN] at e
  cases h1 : vwAll m ss with
  | none => rw [h1] at e; cases e
  | some ds =>
    rw [h1] at e
    obtain ⟨c, e1, rfl, rfl⟩ := liftO_ok e
    exact h H0 H xs ds c Q mo.sub (vwAll_ok mo q h1) e1 fun v H1 H' nw z => gl v H1 H' am nw.ex (mo.nw nw) (.dat z)
end

/-! ### expressions -/
section
variable {X : Cx} {T : List (Addr × Str)} {E : XK} {e a b : Expr} {es : List Expr} {f g : Rho → Mem → Re Sl} {fs : Rho → Mem → Re (List Sl)} {pos : Pos}
def fV (i : Nat) : Rho → Mem → Re Sl := fun ρ m => match ρ[i]? with
  | some (some s) => some (.ok s, m)
  | _ => none
theorem px_v (i : Nat) {x : Str} {pos : Pos} (hN : X.N[i]? = some x := by rfl) (hv : Vis X.env.scope x := by first | exact Or.inl rfl | exact Or.inr (Or.inl rfl) | exact Or.inr (Or.inr rfl)) (hd : (x == ("__debug__" : Str)) = false := by decide)
    (hcd : (x == ("__classdict__" : Str)) = false := by decide) : PX X T E (.Name x pos) (fV i) :=
  ⟨_, pv i hN hv hd hcd, fun H0 am H ρ m σ r m' Q mo eo e gl => by
    simp only [fV] at e
    split at e
    · rename_i s hs
      cases e
      obtain ⟨v, e1, q⟩ := eo.2 i s hs
      exact ⟨v, e1, gl v H0 H am Ex.refl mo q⟩
    · cases e⟩
theorem px_val {t : TE} {v : V} {d : D} (h : PE X e t) (ht : ∀ σ H (Q : VK), Q v H → t σ H Q) (q : ∀ H, Is X.K H v d) : PX X T E e (retD (.dat d)) :=
  ⟨_, h, fun H0 am H ρ m σ r m' Q mo eo e gl => by
    unfold retD at e
    cases e
    exact ht _ _ _ (gl v H0 H am Ex.refl mo (.dat (q _)))⟩
theorem px_int {i j pos} : PX X T E (.Constant (.int i) j pos) (retD (.dat (.int i))) := px_val pe_int (fun _ _ _ h => h) fun _ => .int i
theorem px_bl {b j pos} : PX X T E (.Constant (.bool b) j pos) (retD (.dat (.bl b))) := px_val pe_bl (fun _ _ _ h => h) fun _ => .bl b
theorem px_non {j pos} : PX X T E (.Constant .none j pos) (retD (.dat .non)) := px_val pe_non (fun _ _ _ h => h) fun _ => .non
theorem px_str {x j pos} : PX X T E (.Constant (.str x) j pos) (retD (.dat (.str x))) := px_val pe_str (fun _ _ _ h => h) fun _ => .str x
theorem px_glob {x : Str} {v : V} {d : D} {u : Value} {pos : Pos} (hg : Gl X x) (hm : X.mg x = some u) (r : RelV v u) (q : ∀ H, Is X.K H v d) (hd : (x == ("__debug__" : Str)) = false := by decide) : PX X T E (.Name x pos) (retD (.dat d)) :=
  px_val (pe_glob hg hm r hd) (fun _ _ _ h => h) q
theorem px_ty {x : Str} {n : String} {pos : Pos} (hg : Gl X x) (hm : X.mg x = none) (hv : bootBuiltins x = some (.type n)) (hn : x ≠ "__name__" := by decide) (hd : (x == ("__debug__" : Str)) = false := by decide) : PX X T E (.Name x pos) (retD (.dat (.ty n))) :=
  px_val (pe_bltn (v := .ty n) hg hm hv rfl hn hd) (fun _ _ _ h => h) fun _ => .ty n
theorem px_op {op : Operator} {r : R2} {o : D → D → Option D} (ho : OpR X (binaryOp op) r) (hd : OpD X.K r o) (ha : PX X T E a f) (hb : PX X T E b g) : PX X T E (.BinOp a op b pos) (bindD f fun s => bindD g fun t _ m => f2 o s t m) := by
  obtain ⟨ta, pa, sa⟩ := ha
  obtain ⟨tb, pb, sb⟩ := hb
  exact ⟨_, pe_op ho pa pb, sa.bind fun H0 H am x s q => (sb H0 am H).bind fun H1 H' am' y t ex q2 => hd.at (q.ex ex) q2⟩
theorem px_un {op : UnaryOp} {r : V → Hp → VK → Prop} {o : D → Option D} (ho : UnR X (unaryOp op) r) (hd : UnD X.K r o) (ha : PX X T E a f) : PX X T E (.UnaryOp op a pos) (bindD f fun s _ m => f1 o s m) := by
  obtain ⟨ta, pa, sa⟩ := ha
  exact ⟨_, pe_un ho pa, sa.bind fun H0 H am x s q => hd.at q⟩
theorem px_cmp {op : CmpOp} {r : R2} {o : D → D → Option D} (ho : OpR X (compareOp op) r) (hd : OpD X.K r o) (ha : PX X T E a f) (hb : PX X T E b g) (hm : behindInMarks op b = false) : PX X T E (.Compare a [op] [b] pos) (bindD f fun s => bindD g fun t _ m => f2 o s t m) := by
  obtain ⟨ta, pa, sa⟩ := ha
  obtain ⟨tb, pb, sb⟩ := hb
  exact ⟨_, pe_cmpR ho pa pb hm, sa.bind fun H0 H am x s q => (sb H0 am H).bind fun H1 H' am' y t ex q2 => hd.at (q.ex ex) q2⟩
/-- a truth value -/
def fB (f : Rho → Mem → Re Sl) : Rho → Mem → Re Bool := bindD f fun s _ m => match s with
  | .dat (.bl b) => some (.ok b, m)
  | _ => none
theorem sd_B {t : TE} (h : Sd X.K T E (IsS X.K) t f) : Sd X.K T E IsT (fun σ H Q => t σ H fun x H1 => ∃ c, x = .bl c ∧ Q c H1) (fB f) :=
  h.bind fun H0 H am x s q ρ m σ r m' Q mo eo e gl => by
    cases q with
    | dat q => cases q with
      | bl b => cases e; exact ⟨b, rfl, gl b H0 H am Ex.refl mo rfl⟩
      | _ => cases e
    | opq q => cases e
theorem ptx_val (h : PX X T E e f) (he : ∀ whole, isTrue e X.env whole = (do let v ← whole; standAt e.pos; holding [v] (truthy v)) := by intro _; rfl) : PTX X T E e (fB f) := by
  obtain ⟨t, p, s⟩ := h
  exact ⟨_, pt_val p he, sd_B s⟩
theorem ptx_cmp {op : CmpOp} {r : R2} {o : D → D → Option D} (ho : OpR X (compareOp op) r) (hd : OpD X.K r o) (ha : PX X T E a f) (hb : PX X T E b g) (hm : behindInMarks op b = false) : PTX X T E (.Compare a [op] [b] pos) (fB (bindD f fun s => bindD g fun t _ m => f2 o s t m)) := by
  obtain ⟨ta, pa, sa⟩ := ha
  obtain ⟨tb, pb, sb⟩ := hb
  exact ⟨_, pt_cmpR ho pa pb hm, sd_B (sa.bind fun H0 H am x s q => (sb H0 am H).bind fun H1 H' am' y t ex q2 => hd.at (q.ex ex) q2)⟩
def fNot (f : Rho → Mem → Re Bool) : Rho → Mem → Re Bool := bindD f fun b _ m => some (.ok (!b), m)
def fAnd (f g : Rho → Mem → Re Bool) : Rho → Mem → Re Bool := bindD f fun b ρ m => if b = true then g ρ m else some (.ok false, m)
def fOr (f g : Rho → Mem → Re Bool) : Rho → Mem → Re Bool := bindD f fun b ρ m => if b = true then some (.ok true, m) else g ρ m
section
variable {p q : Rho → Mem → Re Bool} {rest : List Expr}
theorem PWX.pt (h : PWX X T E e p) : PTX X T E e p := by
  obtain ⟨t, a, s⟩ := h
  exact ⟨t, a.pt, s⟩
theorem ptx_not (h : PTX X T E a p) : PTX X T E (.UnaryOp .Not a pos) (fNot p) := by
  obtain ⟨t, a, s⟩ := h
  exact ⟨_, pt_not a, s.bind fun H0 H am x c q ρ m σ r m' Q mo eo e gl => by
    cases q
    cases e
    exact gl _ H0 H am Ex.refl mo rfl⟩
theorem pwx_and1 (h : PTX X T E a p) : PWX X T E (.BoolOp .And [a] pos) p := by
  obtain ⟨t, a, s⟩ := h
  exact ⟨_, pw_and1 a, s⟩
theorem pwx_or1 (h : PTX X T E a p) : PWX X T E (.BoolOp .Or [a] pos) p := by
  obtain ⟨t, a, s⟩ := h
  exact ⟨_, pw_or1 a, s⟩
theorem pwx_and (ha : PTX X T E a p) (hb : PWX X T E (.BoolOp .And (b :: rest) pos) q) : PWX X T E (.BoolOp .And (a :: b :: rest) pos) (fAnd p q) := by
  obtain ⟨t, a, s⟩ := ha
  obtain ⟨u, b, s2⟩ := hb
  refine ⟨_, pw_and a b, s.bind fun H0 H am x c z ρ m σ r m' Q mo eo e gl => ?_⟩
  cases z
  try dsimp only at e
  try dsimp only
  split
  · rename_i h
    rw [if_pos h] at e
    exact s2 H0 am H ρ m σ r m' Q mo eo e gl
  · rename_i h
    rw [if_neg h] at e
    cases e
    exact gl _ H0 H am Ex.refl mo rfl
theorem pwx_or (ha : PTX X T E a p) (hb : PWX X T E (.BoolOp .Or (b :: rest) pos) q) : PWX X T E (.BoolOp .Or (a :: b :: rest) pos) (fOr p q) := by
  obtain ⟨t, a, s⟩ := ha
  obtain ⟨u, b, s2⟩ := hb
  refine ⟨_, pw_or a b, s.bind fun H0 H am x c z ρ m σ r m' Q mo eo e gl => ?_⟩
  cases z
  try dsimp only at e
  try dsimp only
  split
  · rename_i h
    rw [if_pos h] at e
    cases e
    exact gl _ H0 H am Ex.refl mo rfl
  · rename_i h
    rw [if_neg h] at e
    exact s2 H0 am H ρ m σ r m' Q mo eo e gl
end
/-- truth values as values -/
def vB (b : Bool) : Sl := .dat (.bl b)
def fBV (p : Rho → Mem → Re Bool) : Rho → Mem → Re Sl := bindD p fun b _ m => some (.ok (.dat (.bl b)), m)
theorem px_one {op} {f : Rho → Mem → Re Sl} (h : PX X T E a f) : PX X T E (.BoolOp op [a] pos) f := by
  obtain ⟨t, p, s⟩ := h
  exact ⟨t, pe_one p, s⟩
def fAndV (f g : Rho → Mem → Re Sl) : Rho → Mem → Re Sl := bindD (fB f) fun b ρ m => if b = true then g ρ m else some (.ok (.dat (.bl false)), m)
def fOrV (f g : Rho → Mem → Re Sl) : Rho → Mem → Re Sl := bindD (fB f) fun b ρ m => if b = true then some (.ok (.dat (.bl true)), m) else g ρ m
theorem px_and {rest : List Expr} (ha : PX X T E a f) (hb : PX X T E (.BoolOp .And (b :: rest) pos) g) : PX X T E (.BoolOp .And (a :: b :: rest) pos) (fAndV f g) := by
  obtain ⟨t, a, s⟩ := ha
  obtain ⟨u, b, s2⟩ := hb
  refine ⟨_, pe_and a b, fun H0 am H ρ m σ r m' Q mo eo e gl => ?_⟩
  refine (sd_B s).bind (u := fun c σ H Q => if c = true then u σ H Q else Q (.bl false) H) (R2 := IsS X.K) (g := fun b ρ m => if b = true then g ρ m else some (.ok (.dat (.bl false)), m)) (fun H0 H am x c z ρ m σ r m' Q mo eo e gl => ?_) H0 am H ρ m σ r m' Q mo eo e gl
  cases z
  try dsimp only at e
  try dsimp only
  split
  · rename_i h
    rw [if_pos h] at e
    exact s2 H0 am H ρ m σ r m' Q mo eo e gl
  · rename_i h
    rw [if_neg h] at e
    cases e
    exact gl _ H0 H am Ex.refl mo (.dat (.bl false))
theorem px_or {rest : List Expr} (ha : PX X T E a f) (hb : PX X T E (.BoolOp .Or (b :: rest) pos) g) : PX X T E (.BoolOp .Or (a :: b :: rest) pos) (fOrV f g) := by
  obtain ⟨t, a, s⟩ := ha
  obtain ⟨u, b, s2⟩ := hb
  refine ⟨_, pe_or a b, fun H0 am H ρ m σ r m' Q mo eo e gl => ?_⟩
  refine (sd_B s).bind (u := fun c σ H Q => if c = true then Q (.bl true) H else u σ H Q) (R2 := IsS X.K) (g := fun b ρ m => if b = true then some (.ok (.dat (.bl true)), m) else g ρ m) (fun H0 H am x c z ρ m σ r m' Q mo eo e gl => ?_) H0 am H ρ m σ r m' Q mo eo e gl
  cases z
  try dsimp only at e
  try dsimp only
  split
  · rename_i h
    rw [if_pos h] at e
    cases e
    exact gl _ H0 H am Ex.refl mo (.dat (.bl true))
  · rename_i h
    rw [if_neg h] at e
    exact s2 H0 am H ρ m σ r m' Q mo eo e gl
theorem px_not (ha : PX X T E a f) : PX X T E (.UnaryOp .Not a pos) (fBV (fNot (fB f))) := by
  obtain ⟨t, a, s⟩ := ha
  refine ⟨_, pe_not a, fun H0 am H ρ m σ r m' Q mo eo e gl => ?_⟩
  refine (sd_B s).bind (R2 := IsS X.K) (u := fun c σ H Q => Q (.bl (!c)) H) (g := fun b ρ m => some (.ok (.dat (.bl (!b))), m)) (fun H0 H am x c z ρ m σ r m' Q mo eo e gl => ?_) H0 am H ρ m σ r m' Q mo eo ?_ gl
  · cases z
    cases e
    exact gl _ H0 H am Ex.refl mo (.dat (.bl _))
  · rw [← e]
    unfold fBV fNot bindD bindR
    cases fB f ρ m with
    | none => rfl
    | some z => obtain ⟨z, mm⟩ := z; cases z <;> rfl
def fIf (p : Rho → Mem → Re Bool) (f g : Rho → Mem → Re Sl) : Rho → Mem → Re Sl := bindD p fun b ρ m => if b = true then f ρ m else g ρ m
theorem px_ifExp {c : Expr} {p : Rho → Mem → Re Bool} (hc : PTX X T E c p) (ha : PX X T E a f) (hb : PX X T E b g) : PX X T E (.IfExp c a b pos) (fIf p f g) := by
  obtain ⟨tc, pc, sc⟩ := hc
  obtain ⟨t, a, s⟩ := ha
  obtain ⟨u, b, s2⟩ := hb
  refine ⟨_, pe_ifExp pc a b, sc.bind fun H0 H am x c z ρ m σ r m' Q mo eo e gl => ?_⟩
  cases z
  try dsimp only at e
  try dsimp only
  split
  · rename_i h
    rw [if_pos h] at e
    exact s H0 am H ρ m σ r m' Q mo eo e gl
  · rename_i h
    rw [if_neg h] at e
    exact s2 H0 am H ρ m σ r m' Q mo eo e gl
/-! arguments, displays -/
def fCons (f : Rho → Mem → Re Sl) (g : Rho → Mem → Re (List Sl)) : Rho → Mem → Re (List Sl) := bindD f fun s => bindD g fun r _ m => some (.ok (s :: r), m)
theorem pax_nil : PAX X T E [] (retD []) := ⟨⟨_, pa_nil, fun H0 am H => SdAt.ret (R1 := fun H0 am => Paired (IsS X.K H0 am)) (v := []) (a := []) .nil⟩, fun ρ m ss m' e => by cases e; rfl⟩
theorem pax_cons (ha : PX X T E e f) (hr : PAX X T E es fs) (hs : starEach (e :: es) X.env = (false, eval e X.env) :: starEach es X.env := by rfl) : PAX X T E (e :: es) (fCons f fs) := by
  obtain ⟨t, p, s⟩ := ha
  obtain ⟨⟨u, p2, s2⟩, hl⟩ := hr
  refine ⟨⟨_, pa_cons p p2 hs, s.bind fun H0 H am x a z => (s2 H0 am H).bind fun H1 H' am' xs as ex z2 => SdAt.ret (R1 := fun H0 am => Paired (IsS X.K H0 am)) (.cons (z.ex ex) z2)⟩, fun ρ m ss m' e => ?_⟩
  unfold fCons bindD bindR at e
  cases h1 : f ρ m with
  | none => simp only [h1] at e; cases e
  | some z =>
    obtain ⟨z, m1⟩ := z
    simp only [h1] at e
    cases z with
    | error w => cases e
    | ok s0 =>
      cases h2 : fs ρ m1 with
      | none => simp only [h2] at e; cases e
      | some z =>
        obtain ⟨z, m2⟩ := z
        simp only [h2] at e
        cases z with
        | error w => cases e
        | ok s1 => cases e; rw [List.length_cons, List.length_cons, hl _ _ _ _ h2]
def oTup (ds : List D) : Option D := if ds.length ≤ sizeLine then some (.tup ds) else none
def oLst (ds : List D) : Option D := if ds.length ≤ sizeLine then some (.lst ds) else none
end
section
variable {K : PySem.W.Frag} {T : List (Addr × Str)} {E : XK} {H0 H H1 H' : Hp} {am am' : List Addr} {m : Mem}
theorem allD_dat {ss : List Sl} {ds : List D} {vs : List V} (q : Paired (IsS K H0 am) vs ss) (e : allD ss = some ds) : IsAll K H0 vs ds := allD_all q e
def fD (o : List D → Option D) (as : List Sl) (m : Mem) : Re Sl := match allD as with
  | some ds => liftO m (o ds)
  | none => none
def rTupN : List V → Hp → VK → Prop := fun xs H Q => xs.length ≤ sizeLine ∧ ∀ p, H p = none → Q (.ref p) (upd H p (.tup xs))
def rLstN : List V → Hp → VK → Prop := fun xs H Q => xs.length ≤ sizeLine ∧ ∀ p, H p = none → Q (.ref p) (upd H p (.lst xs))
theorem at_tup {xs : List V} {ss : List Sl} (q : Paired (IsS K H0 am) xs ss) : SdAt K T E (IsS K) H0 am H (fun _ H1 Q => rTupN xs H1 Q) (fun _ m => fD oTup ss m) := by
  intro ρ m σ rr m' Q mo eo e gl
  simp only [fD] at e
  cases h1 : allD ss with
  | none => rw [h1] at e; cases e
  | some ds =>
    rw [h1] at e
    obtain ⟨c, e1, rfl, rfl⟩ := liftO_ok e
    have t := allD_all q h1
    unfold oTup at e1
    split at e1
    · rename_i hl
      cases e1
      refine ⟨by rw [t.len]; exact hl, fun p hp => ?_⟩
      have nw := Nw.alloc mo.sub (o := .tup xs) hp
      exact gl _ _ _ am nw.ex (mo.nw nw) (.dat (.tup upd_same (t.same nw.s0)))
    · cases e1
theorem at_lst {xs : List V} {ss : List Sl} (q : Paired (IsS K H0 am) xs ss) : SdAt K T E (IsS K) H0 am H (fun _ H1 Q => rLstN xs H1 Q) (fun _ m => fD oLst ss m) := by
  intro ρ m σ rr m' Q mo eo e gl
  simp only [fD] at e
  cases h1 : allD ss with
  | none => rw [h1] at e; cases e
  | some ds =>
    rw [h1] at e
    obtain ⟨c, e1, rfl, rfl⟩ := liftO_ok e
    have t := allD_all q h1
    unfold oLst at e1
    split at e1
    · rename_i hl
      cases e1
      refine ⟨by rw [t.len]; exact hl, fun p hp => ?_⟩
      have nw := Nw.alloc mo.sub (o := .lst xs) hp
      exact gl _ _ _ am nw.ex (mo.nw nw) (.dat (.lst upd_same (t.same nw.s0)))
    · cases e1
/-- a thing of the store is no table -/
theorem MIs.ntb {u : HO} {o : MO} (q : MIs K H0 am u o) : ∀ ps, u ≠ .tbl ps := fun ps e => by
  subst e
  cases o with
  | lst xs => obtain ⟨_, z, _⟩ := q; cases z
  | dic ds => obtain ⟨_, z, _⟩ := q; cases z
  | ins C gs => obtain ⟨_, _, z, _⟩ := q; cases z
  | fz d => exact q
/-- .. and no code -/
theorem MIs.ncd {u : HO} {o : MO} {c : Addr} {nm : Str} (q : MIs K H0 am u o) : u ≠ LamX.CodeO c nm := fun e => by
  subst e
  cases o with
  | lst xs => obtain ⟨_, z, _⟩ := q; cases z
  | dic ds => obtain ⟨_, z, _⟩ := q; cases z
  | ins C gs => obtain ⟨_, _, z, _⟩ := q; cases z
  | fz d => exact q
/-- the tables stand where neither they nor their codes are changed -/
theorem tabs_but {T : List (Addr × Str)} {H H' : Hp} {p : Addr} {u : HO} (t : Tabs T H) (hp : H p = some u) (n1 : ∀ ps, u ≠ .tbl ps) (n2 : ∀ c nm, u ≠ LamX.CodeO c nm) (b : ∀ a o, a ≠ p → H a = some o → H' a = some o) : Tabs T H' := fun x hx => by
  obtain ⟨ps, h1, h2, h3⟩ := t x hx
  refine ⟨ps, b _ _ (ne_of h1 hp (fun z => n1 ps z.symm)) h1, h2, fun pos cv hc => ?_⟩
  obtain ⟨c, e1, e2⟩ := h3 pos cv hc
  exact ⟨c, e1, b _ _ (ne_of e2 hp (fun z => n2 _ _ z.symm)) e2⟩
theorem fre_upd {H : Hp} {p a : Addr} {u : HO} (n : ∀ ps, u ≠ .tbl ps) (h : Fre (upd H p u) a) (hp : Fre H p) : Fre H a := fun o e => by
  by_cases c : a = p
  · subst c
    exact hp o e
  · exact h o (by rw [upd_ne c]; exact e)
/-- a new thing of the store -/
theorem MOk.push (mo : MOk K T H0 am H m) {p : Addr} {u : HO} {o : MO} (hp : H p = none) (q : MIs K H0 am u o) : Ex H0 H H0 (upd H p u) am (am ++ [p]) ∧ MOk K T H0 (am ++ [p]) (upd H p u) (m ++ [o]) := by
  have nt := q.ntb
  have ex : Ex H0 H H0 (upd H p u) am (am ++ [p]) := ⟨.refl _, ⟨[p], rfl, fun a h => by rw [List.mem_singleton.mp h]; exact Fre.none hp⟩, fun a w h _ _ => by rw [upd_ne (ne_of_none h hp)]; exact h, fun a h => fre_upd nt h (Fre.none hp), fun a _ h _ => h⟩
  have hm : p ∉ am := fun z => mo.tr p z (Fre.none hp)
  refine ⟨ex, by rw [List.length_append, List.length_append, mo.len]; rfl, ?_, fun i w h => ?_, fun a w h => ?_, fun a h z => ?_, mo.nt, mo.tb.ext (Same.new hp)⟩
  · rw [List.nodup_append]
    exact ⟨mo.nd, by simp, fun a ha b hb => by rw [List.mem_singleton.mp hb]; rintro rfl; exact hm ha⟩
  · by_cases c : i < m.length
    · rw [List.getElem?_append_left c] at h
      obtain ⟨a, e1, ⟨w2, e2, e3, z⟩ | ⟨d, e2, z⟩⟩ := mo.is i w h
      · exact ⟨a, ex.get e1, .inl ⟨w2, e2, by rw [upd_ne (ne_of_none e3 hp)]; exact e3, z.ex ex⟩⟩
      · exact ⟨a, ex.get e1, .inr ⟨d, e2, z⟩⟩
    · rw [List.getElem?_append_right (by omega)] at h
      have c2 : i - m.length = 0 := by
        have := (List.getElem?_eq_some_iff.mp h).1
        simp at this
        omega
      rw [c2] at h
      cases h
      refine ⟨p, ?_, .inl ⟨u, mo.sub.free hp, upd_same, q.ex ex⟩⟩
      rw [List.getElem?_append_right (by rw [mo.len]; omega), mo.len, c2]
      rfl
  · have e := mo.sub _ _ h
    rw [upd_ne (ne_of_none e hp)]
    exact e
  · have z2 := ex.kp a z
    rcases List.mem_append.mp h with h | h
    · exact mo.tr a h z2
    · rw [List.mem_singleton.mp h] at z
      exact not_fre upd_same nt z
end
end Pu
namespace Pu
open PySem PySem.Spec PyProof.Rows L2
open LamX (Tabs)
section
variable {K : PySem.W.Frag} {T : List (Addr × Str)} {E : XK} {H0 H H1 H' : Hp} {am am' : List Addr} {m : Mem}
/-- a thing of the store is changed -/
theorem MOk.put (mo : MOk K T H0 am H m) {i : Nat} {a : Addr} {u u' : HO} {o o' : MO} (ha : am[i]? = some a) (h0 : H0 a = none) (hu : H a = some u) (qu : MIs K H0 am u o') (q : MIs K H0 am u' o) :
    Ex H0 H H0 (upd H a u') am am ∧ MOk K T H0 am (upd H a u') (m.set i o) := by
  have hmem : a ∈ am := List.mem_of_getElem? ha
  have nt := q.ntb
  have ex : Ex H0 H H0 (upd H a u') am am := ⟨.refl _, ⟨[], by simp, by simp⟩, fun b w h _ n => by rw [upd_ne (by rintro rfl; exact n hmem)]; exact h, fun b h => by
    by_cases c : b = a
    · subst c; exact absurd h (not_fre upd_same nt)
    · exact fun o e => h o (by rw [upd_ne c]; exact e), fun _ _ h _ => h⟩
  refine ⟨ex, by rw [List.length_set]; exact mo.len, mo.nd, fun j w h => ?_, fun b w h => ?_, fun b h z => mo.tr b h (ex.kp b z), mo.nt, tabs_but mo.tb hu qu.ntb (fun c nm => qu.ncd) (fun b w n e => by rw [upd_ne n]; exact e)⟩
  · by_cases c : i = j
    · subst c
      have hl : i < m.length := by rw [← mo.len]; exact (List.getElem?_eq_some_iff.mp ha).1
      rw [List.getElem?_set_self hl] at h
      cases h
      exact ⟨a, ha, .inl ⟨u', h0, upd_same, q.ex ex⟩⟩
    · rw [List.getElem?_set_ne c] at h
      obtain ⟨b, e1, ⟨w2, e2, e3, z⟩ | ⟨d, e2, z⟩⟩ := mo.is j w h
      · refine ⟨b, e1, .inl ⟨w2, e2, ?_, z.ex ex⟩⟩
        have nb : b ≠ a := by
          rintro rfl
          obtain ⟨h1, e4⟩ := List.getElem?_eq_some_iff.mp ha
          obtain ⟨h2, e5⟩ := List.getElem?_eq_some_iff.mp e1
          exact c ((List.getElem_inj mo.nd).mp (e4.trans e5.symm))
        rw [upd_ne nb]
        exact e3
      · exact ⟨b, e1, .inr ⟨d, e2, z⟩⟩
  · have nb : b ≠ a := by rintro rfl; rw [h0] at h; cases h
    rw [upd_ne nb]
    exact mo.sub _ _ h
/-- a list beside the store is changed, or made -/
theorem MOk.beside (mo : MOk K T H0 am H m) {p : Addr} {ws : List V} (hp : p ∉ am) (h0 : H0 p = none) (hl : H p = none ∨ ∃ vs, H p = some (.lst vs)) : MOk K T H0 am (upd H p (.lst ws)) m := by
  refine ⟨mo.len, mo.nd, fun j w h => ?_, fun b w h => ?_, fun b h z => ?_, mo.nt, ?_⟩
  · obtain ⟨b, e1, ⟨w2, e2, e3, z⟩ | ⟨d, e2, z⟩⟩ := mo.is j w h
    · exact ⟨b, e1, .inl ⟨w2, e2, by rw [upd_ne (by rintro rfl; exact hp (List.mem_of_getElem? e1))]; exact e3, z⟩⟩
    · exact ⟨b, e1, .inr ⟨d, e2, z⟩⟩
  · rw [upd_ne (by rintro rfl; rw [h0] at h; cases h)]
    exact mo.sub _ _ h
  · exact mo.tr b h (fun o e => z o (by rw [upd_ne (by rintro rfl; exact hp h)]; exact e))
  · rcases hl with h | ⟨vs, h⟩
    · exact mo.tb.ext (Same.new h)
    · exact tabs_but mo.tb h (fun _ z => nomatch z) (fun _ _ z => nomatch z) (fun b w n e => by rw [upd_ne n]; exact e)
/-- a thing beside the store becomes data -/
theorem MOk.grow (mo : MOk K T H0 am H m) {p : Addr} {u : HO} (hp : p ∉ am) (h0 : H0 p = none) (hu : H p = some u) (hnt : ∀ ps, u ≠ .tbl ps) : Same H0 (upd H0 p u) ∧ MOk K T (upd H0 p u) am H m := by
  have s0 : Same H0 (upd H0 p u) := Same.new h0
  refine ⟨s0, mo.len, mo.nd, fun j w h => ?_, fun b w h => ?_, mo.tr, fun b ps h => ?_, mo.tb⟩
  rotate_right
  · by_cases c : b = p
    · subst c; rw [upd_same] at h; exact hnt ps (Option.some.inj h)
    · rw [upd_ne c] at h; exact mo.nt b ps h
  · obtain ⟨b, e1, ⟨w2, e2, e3, z⟩ | ⟨d, e2, z⟩⟩ := mo.is j w h
    · refine ⟨b, e1, .inl ⟨w2, by rw [upd_ne (by rintro rfl; exact hp (List.mem_of_getElem? e1))]; exact e2, e3, ?_⟩⟩
      cases w with
      | lst xs => obtain ⟨vs, e1, t⟩ := z; exact ⟨vs, e1, L2.Paired.mapP t fun _ _ z => by
          cases z with
          | dat h => exact .dat (h.same s0)
          | opq h => exact .opq h⟩
      | dic ds => obtain ⟨vs, e1, t⟩ := z; exact ⟨vs, e1, t.same s0⟩
      | ins C gs => obtain ⟨dx, fs, e1, t⟩ := z; exact ⟨dx, fs, e1, t.same s0⟩
      | fz d => exact z.elim
    · exact ⟨b, e1, .inr ⟨d, e2, z.same s0⟩⟩
  · by_cases c : b = p
    · subst c; rw [upd_same] at h; rw [← h]; exact hu
    · rw [upd_ne c] at h; exact mo.sub _ _ h
end
/-! ### statements -/
def fSeq (f g : Rho → Mem → RS) : Rho → Mem → RS := fun ρ m => match f ρ m with
  | some (.nx ρ', m') => g ρ' m'
  | o => o
def fNext : Rho → Mem → RS := fun ρ m => some (.nx ρ, m)
def fIfS (p : Rho → Mem → Re Bool) (f g : Rho → Mem → RS) : Rho → Mem → RS := fun ρ m => bindS (p ρ m) fun b m' => if b = true then f ρ m' else g ρ m'
def fRet (f : Rho → Mem → Re Sl) : Rho → Mem → RS := fun ρ m => bindS (f ρ m) fun s m' => some (.rt s, m')
def fRetN : Rho → Mem → RS := fun _ m => some (.rt (.dat .non), m)
def fSet (i : Nat) (f : Rho → Mem → Re Sl) : Rho → Mem → RS := fun ρ m => bindS (f ρ m) fun s m' => some (.nx (ρ.set i (some s)), m')
def fDo (f : Rho → Mem → Re Sl) : Rho → Mem → RS := fun ρ m => bindS (f ρ m) fun _ m' => some (.nx ρ, m')
section
variable {X : Cx} {T : List (Addr × Str)} {E : XK} {e a b tg it : Expr} {st : Stmt} {sts : List Stmt} {f g : Rho → Mem → Re Sl} {fs gs : Rho → Mem → RS} {pos : Pos}
theorem pssx_nil : PSsX X T E [] fNext := ⟨_, pss_nil, fun H0 am H ρ m σ o m' D mo eo e gl => by
  cases e
  exact gl σ H0 H am Ex.refl mo eo⟩
theorem pssx_cons (h1 : PSX X T E st fs) (h2 : PSsX X T E sts gs) : PSsX X T E (st :: sts) (fSeq fs gs) := by
  obtain ⟨t, p, s⟩ := h1
  obtain ⟨u, p2, s2⟩ := h2
  refine ⟨_, pss_cons p p2, fun H0 am H ρ m σ o m' D mo eo e gl => ?_⟩
  simp only [fSeq] at e
  cases hf : fs ρ m with
  | none => rw [hf] at e; cases e
  | some z =>
    obtain ⟨z, m1⟩ := z
    rw [hf] at e
    cases z with
    | nx ρ' => exact s H0 am H ρ m σ (.nx ρ') m1 _ mo eo hf fun σ' H1 H' am' ex mo' eo' => s2 H1 am' H' ρ' m1 σ' o m' D mo' eo' e (gl.ex ex)
    | rt w => cases e; exact s H0 am H ρ m σ _ _ _ mo eo hf gl
    | bk w => cases e; exact s H0 am H ρ m σ _ _ _ mo eo hf gl
    | ct w => cases e; exact s H0 am H ρ m σ _ _ _ mo eo hf gl
    | er w => cases e; exact s H0 am H ρ m σ _ _ _ mo eo hf gl
theorem pssx_one (h1 : PSX X T E st fs) : PSsX X T E [st] fs := by
  obtain ⟨t, p, s⟩ := h1
  exact ⟨_, pss_one p, s⟩
theorem psx_pass : PSX X T E (.Pass pos) fNext := ⟨_, ps_pass, fun H0 am H ρ m σ o m' D mo eo e gl => by
  cases e
  exact gl σ H0 H am Ex.refl mo eo⟩
theorem psx_doc {x j pos pos'} : PSX X T E (.Expr (.Constant (.str x) j pos) pos') fNext := ⟨_, ps_doc, fun H0 am H ρ m σ o m' D mo eo e gl => by
  cases e
  exact gl σ H0 H am Ex.refl mo eo⟩
theorem psx_break : PSX X T E (.Break pos) (fun ρ m => some (.bk ρ, m)) := ⟨_, ps_break, fun H0 am H ρ m σ o m' D mo eo e gl => by
  cases e
  exact gl σ H0 H am Ex.refl mo eo⟩
theorem psx_continue : PSX X T E (.Continue pos) (fun ρ m => some (.ct ρ, m)) := ⟨_, ps_continue, fun H0 am H ρ m σ o m' D mo eo e gl => by
  cases e
  exact gl σ H0 H am Ex.refl mo eo⟩
theorem psx_ret (h : PX X T E e f) : PSX X T E (.Return (some e) pos) (fRet f) := by
  obtain ⟨t, p, s⟩ := h
  exact ⟨_, ps_ret p, s.toS (u := fun v D _ H => D.rt v H) fun H0 H am x a q ρ m σ o m' D mo eo e gl => by
    cases e
    exact gl x H0 H am Ex.refl mo q⟩
theorem psx_retN : PSX X T E (.Return none pos) fRetN := ⟨_, ps_retN, fun H0 am H ρ m σ o m' D mo eo e gl => by
  cases e
  exact gl .non H0 H am Ex.refl mo (.dat .non)⟩
theorem psx_expr (h : PX X T E e f) (hs : swapsWith e none pos.line X.env = pure false := by rfl) : PSX X T E (.Expr e pos) (fDo f) := by
  obtain ⟨t, p, s⟩ := h
  exact ⟨_, ps_expr p hs, s.toS (u := fun v D σ H => D.nx σ H) fun H0 H am x a q ρ m σ o m' D mo eo e gl => by
    cases e
    exact gl σ H0 H am Ex.refl mo eo⟩
theorem psx_if {c : Expr} {p q : List Stmt} {pc : Rho → Mem → Re Bool} (hc : PTX X T E c pc) (ha : PSsX X T E p fs) (hb : PSsX X T E q gs) : PSX X T E (.If c p q pos) (fIfS pc fs gs) := by
  obtain ⟨t, p, s⟩ := hc
  obtain ⟨t1, p1, s1⟩ := ha
  obtain ⟨t2, p2, s2⟩ := hb
  refine ⟨_, ps_if p p1 p2, s.toS (u := fun b D σ H1 => if b = true then t1 D σ H1 else t2 D σ H1) (g := fun b ρ m' => if b = true then fs ρ m' else gs ρ m') fun H0 H am x c z ρ m σ o m' D mo eo e gl => ?_⟩
  cases z
  dsimp only at e
  split
  · rename_i h
    rw [if_pos h] at e
    exact s1 H0 am H ρ m σ o m' D mo eo e gl
  · rename_i h
    rw [if_neg h] at e
    exact s2 H0 am H ρ m σ o m' D mo eo e gl
theorem psx_set {i : Nat} {x : Str} {pos' : Pos} (hN : X.N.Nodup) (hi : X.N[i]? = some x) (hx : Loc X.env.scope x) (he : PX X T E e f) (hs : swapsWith e (some (.Name x pos')) pos.line X.env = pure false := by rfl) (hf : X.fn x = true ∨ X.env.scope.names.lookup x = some .local := by first | exact .inl rfl | exact .inr rfl | assumption) :
    PSX X T E (.Assign [.Name x pos'] e pos) (fSet i f) := by
  obtain ⟨t, p, s⟩ := he
  exact ⟨_, ps_set hN hi hx p hs hf, s.toS (u := fun v D σ H => D.nx (σ.set i (some v)) H) (g := fun s ρ m' => some (.nx (ρ.set i (some s)), m')) fun H0 H am x a q ρ m σ o m' D mo eo e gl => by
    cases e
    exact gl _ H0 H am Ex.refl mo (eo.set q)⟩
/-- a target: the slots that it stores into -/
structure PGX (X : Cx) (tg : Expr) (sl : List Nat) (g : Sl → Rho → Option Rho) : Prop where
  ex : ∃ t, PG X tg t ∧ ∀ (H0 : Hp) (am : List Addr) (H : Hp) (ρ ρ' : Rho) (σ : L2.St) (v : V) (s : Sl) (Q : L2.St → Hp → Prop), Same H0 H → EnvOk X.K H0 am ρ σ → IsS X.K H0 am v s → g s ρ = some ρ' →
    (∀ σ', EnvOk X.K H0 am ρ' σ' → (∀ vs : List Nat, (∀ i ∈ sl, i ∈ vs) → wipe σ' vs = wipe σ vs) → Q σ' H) → t v σ H Q
def tOfG (K : PySem.W.Frag) (sl : List Nat) (g : Sl → Rho → Option Rho) : TG := fun v σ H Q => ∃ H0 am ρ ρ' s, Same H0 H ∧ EnvOk K H0 am ρ σ ∧ IsS K H0 am v s ∧ g s ρ = some ρ' ∧
    (∀ σ', EnvOk K H0 am ρ' σ' → (∀ vs : List Nat, (∀ i ∈ sl, i ∈ vs) → wipe σ' vs = wipe σ vs) → Q σ' H)
theorem PGX.can {sl : List Nat} {g : Sl → Rho → Option Rho} (h : PGX X tg sl g) : PG X tg (tOfG X.K sl g) := by
  obtain ⟨t, p, s⟩ := h
  exact ⟨fun pins sh σ H v u Q I r ⟨H0, am, ρ, ρ', s', h1, h2, h3, h4, h5⟩ => p.run pins sh σ H v u Q I r (s H0 am H ρ ρ' σ v s' Q h1 h2 h3 h4 h5)⟩
def gN (i : Nat) : Sl → Rho → Option Rho := fun s ρ => some (ρ.set i (some s))
theorem wipe_set {σ : L2.St} {i : Nat} {o : Option V} : ∀ {vs : List Nat}, i ∈ vs → wipe (σ.set i o) vs = wipe σ vs
  | w :: vs, h => by
    unfold wipe
    by_cases c : i = w
    · subst c
      by_cases d : i ∈ vs
      · rw [wipe_set d]
      · have key : ∀ l : List Nat, i ∉ l → wipe (σ.set i o) l = (wipe σ l).set i o := fun l => by
          induction l with
          | nil => intro _; rfl
          | cons y l ih =>
            intro n
            unfold wipe
            rw [ih (fun z => n (List.mem_cons_of_mem _ z)), List.set_comm _ _ (fun z => n (by rw [z]; exact List.mem_cons_self))]
        rw [key vs d, List.set_set]
    · rw [wipe_set (by rcases List.mem_cons.mp h with z | z; exact absurd z c; exact z)]
theorem pgx_name {i : Nat} {x : Str} (hN : X.N.Nodup) (hi : X.N[i]? = some x) (hx : Loc X.env.scope x) (hf : X.fn x = true ∨ X.env.scope.names.lookup x = some .local := by first | exact .inl rfl | exact .inr rfl | assumption) : PGX X (.Name x pos) [i] (gN i) :=
  ⟨_, pg_name hN hi hx hf, fun H0 am H ρ ρ' σ v s Q h1 eo q e k => by
    cases e
    exact k _ (eo.set q) fun vs h => wipe_set (h i List.mem_cons_self)⟩
structure PGsX (X : Cx) (tgs : List Expr) (sl : List Nat) (g : List Sl → Rho → Option Rho) : Prop where
  ex : ∃ t, PGs X tgs t ∧ ∀ (H0 : Hp) (am : List Addr) (H : Hp) (ρ ρ' : Rho) (σ : L2.St) (vs : List V) (ss : List Sl) (Q : L2.St → Hp → Prop), Same H0 H → EnvOk X.K H0 am ρ σ → Paired (IsS X.K H0 am) vs ss → g ss ρ = some ρ' →
    (∀ σ', EnvOk X.K H0 am ρ' σ' → (∀ vs : List Nat, (∀ i ∈ sl, i ∈ vs) → wipe σ' vs = wipe σ vs) → Q σ' H) → t vs σ H Q
def gNil' : List Sl → Rho → Option Rho := fun ss ρ => match ss with
  | [] => some ρ
  | _ :: _ => none
def gCons' (g : Sl → Rho → Option Rho) (h : List Sl → Rho → Option Rho) : List Sl → Rho → Option Rho := fun ss ρ => match ss with
  | [] => none
  | s :: r => match g s ρ with
    | some ρ' => h r ρ'
    | none => none
def gT (h : List Sl → Rho → Option Rho) : Sl → Rho → Option Rho := fun s ρ => match s with
  | .dat (.tup ds) => h (ds.map Sl.dat) ρ
  | _ => none
theorem pgsx_nil : PGsX X [] [] gNil' := ⟨_, pgs_nil, fun H0 am H ρ ρ' σ vs ss Q h1 eo q e k => by
  cases q with
  | nil => cases e; exact ⟨rfl, k _ eo fun _ _ => rfl⟩
  | cons _ _ => cases e⟩
theorem pgsx_cons {tgs : List Expr} {s1 s2 : List Nat} {g : Sl → Rho → Option Rho} {h : List Sl → Rho → Option Rho} (h1 : PGX X tg s1 g) (h2 : PGsX X tgs s2 h)
    (hs : (assignEach (tg :: tgs) X.env).map (·.2) = assign tg X.env :: (assignEach tgs X.env).map (·.2) := by rfl) : PGsX X (tg :: tgs) (s1 ++ s2) (gCons' g h) := by
  obtain ⟨t, p, s⟩ := h1
  obtain ⟨u, p2, s2⟩ := h2
  refine ⟨_, pgs_cons p p2 hs, fun H0 am H ρ ρ' σ vs ss Q h1 eo q e k => ?_⟩
  cases q with
  | nil => cases e
  | cons r rr =>
    rename_i x w l1 l2
    simp only [gCons'] at e
    cases hg : g w ρ with
    | none => rw [hg] at e; cases e
    | some ρ1 =>
      rw [hg] at e
      refine ⟨_, _, rfl, s H0 am H ρ ρ1 σ _ w _ h1 eo r hg fun σ1 eo1 k1 => s2 H0 am H ρ1 ρ' σ1 _ l2 Q h1 eo1 rr e fun σ2 eo2 k2 => k σ2 eo2 fun vs hv => ?_⟩
      rw [k2 vs fun i hi => hv i (List.mem_append_right _ hi), k1 vs fun i hi => hv i (List.mem_append_left _ hi)]
theorem IsAll.sl {K : PySem.W.Frag} {H0 : Hp} {am : List Addr} : ∀ {vs : List V} {ds : List D}, IsAll K H0 vs ds → Paired (IsS K H0 am) vs (ds.map Sl.dat)
  | _, _, .nil => .nil
  | _, _, .cons h t => .cons (.dat h) (IsAll.sl t)
theorem pgx_tup {es : List Expr} {k n : Nat} {sl : List Nat} {h : List Sl → Rho → Option Rho} (hc : X.calm = true) (hp : PGsX X es sl h)
    (hl : ∀ ss ρ ρ', h ss ρ = some ρ' → ss.length = n) (hn : (assignEach es X.env).length = n := by rfl) (hst : (assignEach es X.env).findIdx? (·.1) = none := by rfl) : PGX X (.Tuple es k pos) sl (gT h) := by
  obtain ⟨t, p, s⟩ := hp
  refine ⟨_, pg_tup hc p hn hst, fun H0 am H ρ ρ' σ v sl Q h1 eo q e k => ?_⟩
  unfold gT at e
  split at e
  · rename_i ds
    cases q with
    | dat q => cases q with
      | tup hq t2 =>
        have z := hl _ _ _ e
        rw [List.length_map] at z
        exact ⟨_, _, rfl, sameT h1 hq.sq, by rw [t2.len]; exact z, s H0 am H ρ ρ' σ _ _ Q h1 eo (IsAll.sl t2) e k⟩
  · cases e
theorem gl_nil : ∀ ss ρ ρ', gNil' ss ρ = some ρ' → ss.length = 0 := fun ss ρ ρ' e => by
  cases ss with
  | nil => rfl
  | cons _ _ => cases e
theorem gl_cons {g : Sl → Rho → Option Rho} {h : List Sl → Rho → Option Rho} {n : Nat} (hl : ∀ ss ρ ρ', h ss ρ = some ρ' → ss.length = n) : ∀ ss ρ ρ', gCons' g h ss ρ = some ρ' → ss.length = n + 1 := fun ss ρ ρ' e => by
  cases ss with
  | nil => cases e
  | cons s r =>
    simp only [gCons'] at e
    cases hg : g s ρ with
    | none => rw [hg] at e; cases e
    | some ρ1 => rw [hg] at e; rw [List.length_cons, hl _ _ _ e]
def fAsg (f : Rho → Mem → Re Sl) (g : Sl → Rho → Option Rho) : Rho → Mem → RS := fun ρ m => bindS (f ρ m) fun s m' => match g s ρ with
  | some ρ' => some (.nx ρ', m')
  | none => none
theorem psx_asg {sl : List Nat} {g : Sl → Rho → Option Rho} (he : PX X T E e f) (hg : PGX X tg sl g) (hs : swapsWithSole [tg] e pos.line X.env = pure false := by rfl) (hw : swappedStores [tg] e X.env = pure none := by rfl)
    (h1 : (assignEach [tg] X.env).map (·.2) = [assign tg X.env] := by rfl) : PSX X T E (.Assign [tg] e pos) (fAsg f g) := by
  obtain ⟨t, p, s⟩ := he
  obtain ⟨u, p2, s2⟩ := hg
  refine ⟨_, ps_asg p p2 hs hw h1, s.toS (u := fun v D σ H => u v σ H D.nx) (g := fun s ρ m' => match g s ρ with | some ρ' => some (.nx ρ', m') | none => none) fun H0 H am x a q ρ m σ o m' D mo eo e gl => ?_⟩
  dsimp only at e
  cases hg : g a ρ with
  | none => rw [hg] at e; cases e
  | some ρ' =>
    rw [hg] at e
    cases e
    exact s2 H0 am H ρ ρ' σ x a _ mo.sub eo q hg fun σ' eo' _ => gl σ' H0 H am Ex.refl mo eo'
def parG (i j : Nat) (ss : List Sl) (ρ : Rho) (m' : Mem) : RS := match ss with
  | [s, t] => some (.nx ((ρ.set i (some s)).set j (some t)), m')
  | _ => none
def fPar (i j : Nat) (f : Rho → Mem → Re (List Sl)) : Rho → Mem → RS := fun ρ m => bindS (f ρ m) fun ss m' => parG i j ss ρ m'
theorem psx_par {i j : Nat} {x y : Str} {fa : Rho → Mem → Re (List Sl)} {px py pt : Pos} {kt k2 pt2} (hc : X.calm = true) (hN : X.N.Nodup) (hi : X.N[i]? = some x) (hj : X.N[j]? = some y) (hij : i ≠ j)
    (hx : X.env.scope.names.lookup x = some .local) (hy : X.env.scope.names.lookup y = some .local) (ha : PAX X T E [a, b] fa)
    (hw : swappedStores [.Tuple [.Name x px, .Name y py] kt pt] (.Tuple [a, b] k2 pt2) X.env = pure (some [x, y]))
    (hs : swapsWithSole [.Tuple [.Name x px, .Name y py] kt pt] (.Tuple [a, b] k2 pt2) pos.line X.env = pure false := by rfl) :
    PSX X T E (.Assign [.Tuple [.Name x px, .Name y py] kt pt] (.Tuple [a, b] k2 pt2) pos) (fPar i j fa) := by
  obtain ⟨⟨t, p, s⟩, _⟩ := ha
  refine ⟨_, ps_par hc hN hi hj hij hx hy p hw hs, s.toS (u := fun vs D σ H1 => ∃ v w, vs = [v, w] ∧ D.nx ((σ.set i (some v)).set j (some w)) H1) (g := parG i j) fun H0 H am x a q ρ m σ o m' D mo eo e gl => ?_⟩
  cases q with
  | nil => cases e
  | cons r1 q => cases q with
    | nil => cases e
    | cons r2 q => cases q with
      | nil => cases e; exact ⟨_, _, rfl, gl _ H0 H am Ex.refl mo ((eo.set r1).set r2)⟩
      | cons _ _ => cases e
def fAug (i : Nat) (o : D → D → Option D) (f : Rho → Mem → Re Sl) : Rho → Mem → RS := fun ρ m => match ρ[i]? with
  | some (some s) => bindS (f ρ m) fun t m' => bindS (f2 o s t m') fun u m2 => some (.nx (ρ.set i (some u)), m2)
  | _ => none
theorem psx_aug {i : Nat} {x : Str} {op : Operator} {ti : TIp} {o : D → D → Option D} {pos' : Pos} (hN : X.N.Nodup) (hi : X.N[i]? = some x) (hx : Loc X.env.scope x) (he : PX X T E e f) (ho : PIp X op ti) (hd : OpD X.K ti o) (hf : X.fn x = true ∨ X.env.scope.names.lookup x = some .local := by first | exact .inl rfl | exact .inr rfl | assumption) :
    PSX X T E (.AugAssign (.Name x pos') op e pos) (fAug i o f) := by
  obtain ⟨t, p, s⟩ := he
  refine ⟨_, ps_aug hN hi hx p ho hf, fun H0 am H ρ m σ oo m' Dd mo eo e gl => ?_⟩
  simp only [fAug] at e
  split at e
  · rename_i a ha
    obtain ⟨v, e1, q⟩ := eo.2 i a ha
    refine ⟨v, e1, ?_⟩
    cases hf : f ρ m with
    | none => rw [hf] at e; cases e
    | some z =>
      obtain ⟨z, m1⟩ := z
      rw [hf] at e
      simp only [bindS] at e
      cases z with
      | error w => cases e; exact s H0 am H ρ m σ (.error w) _ _ mo eo hf gl
      | ok b =>
        dsimp only at e
        cases h2 : f2 o a b m1 with
        | none => rw [h2] at e; cases e
        | some z =>
          obtain ⟨z, m2⟩ := z
          rw [h2] at e
          refine s H0 am H ρ m σ (.ok b) m1 _ mo eo hf fun y H1 H' am' ex mo' qy => ?_
          have k := hd.at (T := T) (E := E) (H := H') (q.ex ex) qy
          cases z with
          | error w => cases e; exact k ρ m1 σ (.error w) _ _ mo' (eo.ex ex) h2 (Glo.ex (K := X.K) (E := E) (Rel := fun _ _ (_ : Unit) (_ : Unit) => True) (r := .error w) (Q := fun _ _ => True) gl ex)
          | ok u =>
            cases e
            exact k ρ m1 σ (.ok u) _ _ mo' (eo.ex ex) h2 fun w H2 H'' am2 ex2 mo2 q2 => gl _ H2 H'' am2 (ex.trans ex2) mo2 ((eo.ex (ex.trans ex2)).set q2)
  · cases e
end
end Pu
namespace Pu
open PySem PySem.Spec PyProof.Rows L2
open LamX (Tabs)
/-! ### what is walked -/
/-- an iterator that gives these data -/
def Wk (K : PySem.W.Frag) (H0 : Hp) (_ : List Addr) (J : It) (ds : List D) : Prop :=
  Walk J ds.length (fun H => Same H0 H) (fun i H x H' => ∀ H0c, Same H0 H0c → Same H0c H → ∃ H1 d, Nw H0c H H1 H' ∧ ds[i]? = some d ∧ Is K H1 x d)
structure PIX (X : Cx) (T : List (Addr × Str)) (E : XK) (tg iter : Expr) (f : Rho → Mem → Re (List D)) : Prop where
  ex : ∃ wi, PI X tg iter wi ∧ Sd X.K T E (Wk X.K) wi f
def fFor (g : Sl → Rho → Option Rho) (b : Rho → Mem → RS) : List D → Rho → Mem → RS
  | [], ρ, m => some (.nx ρ, m)
  | d :: ds, ρ, m => match g (.dat d) ρ with
    | none => none
    | some ρ1 => match b ρ1 m with
      | some (.nx ρ2, m2) => fFor g b ds ρ2 m2
      | some (.ct ρ2, m2) => fFor g b ds ρ2 m2
      | some (.bk ρ2, m2) => some (.nx ρ2, m2)
      | o => o
def fForS (it : Rho → Mem → Re (List D)) (g : Sl → Rho → Option Rho) (b : Rho → Mem → RS) : Rho → Mem → RS := fun ρ m => bindS (it ρ m) fun ds m' => fFor g b ds ρ m'
section
variable {X : Cx} {T : List (Addr × Str)} {E : XK} {tg iter : Expr} {body : List Stmt} {pos : Pos}
theorem psx_for {it : Rho → Mem → Re (List D)} {g : Sl → Rho → Option Rho} {b : Rho → Mem → RS} {sl : List Nat} (hp : PassesOwn (model X.prog X.w) X.A X.env X.xe) (hc : X.calm = true) (hi : PIX X T E tg iter it) (hg : PGX X tg sl g) (hb : PSsX X T E body b)
    (hs : ∀ x, foldedSetIterable iter X.env x = pure x := by intro _; rfl) : PSX X T E (.For tg iter body [] pos) (fForS it g b) := by
  obtain ⟨wi, p, s⟩ := hi
  obtain ⟨gt, p2, s2⟩ := hg
  obtain ⟨tb, p3, s3⟩ := hb
  refine ⟨_, ps_for hp hc p p2 p3 hs, s.toS (u := fun (J : It) D σ H1 => ∃ W : Nat → Nat → L2.St → Hp → Prop, (∃ m, W 0 m σ H1) ∧ ∀ i m σ H, W i m σ H →
    (J.stop i H ∧ D.nx σ H) ∨ (J.go i H ∧ ∃ N : L2.St → Hp → Prop, (∀ σ' H', N σ' H' → ∃ m', m' < m ∧ W (i + 1) m' σ' H') ∧ ∀ x H', J.yld i H x H' → gt x σ H' fun σ2 H2 => tb { D with nx := N, ct := N, bk := D.nx } σ2 H2)) (g := fFor g b) fun H0 H am J ds wk ρ m σ o m' D mo eo e gl => ?_⟩
  refine for_it wk (fun i σ' H' => ∃ H0' am' ρ' mm, Ex H0 H H0' H' am am' ∧ MOk X.K T H0' am' H' mm ∧ EnvOk X.K H0' am' ρ' σ' ∧ fFor g b (ds.drop i) ρ' mm = some (o, m')) ⟨H0, am, ρ, m, Ex.refl, mo, eo, e⟩
    (fun i σ' H' _ ⟨H0', am', ρ', mm, ex, mo', _, _⟩ => ex.s0.trans mo'.sub) ?_ ?_
  · rintro i x σ' H' H'' hi ⟨H0', am', ρ', mm, ex, mo', eo', e'⟩ hy
    obtain ⟨H1, d, nw, hd, q⟩ := hy H0' ex.s0 mo'.sub
    have hdrop : ds.drop i = d :: ds.drop (i + 1) := by
      rw [List.drop_eq_getElem_cons hi]
      congr 1
      rw [List.getElem?_eq_getElem hi] at hd
      exact Option.some.inj hd
    rw [hdrop] at e'
    simp only [fFor] at e'
    cases hg : g (.dat d) ρ' with
    | none => rw [hg] at e'; cases e'
    | some ρ1 =>
      rw [hg] at e'
      dsimp only at e'
      have mo1 := mo'.nw nw
      have ex1 : Ex H0 H H1 H'' am am' := ex.trans nw.ex
      refine s2 H1 am' H'' ρ' ρ1 σ' x (.dat d) _ mo1.sub (eo'.ex nw.ex) (.dat q) hg fun σ2 eo2 _ => ?_
      cases hb : b ρ1 mm with
      | none => rw [hb] at e'; cases e'
      | some z =>
        obtain ⟨z, m2⟩ := z
        rw [hb] at e'
        have gl1 := gl.ex ex1
        cases z with
        | nx ρ2 => exact s3 H1 am' H'' ρ1 mm σ2 _ _ _ mo1 eo2 hb fun σ3 H3 H4 am3 ex3 mo3 eo3 => ⟨H3, am3, ρ2, m2, ex1.trans ex3, mo3, eo3, e'⟩
        | ct ρ2 => exact s3 H1 am' H'' ρ1 mm σ2 _ _ _ mo1 eo2 hb fun σ3 H3 H4 am3 ex3 mo3 eo3 => ⟨H3, am3, ρ2, m2, ex1.trans ex3, mo3, eo3, e'⟩
        | bk ρ2 => cases e'; exact s3 H1 am' H'' ρ1 mm σ2 _ _ _ mo1 eo2 hb gl1
        | rt w => cases e'; exact s3 H1 am' H'' ρ1 mm σ2 _ _ _ mo1 eo2 hb gl1
        | er w => cases e'; exact s3 H1 am' H'' ρ1 mm σ2 _ _ _ mo1 eo2 hb gl1
  · rintro σ' H' ⟨H0', am', ρ', mm, ex, mo', eo', e'⟩
    rw [List.drop_length] at e'
    cases e'
    exact gl σ' H0' H' am' ex mo' eo'
/-! ### while -/
def fWh (p : Rho → Mem → Re Bool) (b : Rho → Mem → RS) : Nat → Rho → Mem → RS
  | 0, _, _ => none
  | n + 1, ρ, m => bindS (p ρ m) fun t m1 => if t = true then match b ρ m1 with
      | some (.nx ρ2, m2) => fWh p b n ρ2 m2
      | some (.ct ρ2, m2) => fWh p b n ρ2 m2
      | some (.bk ρ2, m2) => some (.nx ρ2, m2)
      | o => o
    else some (.nx ρ, m1)
open Classical in
noncomputable def fWhile (p : Rho → Mem → Re Bool) (b : Rho → Mem → RS) : Rho → Mem → RS := fun ρ m => if h : ∃ n, (fWh p b n ρ m).isSome = true then fWh p b (choose h) ρ m else none
theorem psx_while {c : Expr} {p : Rho → Mem → Re Bool} {b : Rho → Mem → RS} (hp : PassesOwn (model X.prog X.w) X.A X.env X.xe) (hc : PTX X T E c p) (hb : PSsX X T E body b) : PSX X T E (.While c body [] pos) (fWhile p b) := by
  obtain ⟨tc, p1, s1⟩ := hc
  obtain ⟨tb, p3, s3⟩ := hb
  refine ⟨_, ps_while hp p1 p3, fun H0 am H ρ m σ o m' D mo eo e gl => ?_⟩
  obtain ⟨n0, e0⟩ : ∃ n, fWh p b n ρ m = some (o, m') := by
    unfold fWhile at e
    split at e
    · exact ⟨_, e⟩
    · cases e
  refine ⟨fun k σ' H' => ∃ H0' am' ρ' mm, Ex H0 H H0' H' am am' ∧ MOk X.K T H0' am' H' mm ∧ EnvOk X.K H0' am' ρ' σ' ∧ fWh p b k ρ' mm = some (o, m'), ⟨n0, H0, am, ρ, m, Ex.refl, mo, eo, e0⟩, ?_⟩
  rintro k σ' H' ⟨H0', am', ρ', mm, ex, mo', eo', e'⟩
  cases k with
  | zero => cases e'
  | succ k =>
    simp only [fWh, bindS] at e'
    have gl' := gl.ex ex
    cases hp : p ρ' mm with
    | none => rw [hp] at e'; cases e'
    | some z =>
      obtain ⟨z, m1⟩ := z
      rw [hp] at e'
      cases z with
      | error w => cases e'; exact s1 H0' am' H' ρ' mm σ' (.error w) _ _ mo' eo' hp gl'
      | ok t =>
        dsimp only at e'
        refine s1 H0' am' H' ρ' mm σ' (.ok t) _ _ mo' eo' hp fun t2 H1 H'' am1 ex1 mo1 z => ?_
        cases z
        split
        · rename_i ht
          rw [if_pos ht] at e'
          have exx := ex.trans ex1
          refine ⟨fun σ3 H3 => ∃ H0' am' ρ' mm, Ex H0 H H0' H3 am am' ∧ MOk X.K T H0' am' H3 mm ∧ EnvOk X.K H0' am' ρ' σ3 ∧ fWh p b k ρ' mm = some (o, m'), fun σ3 H3 z => ⟨k, Nat.lt_succ_self k, z⟩, ?_⟩
          have eo1 := eo'.ex ex1
          cases hb : b ρ' m1 with
          | none => rw [hb] at e'; cases e'
          | some z =>
            obtain ⟨z, m2⟩ := z
            rw [hb] at e'
            cases z with
            | nx ρ2 => exact s3 H1 am1 H'' ρ' m1 σ' _ _ _ mo1 eo1 hb fun σ3 H3 H4 am3 ex3 mo3 eo3 => ⟨H3, am3, ρ2, m2, exx.trans ex3, mo3, eo3, e'⟩
            | ct ρ2 => exact s3 H1 am1 H'' ρ' m1 σ' _ _ _ mo1 eo1 hb fun σ3 H3 H4 am3 ex3 mo3 eo3 => ⟨H3, am3, ρ2, m2, exx.trans ex3, mo3, eo3, e'⟩
            | bk ρ2 => cases e'; exact s3 H1 am1 H'' ρ' m1 σ' _ _ _ mo1 eo1 hb (gl.ex exx)
            | rt w => cases e'; exact s3 H1 am1 H'' ρ' m1 σ' _ _ _ mo1 eo1 hb (gl.ex exx)
            | er w => cases e'; exact s3 H1 am1 H'' ρ' m1 σ' _ _ _ mo1 eo1 hb (gl.ex exx)
        · rename_i ht
          rw [if_neg ht] at e'
          cases e'
          exact gl' σ' H1 H'' am1 ex1 mo1 (eo'.ex ex1)
theorem fWh_mono {p : Rho → Mem → Re Bool} {b : Rho → Mem → RS} : ∀ {n k : Nat} {ρ : Rho} {m : Mem} {x : Out × Mem}, fWh p b n ρ m = some x → n ≤ k → fWh p b k ρ m = some x := by
  intro n
  induction n with
  | zero => intro k ρ m x e _; cases e
  | succ n ih =>
    intro k ρ m x e h
    cases k with
    | zero => omega
    | succ k =>
      simp only [fWh, bindS] at e ⊢
      cases hp : p ρ m with
      | none => rw [hp] at e; cases e
      | some z =>
        obtain ⟨z, m1⟩ := z
        rw [hp] at e
        cases z with
        | error w => exact e
        | ok t =>
          dsimp only at e ⊢
          split
          · rename_i ht
            rw [if_pos ht] at e
            cases hb : b ρ m1 with
            | none => rw [hb] at e; cases e
            | some z =>
              obtain ⟨z, m2⟩ := z
              rw [hb] at e
              cases z with
              | nx ρ2 => exact ih e (by omega)
              | ct ρ2 => exact ih e (by omega)
              | bk ρ2 => exact e
              | rt w => exact e
              | er w => exact e
          · rename_i ht
            rw [if_neg ht] at e
            exact e
theorem fWhile_of {p : Rho → Mem → Re Bool} {b : Rho → Mem → RS} {n : Nat} {ρ : Rho} {m : Mem} {x : Out × Mem} (e : fWh p b n ρ m = some x) : fWhile p b ρ m = some x := by
  have h : ∃ n, (fWh p b n ρ m).isSome = true := ⟨n, by rw [e]; rfl⟩
  unfold fWhile
  rw [dif_pos h]
  generalize hk : Classical.choose h = k
  have hs := Classical.choose_spec h
  rw [hk] at hs
  obtain ⟨y, hy⟩ := Option.isSome_iff_exists.mp hs
  rw [hy]
  by_cases c : n ≤ k
  · rw [← hy]; exact fWh_mono e c
  · have := fWh_mono hy (show k ≤ n by omega)
    rw [e] at this
    exact this.symm
end
/-! ### comprehensions -/
def wipeR (ρ : Rho) : List Nat → Rho
  | [] => ρ
  | v :: vs => (wipeR ρ vs).set v none
theorem EnvOk.clr {K : PySem.W.Frag} {H0 : Hp} {am : List Addr} {ρ : Rho} {σ : L2.St} (h : EnvOk K H0 am ρ σ) {v : Nat} : EnvOk K H0 am (ρ.set v none) (σ.set v none) := by
  refine ⟨by rw [List.length_set, List.length_set]; exact h.1, fun i s q => ?_⟩
  by_cases c : v = i
  · subst c
    have hl : v < ρ.length := by
      have := (List.getElem?_eq_some_iff.mp q).1
      rwa [List.length_set] at this
    rw [List.getElem?_set_self hl] at q
    cases q
  · rw [List.getElem?_set_ne c] at q
    obtain ⟨u, e, z⟩ := h.2 i s q
    exact ⟨u, by rw [List.getElem?_set_ne c]; exact e, z⟩
theorem EnvOk.wipe {K : PySem.W.Frag} {H0 : Hp} {am : List Addr} {ρ : Rho} {σ : L2.St} (h : EnvOk K H0 am ρ σ) : ∀ vs : List Nat, EnvOk K H0 am (wipeR ρ vs) (L2.wipe σ vs)
  | [] => h
  | v :: vs => (EnvOk.wipe h vs).clr
theorem wipe_wipe {σ : L2.St} {vs : List Nat} : wipe (wipe σ vs) vs = wipe σ vs := by
  have key : ∀ l : List Nat, (∀ i ∈ l, i ∈ vs) → wipe (wipe σ l) vs = wipe σ vs := fun l => by
    induction l with
    | nil => intro _; rfl
    | cons y l ih =>
      intro h
      show wipe ((wipe σ l).set y none) vs = _
      rw [wipe_set (h y List.mem_cons_self)]
      exact ih fun i hi => h i (List.mem_cons_of_mem _ hi)
  exact key vs fun _ h => h
/-- the data that a comprehension makes -/
def fLc (g : Sl → Rho → Option Rho) (p : Rho → Mem → Re Bool) (f : Rho → Mem → Re Sl) (ρ : Rho) : List D → Mem → Option (List D × Mem)
  | [], m => some ([], m)
  | d :: ds, m => match g (.dat d) ρ with
    | none => none
    | some ρ1 => match p ρ1 m with
      | some (.ok true, m1) => match f ρ1 m1 with
        | some (.ok (.dat x), m2) => match fLc g p f ρ ds m2 with
          | some (xs, m3) => some (x :: xs, m3)
          | none => none
        | _ => none
      | some (.ok false, m1) => fLc g p f ρ ds m1
      | _ => none
def pYes : Rho → Mem → Re Bool := retD true
def fLcD (g : Sl → Rho → Option Rho) (p : Rho → Mem → Re Bool) (f : Rho → Mem → Re Sl) (vs : List Nat) (ds : List D) : Rho → Mem → Re Sl := fun ρ m => if ds.length < sizeLine then match fLc g p f (wipeR ρ vs) ds m with
  | some (xs, m') => some (.ok (.dat (.lst xs)), m')
  | none => none
  else none
def fLcE (it : Rho → Mem → Re (List D)) (g : Sl → Rho → Option Rho) (p : Rho → Mem → Re Bool) (f : Rho → Mem → Re Sl) (vs : List Nat) : Rho → Mem → Re Sl := bindD it fun ds => fLcD g p f vs ds
structure PTsX (X : Cx) (T : List (Addr × Str)) (ifs : List Expr) (p : Rho → Mem → Re Bool) : Prop where
  ex : PTs X ifs (tOf X.K T E0 IsT p)
section
variable {X : Cx} {T : List (Addr × Str)} {E : XK} {tg iter elt : Expr} {ifs : List Expr} {pos : Pos}
theorem ptsx_nil : PTsX X T [] pYes := ⟨⟨fun pins s σ H Q I ⟨ρ, m, H0, am, r, m', mo, eo, e, gl⟩ => by
  cases e
  exact pts_nil.run pins s σ H Q I (gl true H0 H am Ex.refl mo rfl)⟩⟩
theorem ptsx_one {c : Expr} {p : Rho → Mem → Re Bool} (h : PTX X T E0 c p) : PTsX X T [c] p := ⟨pts_one h.can⟩
/-- one turn and the rest of a comprehension over data -/
theorem lc_sound {K : PySem.W.Frag} {T : List (Addr × Str)} {J : It} {ds : List D} {H0 H : Hp} {am : List Addr} {g : Sl → Rho → Option Rho} {p : Rho → Mem → Re Bool} {f : Rho → Mem → Re Sl} {vs sl : List Nat} {ρ : Rho} {σ : L2.St} {m m' : Mem} {xs : List D} {D : Addr} {Qd : Hp → Prop}
    (wk : Wk K H0 am J ds) (mo : MOk K T H0 am H m) (eo : EnvOk K H0 am ρ σ) (hsl : ∀ i ∈ sl, i ∈ vs) (hz : ds.length < sizeLine) (e : fLc g p f (wipeR ρ vs) ds m = some (xs, m')) (hD : H D = none)
    (fin : ∀ H0' H' am', Ex H0 H H0' H' am am' → MOk K T H0' am' H' m' → Is K H0' (.ref D) (.lst xs) → Qd H') :
    ∃ W : Nat → Nat → Hp → Prop, (∃ m, W 0 m (upd H D (.lst []))) ∧ ∀ i m H, W i m H →
      (J.stop i H ∧ Qd H) ∨ (J.go i H ∧ ∃ Nx : Hp → Prop, (∀ H', Nx H' → ∃ m', m' < m ∧ W (i + 1) m' H') ∧ ∀ x H', J.yld i H x H' → tOfG K sl g x (wipe σ vs) H' fun σ2 H2 => wipe σ2 vs = wipe σ vs ∧ tOf K T E0 IsT p σ2 H2 fun b H3 =>
        if b = true then tOf K T E0 (IsS K) f σ2 H3 fun y H4 => ∃ acc, H4 D = some (.lst acc) ∧ acc.length < sizeLine ∧ Nx (upd H4 D (.lst (acc ++ [y]))) else Nx H3) := by
  have nD : D ∉ am := fun z => mo.tr D z (Fre.none hD)
  have h0D : H0 D = none := mo.sub.free hD
  refine lc_it wk (fun i H' => ∃ H0' am' mm acc ws rs, Ex H0 H H0' H' am am' ∧ MOk K T H0' am' H' mm ∧ D ∉ am' ∧ H0' D = none ∧ H' D = some (.lst ws) ∧ IsAll K H0' ws acc ∧ ws.length ≤ i ∧ fLc g p f (wipeR ρ vs) (ds.drop i) mm = some (rs, m') ∧ acc ++ rs = xs) ?_ ?_ ?_ ?_
  · refine ⟨H0, am, m, [], [], xs, ⟨.refl _, ⟨[], by simp, by simp⟩, fun a o h _ n => by rw [upd_ne (ne_of_none h hD)]; exact h, fun a h => fre_upd (u := .lst []) (fun _ z => nomatch z) h (Fre.none hD), fun _ _ h _ => h⟩, mo.beside nD h0D (.inl hD), nD, h0D, upd_same, .nil, Nat.zero_le _, e, rfl⟩
  · rintro i H' _ ⟨H0', am', mm, acc, ws, rs, ex, mo', _⟩
    exact ex.s0.trans mo'.sub
  · rintro i x H' H'' hi ⟨H0', am', mm, acc, ws, rs, ex, mo', hDa, hD0, hDl, hacc, hwl, e', eq⟩ hy
    obtain ⟨H1, d, nw, hd, q⟩ := hy H0' ex.s0 mo'.sub
    have hdrop : ds.drop i = d :: ds.drop (i + 1) := by
      rw [List.drop_eq_getElem_cons hi]
      congr 1
      rw [List.getElem?_eq_getElem hi] at hd
      exact Option.some.inj hd
    rw [hdrop] at e'
    simp only [fLc] at e'
    cases hg : g (.dat d) (wipeR ρ vs) with
    | none => rw [hg] at e'; cases e'
    | some ρ1 =>
      rw [hg] at e'
      dsimp only at e'
      have mo1 := mo'.nw nw
      have ex1 : Ex H0 H H1 H'' am am' := ex.trans nw.ex
      have hD1 : H1 D = none := nw.new D hD0 (by rw [hDl]; exact fun z => nomatch z)
      have hDl1 : H'' D = some (.lst ws) := nw.s _ _ hDl
      refine ⟨H1, am', wipeR ρ vs, ρ1, .dat d, mo1.sub, (eo.ex ex1).wipe vs, .dat q, hg, fun σ2 eo2 hw => ⟨by rw [hw vs hsl, wipe_wipe], ?_⟩⟩
      -- what holds behind the test and the element
      have stay : ∀ {H0a Ha H0b Hb : Hp} {ama amb : List Addr}, Ex H0a Ha H0b Hb ama amb → D ∉ ama → H0a D = none → Ha D = some (.lst ws) → D ∉ amb ∧ H0b D = none ∧ Hb D = some (.lst ws) := fun {H0a Ha H0b Hb ama amb} exx h1 h2 h3 => by
        refine ⟨?_, exx.nw D h1 h2 ⟨HO.lst ws, h3, ⟨(fun _ z => nomatch z), (fun _ z => nomatch z), (fun _ _ _ z => nomatch z)⟩⟩, exx.fr D _ h3 (fun _ z => nomatch z) h1⟩
        obtain ⟨r, e1, h4⟩ := exx.pre
        rw [e1, List.mem_append]
        rintro (z | z)
        · exact h1 z
        · exact not_fre h3 (fun _ z => nomatch z) (h4 D z)
      cases hp : p ρ1 mm with
      | none => rw [hp] at e'; cases e'
      | some z =>
        obtain ⟨z, m1⟩ := z
        rw [hp] at e'
        cases z with
        | error w => cases e'
        | ok b =>
          refine ⟨ρ1, mm, H1, am', .ok b, m1, mo1, eo2, hp, fun b2 H2 H3 am2 ex2 mo2 z => ?_⟩
          cases z
          obtain ⟨hDa2, hD02, hDl2⟩ := stay ex2 hDa hD1 hDl1
          cases b with
          | false => exact iteF ⟨H2, am2, m1, acc, ws, rs, ex1.trans ex2, mo2, hDa2, hD02, hDl2, (hacc.same nw.s0).same ex2.s0, by omega, e', eq⟩
          | true =>
            refine iteT ?_
            dsimp only at e'
            cases hf : f ρ1 m1 with
            | none => rw [hf] at e'; cases e'
            | some z =>
              obtain ⟨z, m2⟩ := z
              rw [hf] at e'
              cases z with
              | error w => cases e'
              | ok s =>
                cases s with
                | opq i => cases e'
                | dat x2 =>
                  dsimp only at e'
                  cases hr : fLc g p f (wipeR ρ vs) (ds.drop (i + 1)) m2 with
                  | none => rw [hr] at e'; cases e'
                  | some z =>
                    obtain ⟨rs2, m3⟩ := z
                    rw [hr] at e'
                    cases e'
                    refine ⟨ρ1, m1, H2, am2, .ok (.dat x2), m2, mo2, eo2.ex ex2, hf, fun y H4 H5 am3 ex3 mo3 qy => ?_⟩
                    obtain ⟨hDa3, hD03, hDl3⟩ := stay ex3 hDa2 hD02 hDl2
                    cases qy with
                    | dat qy =>
                      refine ⟨ws, hDl3, by omega, H4, am3, m2, acc ++ [x2], ws ++ [y], rs2, ?_, mo3.beside hDa3 hD03 (.inr ⟨_, hDl3⟩), hDa3, hD03, upd_same, IsAll.append (.cons qy .nil) (((hacc.same nw.s0).same ex2.s0).same ex3.s0), by rw [List.length_append]; simpa using hwl, hr, by rw [← eq]; simp⟩
                      have exx := ex1.trans (ex2.trans ex3)
                      refine ⟨exx.s0, exx.pre, fun a o h t n => ?_, fun a h => ?_, exx.nw⟩
                      · rw [upd_ne (ne_of_none h hD)]
                        exact exx.fr a o h t n
                      · by_cases c : a = D
                        · rw [c]; exact Fre.none hD
                        · exact exx.kp a (fun o e => h o (by rw [upd_ne c]; exact e))
  · rintro H' ⟨H0', am', mm, acc, ws, rs, ex, mo', hDa, hD0, hDl, hacc, hwl, e', eq⟩
    rw [List.drop_length] at e'
    cases e'
    rw [List.append_nil] at eq
    subst eq
    obtain ⟨s0, mo2⟩ := mo'.grow hDa hD0 hDl (fun _ z => nomatch z)
    refine fin _ H' am' ⟨ex.s0.trans s0, ex.pre, ex.fr, ex.kp, fun a h1 h2 h3 => ?_⟩ mo2 (.lst upd_same (hacc.same s0))
    have c : a ≠ D := by rintro rfl; exact h3.nf (Fre.none hD)
    rw [upd_ne c]
    exact ex.nw a h1 h2 h3
theorem sd_lc {K : PySem.W.Frag} {T : List (Addr × Str)} {E : XK} {wi : TI} {it : Rho → Mem → Re (List D)} {g : Sl → Rho → Option Rho} {p : Rho → Mem → Re Bool} {f : Rho → Mem → Re Sl} {vs sl : List Nat} (s1 : Sd K T E (Wk K) wi it) (hsl : ∀ i ∈ sl, i ∈ vs) :
    Sd K T E (IsS K) (tLc wi (tOfG K sl g) (tOf K T E0 IsT p) (tOf K T E0 (IsS K) f) vs) (fLcE it g p f vs) := by
  refine s1.bind (R2 := IsS K) (u := fun (J : It) σ H1 (Q : VK) => ∀ D, H1 D = none → ∃ W : Nat → Nat → Hp → Prop, (∃ m, W 0 m (upd H1 D (.lst []))) ∧ ∀ i m H, W i m H →
      (J.stop i H ∧ Q (V.ref D) H) ∨ (J.go i H ∧ ∃ Nx : Hp → Prop, (∀ H', Nx H' → ∃ m', m' < m ∧ W (i + 1) m' H') ∧ ∀ x H', J.yld i H x H' → tOfG K sl g x (wipe σ vs) H' fun σ2 H2 => wipe σ2 vs = wipe σ vs ∧ tOf K T E0 IsT p σ2 H2 fun b H3 =>
        if b = true then tOf K T E0 (IsS K) f σ2 H3 fun y H4 => ∃ acc, H4 D = some (.lst acc) ∧ acc.length < sizeLine ∧ Nx (upd H4 D (.lst (acc ++ [y]))) else Nx H3))
    (g := fLcD g p f vs) fun H0 H am J ds wk ρ m σ r m' Q mo eo e gl => ?_
  intro D hD
  unfold fLcD at e
  split at e
  · rename_i hz
    cases hr : fLc g p f (wipeR ρ vs) ds m with
    | none => rw [hr] at e; cases e
    | some z =>
      obtain ⟨xs, m1⟩ := z
      rw [hr] at e
      cases e
      exact lc_sound wk mo eo hsl hz hr hD fun H0' H' am' ex mo' q => gl _ H0' H' am' ex mo' (.dat q)
  · cases e
theorem px_lc {scope : Scope} {own : List (Str × Nat)} {it : Rho → Mem → Re (List D)} {g : Sl → Rho → Option Rho} {p : Rho → Mem → Re Bool} {f : Rho → Mem → Re Sl} {sl : List Nat} (hc : X.calm = true) (hN : X.N.Nodup) (hi : PIX X T E tg iter it) (ok : BlkOk X.N X.env.scope scope own)
    (hg : ∀ (s : Shared) (H : Hp) (C : Addr) (cl : List (Str × Addr)) (fp : List Addr), PGX (X.blk s H scope (compEnvC scope cl C X.env) fp) tg sl g) (hsl : ∀ i ∈ sl, i ∈ own.map (·.2))
    (ht : ∀ (s : Shared) (H : Hp) (C : Addr) (cl : List (Str × Addr)) (fp : List Addr), PTsX (X.blk s H scope (compEnvC scope cl C X.env) fp) T ifs p)
    (he : ∀ (s : Shared) (H : Hp) (C : Addr) (cl : List (Str × Addr)) (fp : List Addr), PX (X.blk s H scope (compEnvC scope cl C X.env) fp) T E0 elt f) (hs : ∀ x, foldedSetIterable iter X.env x = pure x := by intro _; rfl) :
    PX X T E (.ListComp elt [⟨tg, iter, ifs, 0⟩] scope pos) (fLcE it g p f (own.map (·.2))) := by
  obtain ⟨wi, p1, s1⟩ := hi
  refine ⟨_, pe_lc (g := tOfG X.K sl g) (tt := tOf X.K T E0 IsT p) (te := tOf X.K T E0 (IsS X.K) f) hc hN p1 ok (fun s H C cl fp => (hg s H C cl fp).can) (fun s H C cl fp => (ht s H C cl fp).ex) (fun s H C cl fp => (he s H C cl fp).can) hs, ?_⟩
  exact sd_lc s1 hsl
theorem psx_setLc {i : Nat} {y : Str} {py : Pos} {spos : Pos} {scope : Scope} {own : List (Str × Nat)} {it : Rho → Mem → Re (List D)} {g : Sl → Rho → Option Rho} {p : Rho → Mem → Re Bool} {f : Rho → Mem → Re Sl} {sl : List Nat} (hc : X.calm = true) (hN : X.N.Nodup) (hy : X.N[i]? = some y) (hyl : X.env.scope.names.lookup y = some .local)
    (hsw : swapsWith (.ListComp elt [⟨tg, iter, ifs, 0⟩] scope pos) (some (.Name y py)) spos.line X.env = pure true) (hi : PIX X T E tg iter it) (ok : BlkOk X.N X.env.scope scope own)
    (hg : ∀ (s : Shared) (H : Hp) (C : Addr) (cl : List (Str × Addr)) (fp : List Addr), PGX (X.blk s H scope (compEnvC scope cl C X.env) fp) tg sl g) (hsl : ∀ i ∈ sl, i ∈ own.map (·.2))
    (ht : ∀ (s : Shared) (H : Hp) (C : Addr) (cl : List (Str × Addr)) (fp : List Addr), PTsX (X.blk s H scope (compEnvC scope cl C X.env) fp) T ifs p)
    (he : ∀ (s : Shared) (H : Hp) (C : Addr) (cl : List (Str × Addr)) (fp : List Addr), PX (X.blk s H scope (compEnvC scope cl C X.env) fp) T E0 elt f) (hs : ∀ x, foldedSetIterable iter X.env x = pure x := by intro _; rfl) :
    PSX X T E (.Assign [.Name y py] (.ListComp elt [⟨tg, iter, ifs, 0⟩] scope pos) spos) (fSet i (fLcE it g p f (own.map (·.2)))) := by
  obtain ⟨wi, p1, s1⟩ := hi
  refine ⟨_, ps_setLc (g := tOfG X.K sl g) (tt := tOf X.K T E0 IsT p) (te := tOf X.K T E0 (IsS X.K) f) hc hN hy hyl hsw p1 ok (fun s H C cl fp => (hg s H C cl fp).can) (fun s H C cl fp => (ht s H C cl fp).ex) (fun s H C cl fp => (he s H C cl fp).can) hs, ?_⟩
  exact (sd_lc s1 hsl).toS (u := fun v D σ H => D.nx (σ.set i (some v)) H) (g := fun s ρ m' => some (.nx (ρ.set i (some s)), m')) fun H0 H am x a q ρ m σ o m' D mo eo e gl => by
    cases e
    exact gl _ H0 H am Ex.refl mo (eo.set q)
end
end Pu
namespace Pu
open PySem PySem.Spec PyProof.Rows L2
open LamX (Tabs)
/-! ### defs -/
def okSl (n : Nat) : Sl → Bool
  | .dat _ => true
  | .opq i => decide (i < n)
def okMO (n : Nat) : MO → Bool
  | .lst xs => xs.all (okSl n)
  | _ => true
/-- the store at a def's end: what it made is left behind -/
def trim (n : Nat) (r : Except Er Sl) (m' : Mem) : Re Sl :=
  if m'.length = n then some (r, m')
  else if (m'.take n).all (okMO n) = true then
    match r with
    | .ok s => if okSl n s = true then some (r, m'.take n) else none
    | .error e => some (r, m'.take n)
  else none
/-- what a def gives: from its body's denotation -/
def runF (g : Rho → Mem → RS) (n : Nat) (ss : List Sl) (m : Mem) : Re Sl :=
  match g (ss.map some ++ List.replicate (n - ss.length) none) m with
  | some (.nx _, m') => trim m.length (.ok (.dat .non)) m'
  | some (.rt s, m') => trim m.length (.ok s) m'
  | some (.er e, m') => trim m.length (.error e) m'
  | _ => none
section
variable {K : PySem.W.Frag} {T : List (Addr × Str)} {E : XK} {H0 H H1 H' : Hp} {am am' : List Addr} {m m' : Mem}
theorem okSl_is {n : Nat} {v : V} {s : Sl} (q : IsS K H1 am' v s) (h : okSl n s = true) : IsS K H1 (am'.take n) v s := by
  cases q with
  | dat q => exact .dat q
  | opq q =>
    have : _ < n := of_decide_eq_true h
    exact .opq (by rw [List.getElem?_take_of_lt this]; exact q)
theorem okMO_is {n : Nat} {u : HO} {o : MO} (q : MIs K H1 am' u o) (h : okMO n o = true) : MIs K H1 (am'.take n) u o := by
  cases o with
  | lst xs =>
    obtain ⟨vs, e, t⟩ := q
    refine ⟨vs, e, ?_⟩
    have h2 : xs.all (okSl n) = true := h
    clear e h
    induction t with
    | nil => exact .nil
    | cons r t ih =>
      rw [List.all_cons, Bool.and_eq_true] at h2
      exact .cons (okSl_is r h2.1) (ih h2.2)
  | dic ds => exact q
  | ins C gs => exact q
  | fz d => exact q
/-- the trimmed end serves where the whole one is to serve -/
theorem trim_ok {r r' : Except Er Sl} {m2 : Mem} {Q : VK} (hm : am.length = m.length) (e : trim m.length r m' = some (r', m2)) (gl : Glo K T E (IsS K) H0 H am r' m2 Q) : Glo K T E (IsS K) H0 H am r m' Q := by
  unfold trim at e
  split at e
  · cases e; exact gl
  · split at e
    · rename_i hall
      have cut : ∀ {H1 H' : Hp} {am' : List Addr}, Ex H0 H H1 H' am am' → MOk K T H1 am' H' m' → am'.take m.length = am ∧ Ex H0 H H1 H' am am ∧ MOk K T H1 am H' (m'.take m.length) := fun {H1 H' am'} ex mo => by
        obtain ⟨rr, e1, h1⟩ := ex.pre
        have ht : am'.take m.length = am := by rw [e1, ← hm, List.take_left']; rfl
        refine ⟨ht, ⟨ex.s0, ⟨[], by simp, by simp⟩, ex.fr, ex.kp, ex.nw⟩, ?_, ?_, fun i o h => ?_, mo.sub, fun a h => mo.tr a (by rw [e1]; exact List.mem_append_left _ h), mo.nt, mo.tb⟩
        · rw [List.length_take, ← mo.len, e1, List.length_append]; omega
        · rw [← ht]; exact mo.nd.sublist (List.take_sublist _ _)
        · have hi : i < m.length := by
            have := (List.getElem?_eq_some_iff.mp h).1
            rw [List.length_take] at this
            omega
          have hok : okMO m.length o = true := List.all_eq_true.mp hall o (List.mem_of_getElem? h)
          rw [List.getElem?_take_of_lt hi] at h
          obtain ⟨a, e2, q⟩ := mo.is i o h
          refine ⟨a, by rw [← ht, List.getElem?_take_of_lt hi]; exact e2, ?_⟩
          rcases q with ⟨u, h2, h3, q⟩ | q
          · exact .inl ⟨u, h2, h3, by rw [← ht]; exact okMO_is q hok⟩
          · exact .inr q
      cases r with
      | error x =>
        cases e
        exact fun H1 H' am' ex mo => gl H1 H' am (cut ex mo).2.1 (cut ex mo).2.2
      | ok s =>
        dsimp only at e
        split at e
        · rename_i hs
          cases e
          exact fun v H1 H' am' ex mo q => gl v H1 H' am (cut ex mo).2.1 (cut ex mo).2.2 (by rw [← (cut ex mo).1]; exact okSl_is q hs)
        · cases e
    · cases e
end
/-- the promise of a def that computes F -/
def spX (K : PySem.W.Frag) (T : List (Addr × Str)) (n : Nat) (F : List Sl → Mem → Re Sl) : Sp := fun vs H Q E => vs.length = n ∧ ∃ H0 am m ss r m', MOk K T H0 am H m ∧ Paired (IsS K H0 am) vs ss ∧ F ss m = some (r, m') ∧ Glo K T E (IsS K) H0 H am r m' Q
structure FnX (P : Program) (w : World) (K : PySem.W.Frag) (mg : Str → Option Value) (base : Heap) (T : List (Addr × Str)) (k : Nat) (f : Addr) (fd : FuncData) (ps : List Str) (F : List Sl → Mem → Re Sl) : Prop where
  ok : FnOk P w K mg base (L2.CX P w) k f fd ps (spX K T ps.length F)
section
variable {P : Program} {w : World} {K : PySem.W.Frag} {T : List (Addr × Str)} {mg : Str → Option Value} {base : Heap}
/-- a def that computes less is computed too -/
theorem FnX.imp {k : Nat} {f : Addr} {fd : FuncData} {ps : List Str} {F G : List Sl → Mem → Re Sl} (h : FnX P w K mg base T k f fd ps F) (hg : ∀ ss m x, G ss m = some x → F ss m = some x) : FnX P w K mg base T k f fd ps G :=
  ⟨h.ok.imp fun vs H Q E ⟨hl, H0, am, m, ss, r, m', mo, q, e, gl⟩ => ⟨hl, H0, am, m, ss, r, m', mo, q, hg _ _ _ e, gl⟩⟩
theorem FnX.mono {j k : Nat} {f : Addr} {fd : FuncData} {ps : List Str} {F : List Sl → Mem → Re Sl} (h : FnX P w K mg base T j f fd ps F) (l : j ≤ k) : FnX P w K mg base T k f fd ps F := ⟨h.ok.mono l⟩
theorem env_start {H0 : Hp} {am : List Addr} {N : List Str} : ∀ {vs : List V} {ss : List Sl}, Paired (IsS K H0 am) vs ss → EnvOk K H0 am (ss.map some ++ List.replicate (N.length - ss.length) none) (L2.start N vs) := fun {vs ss} q => by
  have hl := q.length
  refine ⟨by unfold L2.start; rw [List.length_append, List.length_append, List.length_map, List.length_map, List.length_replicate, List.length_replicate, hl], fun i s h => ?_⟩
  have hi : i < ss.length := by
    by_cases hi : i < ss.length
    · exact hi
    · rw [List.getElem?_append_right (by simpa using hi), List.getElem?_replicate] at h
      split at h <;> cases h
  rw [List.getElem?_append_left (by simpa using hi), List.getElem?_map] at h
  have key : ∀ {vs : List V} {ss : List Sl} {i : Nat}, Paired (IsS K H0 am) vs ss → (ss[i]?).map some = some (some s) → ∃ v, vs[i]? = some v ∧ IsS K H0 am v s := by
    intro vs ss i q
    induction q generalizing i with
    | nil => intro h; simp at h
    | cons r t ih =>
      intro h
      cases i with
      | zero => simp at h; subst h; exact ⟨_, rfl, r⟩
      | succ i => exact ih (i := i) (by simpa using h)
  obtain ⟨v, e, z⟩ := key q h
  refine ⟨v, ?_, z⟩
  unfold L2.start
  rw [List.getElem?_append_left (by rw [List.length_map, hl]; exact hi), List.getElem?_map, e]
  rfl
/-- THE RULE: a def of the text computes what its body tells -/
theorem FnX.of {x qual : Str} {st : Stmt} {f : Addr} {fd : FuncData} {N ps : List Str} {k : Nat} {g : Rho → Mem → RS} (F : Fun K x qual st f fd) (S : FnScope N ps (defScope st))
    (hbody : ∀ (cdv : Value) (A : Around) (outer : List Env) (s : Shared) (H : Hp) (E : XK), Room k (A.deeper (envOfC qual (defScope st) s.heap.objs.size f cdv)) →
      PSsX (cxOf (L2.CX P w) P w K mg base N qual (defScope st) f cdv A outer s H E) T E (defBody st) g) : FnX P w K mg base T (k + 1) f fd ps (runF g N.length) := by
  refine ⟨F.okX S (fun vs H Q E h => h.1) fun cdv A outer s H vs Q E hr h => ?_⟩
  obtain ⟨hl, H0, am, m, ss, r, m', mo, q, e, gl⟩ := h
  obtain ⟨t, p, sd⟩ := hbody cdv A outer s H E hr
  refine ⟨t, p, ?_⟩
  unfold runF at e
  cases hg : g (ss.map some ++ List.replicate (N.length - ss.length) none) m with
  | none => rw [hg] at e; cases e
  | some z =>
    obtain ⟨o, m1⟩ := z
    rw [hg] at e
    have eo : EnvOk K H0 am (ss.map some ++ List.replicate (N.length - ss.length) none) (L2.start N vs) := env_start q
    refine sd H0 am H _ m _ o m1 _ mo eo hg ?_
    cases o with
    | nx ρ =>
      have g2 := trim_ok mo.len e gl
      exact fun σ H1 H' am' ex mo' eo' => g2 .non H1 H' am' ex mo' (.dat .non)
    | rt s =>
      have g2 := trim_ok mo.len e gl
      exact fun v H1 H' am' ex mo' q' => g2 v H1 H' am' ex mo' q'
    | er x =>
      have g2 := trim_ok mo.len e gl
      exact g2
    | bk ρ => cases e
    | ct ρ => cases e
end
/-! ### calls -/
def fCall (F : List Sl → Mem → Re Sl) (dds : List D) (fa : Rho → Mem → Re (List Sl)) : Rho → Mem → Re Sl := bindD fa fun ss _ m => F (ss ++ dds.map Sl.dat) m
theorem passE {P : Program} {w : World} {K : PySem.W.Frag} {T : List (Addr × Str)} {mg : Str → Option Value} {base : Heap} {N : List Str} {qual : Str} {sc : Scope} {f : Addr} {cdv : Value} {A : Around} {outer : List Env} {s : Shared} {H : Hp} {E : XK} :
    Passes (L2.CX P w) (cxOf (L2.CX P w) P w K mg base N qual sc f cdv A outer s H E) E := fun pins σ H' s' e s'' I h => by
  have tk : Takes (cxOf (L2.CX P w) P w K mg base N qual sc f cdv A outer s H E) (fun cls d _ H => E cls d H) := takes_of rfl rfl rfl rfl
  exact passes_call tk (fun _ _ _ _ h => h) pins σ H' s' e s'' I h
section
variable {X : Cx} {T : List (Addr × Str)} {E : XK} {x : Str} {p pos : Pos} {e : Expr} {es : List Expr} {k : Nat} {f : Addr} {fd : FuncData} {ps : List Str} {F : List Sl → Mem → Re Sl} {ds : List Value} {dvs : List V} {dds : List D} {fa : Rho → Mem → Re (List Sl)}
theorem sd_call (hd : ∀ H, IsAll X.K H dvs dds) {t : TA} (hn : ∀ ρ m ss m', fa ρ m = some (.ok ss, m') → (ss ++ dds.map Sl.dat).length = ps.length) (s : Sd X.K T E (fun H0 am => Paired (IsS X.K H0 am)) t fa) : Sd X.K T E (IsS X.K) (tCall (spX X.K T ps.length F) dvs E t) (fCall F dds fa) := by
  intro H0 am H ρ m σ r m' Q mo eo e gl
  unfold fCall bindD bindR at e
  cases hf : fa ρ m with
  | none => simp only [hf] at e; cases e
  | some z =>
    obtain ⟨z, m1⟩ := z
    simp only [hf] at e
    cases z with
    | error w => cases e; exact s H0 am H ρ m σ (.error w) _ _ mo eo hf gl
    | ok ss =>
      refine s H0 am H ρ m σ (.ok ss) m1 _ mo eo hf fun vs H1 H' am' ex mo' q => ?_
      have q2 : Paired (IsS X.K H1 am') (vs ++ dvs) (ss ++ dds.map Sl.dat) := by
        have app : ∀ {vs : List V} {ss : List Sl}, Paired (IsS X.K H1 am') vs ss → Paired (IsS X.K H1 am') (vs ++ dvs) (ss ++ dds.map Sl.dat) := by
          intro vs ss q
          induction q with
          | nil => exact IsAll.sl (hd H1)
          | cons r t ih => exact .cons r ih
        exact app q
      exact ⟨by rw [q2.length]; exact hn _ _ _ _ hf, H1, am', m1, _, r, m', mo', q2, e, gl.ex ex⟩
theorem px_call (G : FnX X.prog X.w X.K X.mg X.base T k f fd ps F) (hr : Room k X.A) (hg : Gl X x) (hm : X.mg x = some (.ref f)) (hk : PySem.W.keepIn X.K (.ref f) = true) (hb : Binds X.K fd ps ds) (hd : Vals dvs ds) (hdd : ∀ H, IsAll X.K H dvs dds) (hx : Passes (L2.CX X.prog X.w) X E)
    (ha : PAX X T E (e :: es) fa) (hn : (e :: es).length + dds.length = ps.length := by rfl) (hdb : (x == ("__debug__" : Str)) = false := by decide) (he : starEach (e :: es) X.env = (false, eval e X.env) :: starEach es X.env := by rfl) (hpl : (backTo pos (starEach es X.env)).any (·.1) = false := by rfl) :
    PX X T E (.Call (.Name x p) (e :: es) [] pos) (fCall F dds fa) := by
  obtain ⟨⟨t, pa, s⟩, hlen⟩ := ha
  exact ⟨_, pe_call G.ok hr hg hm hk hb hd hx pa hdb he hpl, sd_call hdd (fun ρ m ss m' q => by rw [List.length_append, List.length_map, hlen _ _ _ _ q]; exact hn) s⟩
end
end Pu
namespace Pu
open PySem PySem.Spec PyProof.Rows L2
open LamX (Tabs)
/-! ### operations -/
section
variable {X : Cx} {T : List (Addr × Str)} {K : PySem.W.Frag} {T : List (Addr × Str)}
theorem OpR.or {f : Value → Value → Sem Value} {r r' : R2} (h : OpR X f r) (h' : OpR X f r') : OpR X f (fun x y H Q => r x y H Q ∨ r' x y H Q) := fun pins s σ H x y v u Q I rx ry z => by
  rcases z with z | z
  · exact h pins s σ H x y v u Q I rx ry z
  · exact h' pins s σ H x y v u Q I rx ry z
theorem CallR.or {f : Value} {r r' : List V → Hp → VK → Prop} (h : CallR X f r) (h' : CallR X f r') : CallR X f (fun xs H Q => r xs H Q ∨ r' xs H Q) := fun pins s σ H xs us Q I ru z => by
  rcases z with z | z
  · exact h pins s σ H xs us Q I ru z
  · exact h' pins s σ H xs us Q I ru z
/-- a + b -/
def oAdd : D → D → Option D
  | .int i, .int j => some (.int (i + j))
  | .str a, .str b => if a.length + b.length ≤ sizeLine then some (.str (a ++ b)) else none
  | .lst a, .lst b => if a.length + b.length ≤ sizeLine then some (.lst (a ++ b)) else none
  | .tup a, .tup b => if a.length + b.length ≤ sizeLine then some (.tup (a ++ b)) else none
  | _, _ => none
def rAddU (K : PySem.W.Frag) : R2 := fun x y H Q => (((∃ i j : Int, x = .int i ∧ y = .int j ∧ Q (.int (i + j)) H) ∨ (∃ i j, x = .str i ∧ y = .str j ∧ i.length + j.length ≤ sizeLine ∧ Q (.str (i ++ j)) H)) ∨ rCat x y H Q) ∨ rCatA K x y H Q
theorem op_addU : OpR X (binaryOp .Add) (rAddU X.K) := OpR.or (OpR.or (OpR.or op_add op_add_str) op_cat) op_catA
theorem od_add : OpD K (rAddU K) oAdd := by
  intro H0 H x y d e c Q s hx hy ho k
  unfold oAdd at ho
  split at ho
  · cases ho; cases hx.intI; cases hy.intI
    exact .inl (.inl (.inl ⟨_, _, rfl, rfl, k _ _ _ (Nw.refl s) (.int _)⟩))
  · split at ho
    · rename_i hl
      cases ho; cases hx.strI; cases hy.strI
      exact .inl (.inl (.inr ⟨_, _, rfl, rfl, hl, k _ _ _ (Nw.refl s) (.str _)⟩))
    · cases ho
  · split at ho
    · rename_i hl
      cases ho
      obtain ⟨a, vs, rfl, h1, t1⟩ := hx.lstI s
      obtain ⟨b, ws, rfl, h2, t2⟩ := hy.lstI s
      refine .inl (.inr ⟨a, b, vs, ws, rfl, rfl, h1, h2, by rw [t1.len, t2.len]; exact hl, fun p hp => ?_⟩)
      have nw := Nw.alloc s (o := .lst (vs ++ ws)) hp
      exact k _ _ _ nw (.lst upd_same ((IsAll.append t2 t1).same nw.s0))
    · cases ho
  · split at ho
    · rename_i hl
      cases ho
      obtain ⟨a, vs, rfl, h1, t1⟩ := hx.tupI s
      obtain ⟨b, ws, rfl, h2, t2⟩ := hy.tupI s
      have g1 : ∀ {a : Addr} {v : V} {xs : List D}, v = .ref a → Vw K H0 H v (.tup xs) → Is K H0 v (.tup xs) := fun {a v xs} _ h => by
        cases h with
        | imm h => exact h
      refine .inr ⟨a, b, vs, ws, rfl, rfl, h1.sq, h2.sq, by rw [t1.len, t2.len]; exact hl, fun e => ?_, fun _ e => ?_, fun _ _ p hp => ?_⟩
      · subst e
        cases t1
        exact k _ _ _ (Nw.refl s) (g1 rfl hy)
      · subst e
        cases t2
        rw [List.append_nil] at k
        exact k _ _ _ (Nw.refl s) (g1 rfl hx)
      · have nw := Nw.alloc s (o := .tup (vs ++ ws)) hp
        exact k _ _ _ nw (.tup upd_same ((IsAll.append t2 t1).same nw.s0))
    · cases ho
  · cases ho
/-- on ints -/
def oI (C : Int → Int → Bool) (g : Int → Int → Int) : D → D → Option D
  | .int i, .int j => if C i j = true then some (.int (g i j)) else none
  | _, _ => none
theorem od_I {C : Int → Int → Prop} {D' : Int → Int → Bool} {g : Int → Int → Int} (h : ∀ i j, D' i j = true → C i j) : OpD K (rI C fun i j => .int (g i j)) (oI D' g) := by
  intro H0 H x y d e c Q s hx hy ho k
  unfold oI at ho
  split at ho
  · split at ho
    · rename_i hc
      cases ho; cases hx.intI; cases hy.intI
      exact ⟨_, _, rfl, rfl, h _ _ hc, k _ _ _ (Nw.refl s) (.int _)⟩
    · cases ho
  · cases ho
def oSub : D → D → Option D
  | .int i, .int j => some (.int (i - j))
  | _, _ => none
theorem od_sub : OpD K (rI0 fun i j => .int (i - j)) oSub := by
  intro H0 H x y d e c Q s hx hy ho k
  unfold oSub at ho
  split at ho
  · cases ho; cases hx.intI; cases hy.intI
    exact ⟨_, _, rfl, rfl, k _ _ _ (Nw.refl s) (.int _)⟩
  · cases ho
instance (i j : Int) : Decidable (CMulX i j) := by unfold CMulX; infer_instance
def oMulI : D → D → Option D := oI (fun i j => decide (CMulX i j)) fun i j => i * j
theorem od_mulI : OpD K (rI CMulX fun i j => .int (i * j)) oMulI := od_I fun _ _ h => of_decide_eq_true h
def cDiv (i j : Int) : Bool := decide (0 < j) && decide (j.natAbs.log2 < 9000)
def oDiv : D → D → Option D := oI cDiv fun i j => i / j
theorem od_div : OpD K (rI CDivW fun i j => .int (i / j)) oDiv := od_I fun i j h => by
  unfold cDiv at h
  rw [Bool.and_eq_true] at h
  exact ⟨of_decide_eq_true h.1, of_decide_eq_true h.2⟩
def oMod : D → D → Option D := oI (fun _ j => decide (0 < j)) fun i j => i % j
theorem od_mod : OpD K (rI (fun _ j => 0 < j) fun i j => .int (i % j)) oMod := od_I fun i j h => of_decide_eq_true h
def oPow : D → D → Option D := oI (fun i j => decide (0 ≤ j) && decide (j ≤ 1000000) && decide (i.natAbs < 2 ^ 64)) fun i j => i ^ j.toNat
theorem od_pow : OpD K (rI CPow fun i j => .int (i ^ j.toNat)) oPow := od_I fun i j h => by
  rw [Bool.and_eq_true, Bool.and_eq_true] at h
  exact ⟨of_decide_eq_true h.1.1, of_decide_eq_true h.1.2, of_decide_eq_true h.2⟩
def oNeg : D → Option D
  | .int i => some (.int (-i))
  | _ => none
theorem ud_neg : UnD K (rU fun i => .int (-i)) oNeg := by
  intro H0 H x d c Q s hx ho k
  unfold oNeg at ho
  split at ho
  · cases ho; cases hx.intI
    exact ⟨_, rfl, k _ _ _ (Nw.refl s) (.int _)⟩
  · cases ho
/-- comparisons of ints -/
def oC (g : Int → Int → Bool) : D → D → Option D
  | .int i, .int j => some (.bl (g i j))
  | _, _ => none
theorem od_C {g : Int → Int → Bool} : OpD K (rI0 fun i j => .bl (g i j)) (oC g) := by
  intro H0 H x y d e c Q s hx hy ho k
  unfold oC at ho
  split at ho
  · cases ho; cases hx.intI; cases hy.intI
    exact ⟨_, _, rfl, rfl, k _ _ _ (Nw.refl s) (.bl _)⟩
  · cases ho
abbrev oLt := oC fun i j => decide (i < j)
abbrev oLe := oC fun i j => decide (i ≤ j)
abbrev oGt := oC fun i j => decide (j < i)
abbrev oGe := oC fun i j => decide (j ≤ i)
/-- is None -/
def isNon : D → Bool
  | .non => true
  | _ => false
def oIsN (neg : Bool) : D → D → Option D
  | d, .non => some (.bl (if neg then !isNon d else isNon d))
  | _, _ => none
theorem isNon_is {H0 H : Hp} {x : V} {d : D} (h : Vw K H0 H x d) : decide (x = V.non) = isNon d := by
  cases h with
  | imm h => cases h <;> first | rfl | exact decide_eq_false (fun z => nomatch z)
  | lst h t => exact decide_eq_false (fun z => nomatch z)
  | dic h t => exact decide_eq_false (fun z => nomatch z)
  | ins h t => exact decide_eq_false (fun z => nomatch z)
theorem od_isN : OpD K (fun x y H Q => y = .non ∧ Q (.bl (decide (x = .non))) H) (oIsN false) := by
  intro H0 H x y d e c Q s hx hy ho k
  unfold oIsN at ho
  split at ho
  · cases ho; cases hy.nonI
    exact ⟨rfl, k _ _ _ (Nw.refl s) (by rw [isNon_is hx]; exact .bl _)⟩
  · cases ho
theorem od_notN : OpD K (fun x y H Q => y = .non ∧ Q (.bl (!decide (x = .non))) H) (oIsN true) := by
  intro H0 H x y d e c Q s hx hy ho k
  unfold oIsN at ho
  split at ho
  · cases ho; cases hy.nonI
    exact ⟨rfl, k _ _ _ (Nw.refl s) (by rw [isNon_is hx]; exact .bl _)⟩
  · cases ho
/-! == of data -/
mutual
def toPy : D → Option PyData
  | .non => some .none
  | .bl b => some (.bool b)
  | .int i => some (.int i)
  | .str z => some (.str z)
  | .lst xs => (toPyAll xs).map PyData.list
  | .tup xs => (toPyAll xs).map PyData.tuple
  | _ => none
def toPyAll : List D → Option (List PyData)
  | [] => some []
  | d :: ds => match toPy d, toPyAll ds with
    | some p, some ps => some (p :: ps)
    | _, _ => none
end
theorem toPyAll_dp {H : Hp} {ds : List D} (h : ∀ d ∈ ds, ∀ v p, Is K H v d → toPy d = some p → Dp K H v p) : ∀ {vs : List V} {ps : List PyData}, IsAll K H vs ds → toPyAll ds = some ps → DpAll K H vs ps := by
  induction ds with
  | nil => intro vs ps t e; cases t; unfold toPyAll at e; cases e; exact .nil
  | cons d ds ih =>
    intro vs ps t e
    cases t with
    | cons r t =>
      unfold toPyAll at e
      cases h1 : toPy d with
      | none => rw [h1] at e; cases e
      | some p => cases h2 : toPyAll ds with
        | none => rw [h1, h2] at e; cases e
        | some l => rw [h1, h2] at e; cases e; exact .cons (h d List.mem_cons_self _ _ r h1) (ih (fun d' hd => h d' (List.mem_cons_of_mem _ hd)) t h2)
theorem toPy_dp {H : Hp} : ∀ (n : Nat) (d : D), sizeOf d < n → ∀ v p, Is K H v d → toPy d = some p → Dp K H v p
  | 0, d, h => by omega
  | n + 1, d, h => fun v p q e => by
    cases q with
    | non => unfold toPy at e; cases e; exact .non
    | bl b => unfold toPy at e; cases e; exact .bl b
    | int b => unfold toPy at e; cases e; exact .int b
    | str b => unfold toPy at e; cases e; exact .str b
    | ty n => unfold toPy at e; cases e
    | fn a => unfold toPy at e; cases e
    | dic _ _ => unfold toPy at e; cases e
    | ins _ _ => unfold toPy at e; cases e
    | frl _ _ => unfold toPy at e; cases e
    | @lst a vs xs hh t =>
      unfold toPy at e
      cases h2 : toPyAll xs with
      | none => rw [h2] at e; cases e
      | some l =>
        rw [h2] at e; cases e
        refine .lst (SqL.of hh) (toPyAll_dp (fun d hd v p q e => toPy_dp n d ?_ v p q e) t h2)
        have := List.sizeOf_lt_of_mem hd
        simp only [D.lst.sizeOf_spec] at h
        omega
    | @tup a vs xs hh t =>
      unfold toPy at e
      cases h2 : toPyAll xs with
      | none => rw [h2] at e; cases e
      | some l =>
        rw [h2] at e; cases e
        refine .tup hh.sq (toPyAll_dp (fun d hd v p q e => toPy_dp n d ?_ v p q e) t h2)
        have := List.sizeOf_lt_of_mem hd
        simp only [D.tup.sizeOf_spec] at h
        omega
def oEq (neg : Bool) (d e : D) : Option D := match toPy d, toPy e with
  | some p, some q => if SeqAt.shaped p = true ∧ SeqAt.shaped q = true then some (.bl (if neg then !PyData.eqv p q else PyData.eqv p q)) else none
  | _, _ => none
theorem od_eq : OpD K (rEqD K) (oEq false) := by
  intro H0 H x y d e c Q s hx hy ho k
  unfold oEq at ho
  split at ho
  · rename_i p q h1 h2
    split at ho
    · rename_i hc
      cases ho
      exact ⟨p, q, toPy_dp _ d (Nat.lt_succ_self _) _ _ (hx.is s fun k z => by subst z; cases h1) h1, toPy_dp _ e (Nat.lt_succ_self _) _ _ (hy.is s fun k z => by subst z; cases h2) h2, hc.1, hc.2, k _ _ _ (Nw.refl s) (.bl _)⟩
    · cases ho
  · cases ho
theorem od_ne : OpD K (rNeD K) (oEq true) := by
  intro H0 H x y d e c Q s hx hy ho k
  unfold oEq at ho
  split at ho
  · rename_i p q h1 h2
    split at ho
    · rename_i hc
      cases ho
      exact ⟨p, q, toPy_dp _ d (Nat.lt_succ_self _) _ _ (hx.is s fun k z => by subst z; cases h1) h1, toPy_dp _ e (Nat.lt_succ_self _) _ _ (hy.is s fun k z => by subst z; cases h2) h2, hc.1, hc.2, k _ _ _ (Nw.refl s) (.bl _)⟩
    · cases ho
  · cases ho
/-! in -/
def flatD : D → Bool
  | .non => true | .bl _ => true | .int _ => true | .str _ => true | _ => false
def eqF : D → D → Bool
  | .non, .non => true
  | .bl a, .bl b => a == b
  | .bl a, .int b => (if a then 1 else 0) == b
  | .int a, .bl b => a == (if b then 1 else 0)
  | .int a, .int b => a == b
  | .str a, .str b => a == b
  | _, _ => false
theorem flat_is {H0 H : Hp} {x : V} {d : D} (h : Vw K H0 H x d) (f : flatD d = true) : flatV x = true := by
  cases h with
  | imm h => cases h <;> first | rfl | exact absurd (show false = true from f) Bool.false_ne_true
  | lst h t => exact absurd (show false = true from f) Bool.false_ne_true
  | dic h t => exact absurd (show false = true from f) Bool.false_ne_true
  | ins h t => exact absurd (show false = true from f) Bool.false_ne_true
theorem eqF_is {H0 : Hp} {x y : V} {d e : D} (h : Is K H0 x d) (h' : Is K H0 y e) (f : flatD d = true) (f' : flatD e = true) : eqV x y = eqF d e := by
  cases h <;> first | exact absurd (show false = true from f) Bool.false_ne_true | (cases h' <;> first | rfl | exact absurd (show false = true from f') Bool.false_ne_true)
theorem Vw.flatIs {H0 H : Hp} {x : V} {d : D} (h : Vw K H0 H x d) (f : flatD d = true) : Is K H0 x d := by
  cases h with
  | imm h => exact h
  | lst h t => exact absurd (show false = true from f) Bool.false_ne_true
  | dic h t => exact absurd (show false = true from f) Bool.false_ne_true
  | ins h t => exact absurd (show false = true from f) Bool.false_ne_true
theorem inV_is {H0 : Hp} {x : V} {d : D} (h : Is K H0 x d) (f : flatD d = true) : ∀ {vs : List V} {ds : List D}, IsAll K H0 vs ds → ds.all flatD = true → vs.all flatV = true ∧ inV x vs = ds.any fun e => eqF e d
  | _, _, .nil, _ => ⟨rfl, rfl⟩
  | _, _, .cons r t, g => by
    rw [List.all_cons, Bool.and_eq_true] at g
    obtain ⟨h1, h2⟩ := inV_is h f t g.2
    unfold inV at h2 ⊢
    rw [List.all_cons, List.any_cons, List.any_cons, h1, h2, eqF_is r h g.1 f, flat_is (H := H0) (.imm r) g.1]
    exact ⟨rfl, rfl⟩
def oInS (neg : Bool) : D → D → Option D
  | d, .lst xs => if flatD d = true ∧ xs.all flatD = true then some (.bl (if neg then !xs.any (fun e => eqF e d) else xs.any (fun e => eqF e d))) else none
  | d, .tup xs => if flatD d = true ∧ xs.all flatD = true then some (.bl (if neg then !xs.any (fun e => eqF e d) else xs.any (fun e => eqF e d))) else none
  | _, _ => none
theorem od_inS {neg : Bool} : OpD K (rIn K neg) (oInS neg) := by
  intro H0 H x y d e c Q s hx hy ho k
  unfold oInS at ho
  split at ho
  · split at ho
    · rename_i hc
      cases ho
      obtain ⟨a, vs, rfl, h1, t1⟩ := hy.lstI s
      obtain ⟨g1, g2⟩ := inV_is (hx.flatIs hc.1) hc.1 t1 hc.2
      exact ⟨a, vs, rfl, .inl (SqL.of h1), flat_is hx hc.1, g1, by rw [g2]; exact k _ _ _ (Nw.refl s) (.bl _)⟩
    · cases ho
  · split at ho
    · rename_i hc
      cases ho
      obtain ⟨a, vs, rfl, h1, t1⟩ := hy.tupI s
      obtain ⟨g1, g2⟩ := inV_is (hx.flatIs hc.1) hc.1 t1 hc.2
      exact ⟨a, vs, rfl, .inr h1.sq, flat_is hx hc.1, g1, by rw [g2]; exact k _ _ _ (Nw.refl s) (.bl _)⟩
    · cases ho
  · cases ho
/-- a text in a text -/
def inT (i j : Str) : Bool := !(Builtin.Str.occurrences j i 0 j.length 1).isEmpty
def oInT (neg : Bool) : D → D → Option D
  | .str i, .str j => some (.bl (if neg then !inT i j else inT i j))
  | _, _ => none
theorem od_inT : OpD K (fun x y H Q => ∃ i j, x = .str i ∧ y = .str j ∧ Q (.bl (!(Builtin.Str.occurrences j i 0 j.length 1).isEmpty)) H) (oInT false) := by
  intro H0 H x y d e c Q s hx hy ho k
  unfold oInT at ho
  split at ho
  · cases ho; cases hx.strI; cases hy.strI
    exact ⟨_, _, rfl, rfl, k _ _ _ (Nw.refl s) (.bl _)⟩
  · cases ho
theorem od_notInT : OpD K (fun x y H Q => ∃ i j, x = .str i ∧ y = .str j ∧ Q (.bl (!(!(Builtin.Str.occurrences j i 0 j.length 1).isEmpty))) H) (oInT true) := by
  intro H0 H x y d e c Q s hx hy ho k
  unfold oInT at ho
  split at ho
  · cases ho; cases hx.strI; cases hy.strI
    exact ⟨_, _, rfl, rfl, k _ _ _ (Nw.refl s) (.bl _)⟩
  · cases ho
end
end Pu
namespace EV
open PySem PySem.Spec PyProof.Rows L2
/-- at a: an exception of the class C, held as a value; its own dict at d, or none -/
def exv (a C : Addr) (d : Option Addr) : HO :=
  .ext fun h => ∃ (oe : Obj) (vs : Array Value), h.get? a = some oe ∧ oe.cls = .ref C ∧ oe.dict = d ∧ oe.data = .fields vs
theorem exv_ok {P : Program} {w : World} {H : Hp} {h : Heap} {a C : Addr} {d : Option Addr} {oe : Obj} {vs : Array Value}
    (e : h.get? a = some oe) (c : oe.cls = .ref C) (k : oe.dict = d) (q : oe.data = .fields vs) : ObjOk P w H h a (exv a C d) :=
  ⟨⟨oe, vs, e, c, k, q⟩, ⟨oe, e⟩, fun _ _ ⟨o, v, r1, r2⟩ f => ⟨o, v, f o r1, r2⟩⟩
section
variable {X : Cx} {e : Expr} {es : List Expr} {te : TE} {f : Str} {pos : Pos}
/-- a made exception, kept -/
theorem pe_val {t : L2.St → Hp → XK → Prop} (he : PMk X e t) :
    PE X e (fun σ H Q => t σ H fun cls d H1 => ∃ C, cls = .ref C ∧ ∀ a, H1 a = none → Q (.ref a) (upd H1 a (exv a C d))) := by
  refine ⟨fun pins s σ H Q I h => ?_⟩
  refine thn (he pins s σ H _ I h) fun u s1 hu => ?_
  obtain ⟨a, oe, vs, sI, H1, cls, d, rfl, J, k, hp, ha, hz, hd, h1, hn, os, ag, hr, C, rfl, q⟩ := hu
  have new := exv_ok (P := X.prog) (w := X.w) (H := upd H1 a (exv a C d)) ha hz.1 hz.2 hd
  exact ⟨.ref a, upd H1 a (exv a C d), J.call' (ch := []) os (Un.laidN k hp hn) (J.hok.laidN k hn new) ag (fun b z => absurd z (by simp)), rfl, q a hn⟩
/-- what the class says of reading its instances -/
structure RdC (K : PySem.W.Frag) (C : Addr) : Prop where
  ga : PySem.W.findIn K (.ref C) "__getattribute__" = some (some (.builtin "BaseException.__getattribute__"))
  gg : PySem.W.findIn K (.ref C) "__getattr__" = some none
  exC : PySem.W.subIn K (.ref C) (.type "BaseException") = some true
  hdC : PySem.W.hasDictIn K C = true
/-- x.f of such an exception -/
theorem pe_attr (he : PE X e te) (hb : attributeBase e f X.env (eval e X.env) = eval e X.env := by rfl) :
    PE X (.Attribute e f pos) (fun σ H Q => te σ H fun x H1 => ∃ (a C d : Addr) (fs : List (Str × V)) (v : V), x = .ref a ∧ RdC X.K C ∧ PySem.W.findIn X.K (.ref C) f = some none ∧
      H1 a = some (exv a C (some d)) ∧ H1 d = some (.xd fs) ∧ fs.lookup f = some v ∧ Q v H1) := by
  refine ⟨fun pins s σ H Q I h => ?_⟩
  refine attr_of hb (thn (he.run pins s σ H _ I h) fun u s1 hu => ?_)
  obtain ⟨x, H1, I1, rx, a, C, d, fs, v, rfl, T, hno, ea, ed, hl, q⟩ := hu
  obtain rfl : u = Value.ref a := rx
  obtain ⟨⟨oe, vs, ho, hc, hdi, hda⟩, _, _⟩ : ObjOk X.prog X.w H1 s1.heap a (exv a C (some d)) := I1.hok a _ ea
  obtain ⟨mA, hns, hr⟩ : ObjOk X.prog X.w H1 s1.heap d (.xd fs) := I1.hok d _ ed
  obtain ⟨od, hod, hlk⟩ := lookIn_ns hns
  obtain ⟨w, hw, rw'⟩ := RelO.some_of (v := v) (o := mA f) (by rw [← hl]; exact hr f)
  have J : PySem.W.InstAt s1.heap a oe C (some od) := ⟨ho, hc, by unfold PySem.W.notCls; rw [hda] <;> rfl, by rw [hdi]; exact hod⟩
  exact HandSPX.exc_get I1.kIn J T.ga T.gg T.exC (PySem.W.findObj_own T.hdC hno rfl (by rw [hlk, hw])) (handed_of rw') ⟨v, H1, I1.tok _, rw', q⟩
end
end EV
namespace EvK
open PySem PySem.HandSPX PySem.Calls PyProof.Rows Builtin Builtin.ObjectAttr
section
variable {M : Model} {prog : Program} {w : World} {A : Around} {E : Value → Shared → Prop} {R : Result → Shared → Prop}
variable {h : Heap} {g : Array GenState} {d : Drawn} {t : Nat} {os : OsState}
variable {nm q : Str} {C N : Addr} {bs bm bmB : List Value} {hdct : Bool} {sn : List Str} {sub : List Value} {ab : Bool}
variable {col : Option Bool} {dd : Option Addr} {k0 k1 k2 k3 k5 : Option Value} {B newId initId : String}
/-- the check of __new__, keywords and all -/
theorem check_newK (F : ExcBaseFacts B newId initId bmB) (hT : ∀ Y : String, bm.contains (.type Y) = bmB.contains (.type Y))
    {us : List Value} {kw : List (Str × Value)} {Q : Unit → Shared → Prop}
    (hC : h.get? C = some (excClassObj nm q C N bs bm hdct sn sub ab col dd k0 k1 k2 k3 k5 newId))
    (hq : Q () ⟨h, g, d, t, os⟩) : wpAny M A (checkBuiltinCall newId ⟨.ref C :: us, kw⟩) Q E ⟨h, g, d, t, os⟩ := by
  have c1 : (Value.ref C :: bm).contains (.type B) = true := by rw [List.contains_cons, hT, F.hasB, Bool.or_true]
  have c2 := F.noStar
  simp only [checkBuiltinCall, F.newKind, F.newSplit, F.newRow]
  repeat (first
    | refine wpAny_loadPart_at hC ?_
    | (refine wpAny_isSubtype_exc hC ?_; rw [c1])
    | refine wpAny_staticBase_exc hC ?_
    | refine wpAny_madeBy_exc hC ?_
    | simp only [bne_self_eq_false, Bool.false_eq_true, if_false]
    | wp_step)
  exact hq
/-- __new__ itself -/
theorem newK (F : ExcBaseFacts B newId initId bmB) (hT : ∀ Y : String, bm.contains (.type Y) = bmB.contains (.type Y))
    {us : List Value} {kw : List (Str × Value)}
    (hC : h.get? C = some (excClassObj nm q C N bs bm hdct sn sub ab col dd k0 k1 k2 k3 k5 newId))
    (hz : us.length ≤ sizeLine)
    (hq : R (.ok (.ret (.ref (h.objs.size + 1))))
      ⟨(h.push (W.kdv_tup us)).push (excO C h.objs.size), g, d, t, os⟩) :
    codeAny (model prog w) A (.builtin newId ⟨.ref C :: us, kw⟩) R ⟨h, g, d, t, os⟩ := by
  have e0 := F.ends
  have cB : (Value.ref C :: bm).contains (.type B) = true := by rw [List.contains_cons, hT, F.hasB, Bool.or_true]
  have cA : (Value.ref C :: bm).contains (.type "AttributeError") = false := by rw [List.contains_cons, hT, F.noAttr]; rfl
  have cN : (Value.ref C :: bm).contains (.type "NameError") = false := by rw [List.contains_cons, hT, F.noName]; rfl
  refine codeAny_builtinAt F.entry ?_
  unfold Builtin.«BaseException.__new__»
  refine PySem.wpAt_bind ?_
  show PySem.wpAt _ _ _ (stack >>= _) _ _ _
  refine PySem.wpAt_bind (PySem.wpAt_stack fun p0 bl => PySem.wpAt_of_wpAny ?_)
  wp_walk
  refine PySem.wpAt_of_wpAny ?_
  rw [F.owner]
  repeat (first
    | with_reducible refine wpAny_madeHere_exc F.canon hC ?_
    | with_reducible refine wpAny_loadPart_at hC ?_
    | (with_reducible refine wpAny_isSubtype_exc hC ?_; first | rw [cB] | rw [cA] | rw [cN])
    | wp_step)
  show R _ _
  rw [Heap.size_push]
  exact hq
/-- type.__call__ of such a class, keywords and all -/
theorem type_callK (F : ExcBaseFacts B newId initId bmB) (hT : ∀ Y : String, bm.contains (.type Y) = bmB.contains (.type Y))
    {us : List Value} {kw : List (Str × Value)} {fI : Addr} {Q : Fin → Shared → Prop}
    (hC : h.get? C = some (excClassObj nm q C N bs bm hdct sn sub ab col dd k0 k1 k2 k3 k5 newId))
    (hi : W.Looks (model prog w) h (typeLookup (.ref C) "__init__") (some (.ref fI)))
    (hb : ∀ self, W.Looks (model prog w) h (bindSpecial (.ref fI) self) (.ref fI, [self])) (hz : us.length ≤ sizeLine)
    (hq : codeAny (model prog w) A (.call (.ref fI) ⟨.ref (h.objs.size + 1) :: us, kw⟩)
      (fun r s' => match r with
        | .ok (.ret v) => v = .none ∧ Q (.done (.ret (.ref (h.objs.size + 1)))) s'
        | .ok _ => False
        | .error e => E e s')
      ⟨(h.push (W.kdv_tup us)).push (excO C h.objs.size), g, d, t, os⟩) :
    wpAny (model prog w) A (Builtin.«type.__call__» ⟨.ref C :: us, kw⟩) Q E ⟨h, g, d, t, os⟩ := by
  repeat (first
    | with_reducible refine wpAny_loadPart_at hC ?_
    | with_reducible refine wpAny_madeBy_exc hC ?_
    | wp_step)
  refine codeAny_call_builtin_code (Code.quiet_builtin _ F.quiet) (check_newK F hT hC ?_)
  refine newK F hT hC hz ?_
  show wpAny _ _ _ _ _ _
  have kp : ∀ b o, h.get? b = some o → ((h.push (W.kdv_tup us)).push (excO C h.objs.size)).get? b = some o :=
    fun b o e => Heap.get?_push_of_some _ (Heap.get?_push_of_some _ e)
  have hC1 := kp _ _ hC
  have hg1 : ((h.push (W.kdv_tup us)).push (excO C h.objs.size)).get? (h.objs.size + 1) = some (excO C h.objs.size) := by
    heap_get
  have cc : (Value.ref C :: bm).contains (.ref C) = true := by simp
  have i1 := hi.keeps kp
  have b1 := (hb (.ref (h.objs.size + 1))).keeps kp
  unfold isInstance
  repeat (first
    | with_reducible refine wpAny_loadPart_at hg1 ?_
    | (with_reducible refine wpAny_isSubtype_exc hC1 ?_; rw [cc])
    | wp_step)
  show wpAny _ _ (typeLookup (.ref C) _) _ _ _
  refine i1.at ?_
  refine wpAny_holding (wpAny_bind (b1.at ?_))
  refine wpAny_bind (wpAny_call (codeAny_mono hq fun r s' z => ?_))
  cases r with
  | error e => exact z
  | ok fl =>
    cases fl with
    | ret v =>
      obtain ⟨rfl, z2⟩ := z
      first
        | exact wpAny_pure (wpAny_pure z2)
        | (wp_walk; exact z2)
    | next => exact z.elim
    | brk => exact z.elim
    | cont => exact z.elim
/-- the call of such a class, keywords and all -/
theorem callK (F : ExcBaseFacts B newId initId bmB) (hT : ∀ Y : String, bm.contains (.type Y) = bmB.contains (.type Y))
    {us : List Value} {kw : List (Str × Value)} {fI : Addr}
    (hC : h.get? C = some (excClassObj nm q C N bs bm hdct sn sub ab col dd k0 k1 k2 k3 k5 newId))
    (hi : W.Looks (model prog w) h (typeLookup (.ref C) "__init__") (some (.ref fI)))
    (hb : ∀ self, W.Looks (model prog w) h (bindSpecial (.ref fI) self) (.ref fI, [self])) (hz : us.length ≤ sizeLine)
    (hq : codeAny (model prog w) (A.under (.builtin "type.__call__" ⟨.ref C :: us, kw⟩))
      (.call (.ref fI) ⟨.ref (h.objs.size + 1) :: us, kw⟩) (W.InitBack (h.objs.size + 1) R)
      ⟨(h.push (W.kdv_tup us)).push (excO C h.objs.size), g, d, t, os⟩) :
    codeAny (model prog w) A (.call (.ref C) ⟨us, kw⟩) R ⟨h, g, d, t, os⟩ := by
  have f1 := tc_lookup
  have f2 := tc_bind (.ref C)
  have hTy : (⟨h, g, d, t, os⟩ : Shared).TypeIs (.ref C) "type" := ⟨_, hC, rfl⟩
  refine codeAny_of_tree ?_
  show wpAny _ _ (callAny (.ref C) _) _ _ _
  repeat (any_goals (first | assumption | with_reducible refine wpAny_loadPart_at hC ?_ | wp_step))
  refine ⟨rfl, ?_⟩
  refine codeAny_call_builtin_at (Code.quiet_builtin _ (by decide +kernel)) entry_typeCall
    (wpAny_check_type_call_sub hC (type_callK F hT hC hi hb hz ?_))
  refine codeAny_mono hq fun r s' z => ?_
  rcases r with e | (v | _ | _ | _) <;> exact z
end
end EvK
namespace EV
open PySem PySem.Spec PyProof.Rows L2
/-- the promise of an __init__ that keeps what it is given, in order -/
def spSet (C : Addr) (fs : List Str) : Sp := fun vs H Q _ => ∃ (a : Addr) (ys : List V), vs = .ref a :: ys ∧ ys.length = fs.length ∧ H a = some (exo a C none) ∧
  ∀ (d : Addr) (H' : Hp), H d = none → d ≠ a → H' a = some (exo a C (some d)) → H' d = some (exd d (fs.zip ys).reverse) → (∀ b o, b ≠ a → H b = some o → H' b = some o) → Q .non H'
section
variable {P : Program} {w : World} {K : PySem.W.Frag} {mg : Str → Option Value} {base : Heap} {st : Stmt} {qual : Str} {C fI : Addr} {fd : FuncData} {f g h : Str}
variable {p1 p2 p3 p4 q1 q2 q3 q4 r1 r2 r3 r4 : Pos}
theorem ne_tail {H : Hp} {a d b : Addr} {o : HO} (hd : H d = none) (e : H b = some o) : b ≠ d := ne_of_none e hd
theorem ok_init1 (hb : defBody st = [.Assign [.Attribute (.Name "self" p1) f p2] (.Name f p3) p4])
    (S : FnScope ["self", f] ["self", f] (defScope st)) (vs : Vis (defScope st) "self") (vf : Vis (defScope st) f) (d1 : (f == ("__debug__" : Str)) = false) (c1 : (f == ("__classdict__" : Str)) = false)
    (F : Fun K "__init__" qual st fI fd) (T : OexC K C) (n1 : PySem.W.findIn K (.ref C) f = some none) : FnOk P w K mg base CX0 1 fI fd ["self", f] (spSet C [f]) := by
  refine F.ok S (fun vs H Q E h => ?_) (fun cdv A outer s H us Q E hr h => ?_)
  · obtain ⟨a, ys, rfl, hl, _⟩ := h
    exact congrArg Nat.succ hl
  · obtain ⟨a, ys, rfl, hl, ha, k⟩ := h
    obtain ⟨y, rfl⟩ : ∃ y, ys = [y] := by
      match ys, hl with
      | [y], _ => exact ⟨y, rfl⟩
    rw [hb]
    refine ⟨_, pss_one (ps_ost (pv 0 (hv := vs)) (pv 1 (hv := vf) (hd := d1) (hcd := c1))), ?_⟩
    refine ⟨y, rfl, .ref a, rfl, a, C, rfl, T, n1, .inl ⟨ha, fun d hd hne => ?_⟩⟩
    exact k d _ hd hne upd_same (by rw [upd_ne hne, upd_same]; rfl) fun b o hba hbo => by rw [upd_ne hba, upd_ne (ne_of_none hbo hd)]; exact hbo
theorem ok_init2 (hb : defBody st = [.Assign [.Attribute (.Name "self" p1) f p2] (.Name f p3) p4, .Assign [.Attribute (.Name "self" q1) g q2] (.Name g q3) q4])
    (S : FnScope ["self", f, g] ["self", f, g] (defScope st)) (vs : Vis (defScope st) "self") (vf : Vis (defScope st) f) (vg : Vis (defScope st) g) (d1 : (f == ("__debug__" : Str)) = false) (c1 : (f == ("__classdict__" : Str)) = false)
    (d2 : (g == ("__debug__" : Str)) = false) (c2 : (g == ("__classdict__" : Str)) = false)
    (F : Fun K "__init__" qual st fI fd) (T : OexC K C) (n1 : PySem.W.findIn K (.ref C) f = some none) (n2 : PySem.W.findIn K (.ref C) g = some none) : FnOk P w K mg base CX0 1 fI fd ["self", f, g] (spSet C [f, g]) := by
  refine F.ok S (fun vs H Q E h => ?_) (fun cdv A outer s H us Q E hr h => ?_)
  · obtain ⟨a, ys, rfl, hl, _⟩ := h
    exact congrArg Nat.succ hl
  · obtain ⟨a, ys, rfl, hl, ha, k⟩ := h
    obtain ⟨y, z, rfl⟩ : ∃ y z, ys = [y, z] := by
      match ys, hl with
      | [y, z], _ => exact ⟨y, z, rfl⟩
    rw [hb]
    refine ⟨_, pss_cons (ps_ost (pv 0 (hv := vs)) (pv 1 (hv := vf) (hd := d1) (hcd := c1))) (pss_one (ps_ost (pv 0 (hv := vs)) (pv 2 (hv := vg) (hd := d2) (hcd := c2)))), ?_⟩
    refine ⟨y, rfl, .ref a, rfl, a, C, rfl, T, n1, .inl ⟨ha, fun d hd hne => ?_⟩⟩
    refine ⟨z, rfl, .ref a, rfl, a, C, rfl, T, n2, .inr ⟨d, [(f, y)], upd_same, by rw [upd_ne hne, upd_same], by show 1 ≤ 900; decide, ?_⟩⟩
    refine k d _ hd hne (by rw [upd_ne hne.symm, upd_same]) (by rw [upd_same]; rfl) fun b o hba hbo => ?_
    rw [upd_ne (ne_of_none hbo hd), upd_ne hba, upd_ne (ne_of_none hbo hd)]
    exact hbo
theorem ok_init3 (hb : defBody st = [.Assign [.Attribute (.Name "self" p1) f p2] (.Name f p3) p4, .Assign [.Attribute (.Name "self" q1) g q2] (.Name g q3) q4, .Assign [.Attribute (.Name "self" r1) h r2] (.Name h r3) r4])
    (S : FnScope ["self", f, g, h] ["self", f, g, h] (defScope st)) (vs : Vis (defScope st) "self") (vf : Vis (defScope st) f) (vg : Vis (defScope st) g) (vh : Vis (defScope st) h) (d1 : (f == ("__debug__" : Str)) = false) (c1 : (f == ("__classdict__" : Str)) = false)
    (d2 : (g == ("__debug__" : Str)) = false) (c2 : (g == ("__classdict__" : Str)) = false) (d3 : (h == ("__debug__" : Str)) = false) (c3 : (h == ("__classdict__" : Str)) = false)
    (F : Fun K "__init__" qual st fI fd) (T : OexC K C) (n1 : PySem.W.findIn K (.ref C) f = some none) (n2 : PySem.W.findIn K (.ref C) g = some none) (n3 : PySem.W.findIn K (.ref C) h = some none) :
    FnOk P w K mg base CX0 1 fI fd ["self", f, g, h] (spSet C [f, g, h]) := by
  refine F.ok S (fun vs H Q E h => ?_) (fun cdv A outer s H us Q E hr h => ?_)
  · obtain ⟨a, ys, rfl, hl, _⟩ := h
    exact congrArg Nat.succ hl
  · obtain ⟨a, ys, rfl, hl, ha, k⟩ := h
    obtain ⟨y, z, x, rfl⟩ : ∃ y z x, ys = [y, z, x] := by
      match ys, hl with
      | [y, z, x], _ => exact ⟨y, z, x, rfl⟩
    rw [hb]
    refine ⟨_, pss_cons (ps_ost (pv 0 (hv := vs)) (pv 1 (hv := vf) (hd := d1) (hcd := c1))) (pss_cons (ps_ost (pv 0 (hv := vs)) (pv 2 (hv := vg) (hd := d2) (hcd := c2))) (pss_one (ps_ost (pv 0 (hv := vs)) (pv 3 (hv := vh) (hd := d3) (hcd := c3))))), ?_⟩
    refine ⟨y, rfl, .ref a, rfl, a, C, rfl, T, n1, .inl ⟨ha, fun d hd hne => ?_⟩⟩
    refine ⟨z, rfl, .ref a, rfl, a, C, rfl, T, n2, .inr ⟨d, [(f, y)], upd_same, by rw [upd_ne hne, upd_same], by show 1 ≤ 900; decide, ?_⟩⟩
    refine ⟨x, rfl, .ref a, rfl, a, C, rfl, T, n3, .inr ⟨d, [(g, z), (f, y)], by rw [upd_ne hne.symm, upd_same], by rw [upd_same], by show 2 ≤ 900; decide, ?_⟩⟩
    refine k d _ hd hne (by rw [upd_ne hne.symm, upd_ne hne.symm, upd_same]) (by rw [upd_same]; rfl) fun b o hba hbo => ?_
    rw [upd_ne (ne_of_none hbo hd), upd_ne (ne_of_none hbo hd), upd_ne hba, upd_ne (ne_of_none hbo hd)]
    exact hbo
end
end EV
namespace EV
open PySem PySem.Spec PyProof.Rows L2
/-- an own exception class with an __init__ that keeps its fields, in order -/
structure Err (P : Program) (w : World) (K : PySem.W.Frag) (mg : Str → Option Value) (base : Heap) (x : Str) (C : Addr) (fs : List Str) : Prop where
  oex : OexC K C
  rd : RdC K C
  gC : mg x = some (.ref C)
  no : ∀ f ∈ fs, PySem.W.findIn K (.ref C) f = some none
  made : ∃ (fI : Addr) (fd : FuncData), PySem.W.findIn K (.ref C) "__init__" = some (some (.ref fI)) ∧ PySem.W.typeIn K (.ref fI) = some (.type "function") ∧
    FnOk P w K mg base CX0 1 fI fd (("self" : Str) :: fs) (spSet C fs) ∧
    ∀ (s : Shared) (us ws : List Value), 0 < us.length → (us ++ ws).length = fs.length + 1 → BindsTo s fd ⟨us, ((("self" : Str) :: fs).drop us.length).zip ws⟩ ((("self" : Str) :: fs).zip (us ++ ws))
section
variable {X : Cx} {pins : List (Addr × Obj)} {σ : L2.St} {H : Hp} {s : Shared} {x : Str} {C : Addr} {fs : List Str} {us ws : List Value} {ys zs : List V} {Q : XK}
theorem run_err (T : Err X.prog X.w X.K X.mg X.base x C fs) (hr : Room 2 X.A) (I : Inv X pins σ H s) (ry : Vals ys us) (rz : Vals zs ws) (hl : (ys ++ zs).length = fs.length) (h9 : fs.length ≤ 9)
    (q : ∀ (d : Addr) (H' : Hp), Same H H' → H d = none → H' d = some (.xd (fs.zip (ys ++ zs)).reverse) → Q (.ref C) (some d) H') :
    wpAny (model X.prog X.w) X.A (call (.ref C) us ((fs.drop us.length).zip ws)) (MkP X pins σ Q) X.xe s := by
  obtain ⟨fI, fd, iC, tI, F1, bd⟩ := T.made
  obtain ⟨nm, qq, N, bs, bm, sn, sub, ab, col, dd, k0, k1, k2, k3, k5, hC, hbm⟩ := T.oex.cls
  obtain ⟨hp, g, dr, tk, os⟩ := s
  have hsz : hp.objs.size ≤ hp.objs.size + 1 := Nat.le_succ _
  have hn : H (hp.objs.size + 1) = none := I.hok.fresh hsz
  have lu : us.length + ws.length = fs.length := by
    rw [← ry.length, ← rz.length, ← hl, List.length_append]
  have kk : ∀ b o, hp.get? b = some o → ((hp.push (PySem.W.kdv_tup us)).push (PySem.HandSPX.excO C hp.objs.size)).get? b = some o :=
    fun b o e => Heap.get?_push_of_some _ (Heap.get?_push_of_some _ e)
  have hg1 : ((hp.push (PySem.W.kdv_tup us)).push (PySem.HandSPX.excO C hp.objs.size)).get? (hp.objs.size + 1) = some (PySem.HandSPX.excO C hp.objs.size) := by
    heap_get
  have I2 := I.laid (t' := tk) (a := hp.objs.size + 1) (o := exo (hp.objs.size + 1) C none) (h' := (hp.push (PySem.W.kdv_tup us)).push (PySem.HandSPX.excO C hp.objs.size)) kk hsz (exo_ok hg1)
  have r2 : Vals (V.ref (hp.objs.size + 1) :: (ys ++ zs)) (Value.ref (hp.objs.size + 1) :: (us ++ ws)) := .cons rfl (ry.append rz)
  have hus : us.length ≤ sizeLine := by
    rw [sizeLine_eq]
    omega
  have hq : spSet C fs (V.ref (hp.objs.size + 1) :: (ys ++ zs)) (upd H (hp.objs.size + 1) (exo (hp.objs.size + 1) C none))
      (fun v H2 => v = .non ∧ ∃ (d : Addr), H2 (hp.objs.size + 1) = some (exo (hp.objs.size + 1) C (some d)) ∧ H2 d = some (exd d (fs.zip (ys ++ zs)).reverse) ∧ H d = none ∧ Same H H2) (fun _ _ _ => False) := by
    refine ⟨_, _, rfl, hl, upd_same, fun d H' hd hne ha hx hk => ⟨rfl, d, ha, hx, ?_, fun b o e => ?_⟩⟩
    · rw [upd_ne hne] at hd
      exact hd
    · refine hk b o (ne_of_none e hn) ?_
      rw [upd_ne (ne_of_none e hn)]
      exact e
  have hb := bd ⟨(hp.push (PySem.W.kdv_tup us)).push (PySem.HandSPX.excO C hp.objs.size), g, dr, tk, os⟩ (Value.ref (hp.objs.size + 1) :: us) ws (Nat.succ_pos _)
    (by rw [List.length_append, List.length_cons]; omega)
  refine wpAny_call (EvK.callK F.excBase_ValueError (fun Y => PySem.HandSPX.refsVE_contains Y bm hbm) (I.kIn _ _ hC) (PySem.W.looks_findIn I.kIn iC) (fun self => PySem.W.bind_fn I.kIn self tI) hus
    (codeAny_mono (F1.run _ X.stack _ _ ⟨Value.ref (hp.objs.size + 1) :: us, (fs.drop us.length).zip ws⟩ (Value.ref (hp.objs.size + 1) :: (us ++ ws)) _ _ (fun _ _ _ => False) (hr.make C us _) (I2.env0.make C us _) hb r2 hq) fun r s' z => ?_))
  cases r with
  | error er => exact z.elim
  | ok fl =>
    cases fl with
    | next => exact z.elim
    | brk => exact z.elim
    | cont => exact z.elim
    | ret u =>
      obtain ⟨v, H2, os2, bare2, un2, hok2, rv, ev, d, ea, ed, hd1, sm⟩ := z
      subst ev
      obtain ⟨h2, g2, d2, t2, os'⟩ := s'
      refine ⟨rv, mk_end (raises_own T.oex.exC T.oex.tyC) I hsz kk un2 hok2 os2 bare2 ea ed hd1 (q d _ (fun b o e => ?_) hd1 upd_same)⟩
      rw [upd_ne (ne_of_none e hd1), del_ne (ne_of_none e hn)]
      exact sm b o e
end
end EV
namespace EV
open PySem PySem.Spec PyProof.Rows L2
/-- plain arguments: names and constants, which leave the heap as it is -/
def tPl (g : L2.St → List V → Prop) : TA := fun σ H Q => ∃ vs, g σ vs ∧ Q vs H
section
variable {X : Cx} {e : Expr} {es : List Expr} {g g' : L2.St → List V → Prop} {kws : List Keyword} {nm : Option Str} {kp : Pos}
theorem pl_nil : PA X [] (tPl fun _ vs => vs = []) := ⟨fun pos pins s σ H Q I ⟨vs, e, q⟩ => pa_nil.run pos pins s σ H Q I (by subst e; exact q)⟩
theorem pl_var {i : Nat} (he : PE X e (tVar i)) (hr : PA X es (tPl g)) (hs : starEach (e :: es) X.env = (false, eval e X.env) :: starEach es X.env := by rfl) : PA X (e :: es) (tPl fun σ vs => ∃ v r, vs = v :: r ∧ σ[i]? = some (some v) ∧ g σ r) :=
  ⟨fun pos pins s σ H Q I ⟨vs, ⟨v, r, e1, e2, e3⟩, q⟩ => (pa_cons he hr hs).run pos pins s σ H Q I (by subst e1; exact ⟨v, e2, r, e3, q⟩)⟩
theorem pl_int {n : Int} (he : PE X e (tC (.int n))) (hr : PA X es (tPl g)) (hs : starEach (e :: es) X.env = (false, eval e X.env) :: starEach es X.env := by rfl) : PA X (e :: es) (tPl fun σ vs => ∃ r, vs = .int n :: r ∧ g σ r) :=
  ⟨fun pos pins s σ H Q I ⟨vs, ⟨r, e1, e3⟩, q⟩ => (pa_cons he hr hs).run pos pins s σ H Q I (by subst e1; exact ⟨r, e3, q⟩)⟩
theorem kl_nil : PK X [] (tPl fun _ vs => vs = []) := ⟨fun pos pins s σ H Q I ⟨vs, e, q⟩ => pk_nil.run pos pins s σ H Q I (by subst e; exact q)⟩
theorem kl_var {i : Nat} (he : PE X e (tVar i)) (hr : PK X kws (tPl g)) : PK X (⟨nm, e, kp⟩ :: kws) (tPl fun σ vs => ∃ v r, vs = v :: r ∧ σ[i]? = some (some v) ∧ g σ r) :=
  ⟨fun pos pins s σ H Q I ⟨vs, ⟨v, r, e1, e2, e3⟩, q⟩ => (pk_cons he hr).run pos pins s σ H Q I (by subst e1; exact ⟨v, e2, r, e3, q⟩)⟩
theorem kl_int {n : Int} (he : PE X e (tC (.int n))) (hr : PK X kws (tPl g)) : PK X (⟨nm, e, kp⟩ :: kws) (tPl fun σ vs => ∃ r, vs = .int n :: r ∧ g σ r) :=
  ⟨fun pos pins s σ H Q I ⟨vs, ⟨r, e1, e3⟩, q⟩ => (pk_cons he hr).run pos pins s σ H Q I (by subst e1; exact ⟨r, e3, q⟩)⟩
end
/-- what making such an error asks and gives -/
def tEr (C : Addr) (fs : List Str) (g : L2.St → List V → Prop) : L2.St → Hp → XK → Prop := fun σ H Q => ∃ vs, g σ vs ∧ vs.length = fs.length ∧
  ∀ (d : Addr) (H' : Hp), Same H H' → H d = none → H' d = some (.xd (fs.zip vs).reverse) → Q (.ref C) (some d) H'
/-- n values and then keywords -/
def gApp (n : Nat) (g g' : L2.St → List V → Prop) : L2.St → List V → Prop := fun σ vs => ∃ ys zs, vs = ys ++ zs ∧ ys.length = n ∧ g σ ys ∧ g' σ zs
section
variable {X : Cx} {x : Str} {C : Addr} {fs : List Str} {e : Expr} {es : List Expr} {g g' : L2.St → List V → Prop} {kws : List Keyword} {p pos : Pos}
theorem pmk_er (T : Err X.prog X.w X.K X.mg X.base x C fs) (hr : Room 2 X.A) (h9 : fs.length ≤ 9) (hg : Gl X x) (ha : PA X (e :: es) (tPl g)) (hdb : (x == ("__debug__" : Str)) = false := by decide)
    (he : starEach (e :: es) X.env = (false, eval e X.env) :: starEach es X.env := by rfl) (hpl : (backTo pos (starEach es X.env)).any (·.1) = false := by rfl) :
    PMk X (.Call (.Name x p) (e :: es) [] pos) (tEr C fs g) := by
  intro pins s σ H Q I ⟨vs, hg1, hl, q⟩
  refine wpAny_Call_Name_kw (ld_glob I hg T.gC ?_ hdb)
  refine PySem.W.callWith_K (h₀ := X.base) I.ok.mod.kin T.oex.kC (thn (ha.run pos pins s σ H (fun us H1 => us = vs ∧ H1 = H) I ⟨vs, hg1, rfl, rfl⟩) fun us s1 ⟨ys, H1, I1, r1, e1, e2⟩ => ⟨I1.kIn, ?_⟩) he hpl
  subst e1
  subst e2
  have lu : us.length = fs.length := by rw [← r1.length, hl]
  have z := run_err (us := us) (ws := []) (zs := []) T hr I1 r1 .nil (by rw [List.append_nil]; exact hl) h9 (Q := Q) (by rw [List.append_nil]; exact q)
  rw [lu, List.drop_length] at z
  exact z
theorem pmk_erK (n : Nat) (T : Err X.prog X.w X.K X.mg X.base x C fs) (hr : Room 2 X.A) (h9 : fs.length ≤ 9) (hg : Gl X x) (ha : PA X (e :: es) (tPl g)) (hk : PK X kws (tPl g'))
    (hks : (backToKw pos (keywordEach kws X.env)).filterMap (·.1) = fs.drop n)
    (hall : (backToKw pos (keywordEach kws X.env)).all (·.1.isSome) = true := by rfl) (hdb : (x == ("__debug__" : Str)) = false := by decide)
    (he : starEach (e :: es) X.env = (false, eval e X.env) :: starEach es X.env := by rfl) (hpl : ((backTo pos (starEach (e :: es) X.env)).any (·.1) || (backToKw pos (keywordEach kws X.env)).any (·.1.isNone)) = false := by rfl) :
    PMk X (.Call (.Name x p) (e :: es) kws pos) (tEr C fs (gApp n g g')) := by
  intro pins s σ H Q I ⟨vs, ⟨vy, vz, ev, ln, hg1, hg2⟩, hl, q⟩
  subst ev
  refine wpAny_Call_Name_kw (ld_glob I hg T.gC ?_ hdb)
  refine PySem.W.callWith_KW (h₀ := X.base) I.ok.mod.kin T.oex.kC hall (thn (ha.run pos pins s σ H (fun us H1 => us = vy ∧ H1 = H) I ⟨vy, hg1, rfl, rfl⟩) fun us s1 ⟨ys, H1, I1, r1, e1, e2⟩ => ?_) hpl he
  subst e1
  subst e2
  refine thn (hk.run pos pins s1 σ H1 (fun us H2 => us = vz ∧ H2 = H1) I1 ⟨vz, hg2, rfl, rfl⟩) fun ws s2 ⟨zs, H2, I2, r2, e1, e2⟩ => ⟨I2.kIn, ?_⟩
  subst e1
  subst e2
  rw [hks]
  have lu : us.length = n := by rw [← r1.length, ln]
  have z := run_err (us := us) (ws := ws) T hr I2 r1 r2 hl h9 (Q := Q) q
  rw [lu] at z
  exact z
theorem pmk_erK0 (T : Err X.prog X.w X.K X.mg X.base x C fs) (hr : Room 2 X.A) (h9 : fs.length ≤ 9) (hg : Gl X x) (hk : PK X kws (tPl g'))
    (hks : (backToKw pos (keywordEach kws X.env)).filterMap (·.1) = fs)
    (hall : (backToKw pos (keywordEach kws X.env)).all (·.1.isSome) = true := by rfl) (hdb : (x == ("__debug__" : Str)) = false := by decide)
    (hpl : ((backTo pos (starEach [] X.env)).any (·.1) || (backToKw pos (keywordEach kws X.env)).any (·.1.isNone)) = false := by rfl) :
    PMk X (.Call (.Name x p) [] kws pos) (tEr C fs g') := by
  intro pins s σ H Q I ⟨vz, hg2, hl, q⟩
  refine wpAny_Call_Name_kw (ld_glob I hg T.gC ?_ hdb)
  refine PySem.W.callWith_KW0 (h₀ := X.base) I.ok.mod.kin T.oex.kC hall ?_ hpl
  refine thn (hk.run pos pins s σ H (fun us H2 => us = vz ∧ H2 = H) I ⟨vz, hg2, rfl, rfl⟩) fun ws s2 ⟨zs, H2, I2, r2, e1, e2⟩ => ⟨I2.kIn, ?_⟩
  subst e1
  subst e2
  rw [hks]
  exact run_err (us := []) (ys := []) (ws := ws) T hr I2 .nil r2 hl h9 (Q := Q) q
/-- kept -/
theorem pe_er (he : PMk X e (tEr C fs g)) : PE X e (fun σ H Q => ∃ vs, g σ vs ∧ vs.length = fs.length ∧
    ∀ (a d : Addr) (H' : Hp), Same H H' → H a = none → H' a = some (exv a C (some d)) → H' d = some (.xd (fs.zip vs).reverse) → Q (.ref a) H') := by
  refine ⟨fun pins s σ H Q I ⟨vs, h1, h2, q⟩ => ?_⟩
  refine (pe_val he).run pins s σ H Q I ⟨vs, h1, h2, fun d H' sm hd hx => ⟨C, rfl, fun a ha => ?_⟩⟩
  refine q a d _ (fun b o z => ?_) (sm.free ha) upd_same (by rw [upd_ne (ne_of_none hx ha)]; exact hx)
  rw [upd_ne (ne_of_none (sm b o z) ha)]
  exact sm b o z
/-- a field of it, read at once -/
theorem pe_erA {f : Str} {fp : Pos} (T : Err X.prog X.w X.K X.mg X.base x C fs) (he : PMk X e (tEr C fs g)) (hf : f ∈ fs) (hb : attributeBase e f X.env (eval e X.env) = eval e X.env := by rfl) :
    PE X (.Attribute e f fp) (fun σ H Q => ∃ vs v, g σ vs ∧ vs.length = fs.length ∧ (fs.zip vs).reverse.lookup f = some v ∧ ∀ H', Same H H' → Q v H') := by
  refine ⟨fun pins s σ H Q I ⟨vs, v, h1, h2, h3, q⟩ => ?_⟩
  exact (pe_attr (pe_er he) hb).run pins s σ H Q I ⟨vs, h1, h2, fun a d H' sm ha hx hd => ⟨a, C, d, _, v, rfl, T.rd, T.no f hf, hx, hd, h3, q H' sm⟩⟩
end
end EV
namespace EV
open PySem PySem.Spec PyProof.Rows L2
/-- an own exception class without an __init__ of its own -/
structure Err0 (K : PySem.W.Frag) (mg : Str → Option Value) (x : Str) (C : Addr) : Prop where
  ex : PySem.W.excIn K C [.type "ValueError", .type "Exception", .type "BaseException", .type "object"] "ValueError.__new__" = true
  gC : mg x = some (.ref C)
  kC : PySem.W.keepIn K (.ref C) = true
  exC : PySem.W.subIn K (.ref C) (.type "BaseException") = some true
  tyC : PySem.W.typeIn K (.ref C) = some (.type "type")
section
variable {X : Cx} {x : Str} {C : Addr} {p pos : Pos}
theorem pmk_er0 (T : Err0 X.K X.mg x C) (hg : Gl X x) (hdb : (x == ("__debug__" : Str)) = false := by decide) :
    PMk X (.Call (.Name x p) [] [] pos) (fun _ H Q => Q (.ref C) none H) := by
  intro pins s σ H Q I q
  refine wpAny_Call_Name_kw (ld_glob I hg T.gC ?_ hdb)
  refine PySem.W.callWith_K0 I.kIn T.kC ?_
  show wpAny _ _ (call (.ref C) []) _ _ _
  obtain ⟨bm, N, nm, qn, bs, hdct, sn, sub, ab, col, dd, k0, k1, k2, k3, k5, mN, hC, hN, hni, W⟩ := exc_obj I.kIn T.ex
  refine wpAny_call_exc_subT F.excBase_ValueError W hC hN hni (fun h' e hm => ?_) (by rw [sizeLine_eq]; decide)
  exact mk_of I hm (raises_own T.exC T.tyC) q (I.hok.gone hm.new)
/-- kept -/
theorem pe_er0 (T : Err0 X.K X.mg x C) (hg : Gl X x) (hdb : (x == ("__debug__" : Str)) = false := by decide) :
    PE X (.Call (.Name x p) [] [] pos) (fun _ H Q => ∀ (a : Addr) (H' : Hp), Same H H' → H a = none → H' a = some (exv a C none) → Q (.ref a) H') := by
  refine ⟨fun pins s σ H Q I q => ?_⟩
  refine (pe_val (pmk_er0 (p := p) (pos := pos) T hg hdb)).run pins s σ H Q I ⟨C, rfl, fun a ha => ?_⟩
  refine q a _ (fun b o z => ?_) ha upd_same
  rw [upd_ne (ne_of_none z ha)]
  exact z
/-- an exception held as a value -/
def ExAt (H : Hp) (a C : Addr) : Prop := ∃ d, H a = some (exv a C d) ∧ (d = none ∨ ∃ dx fs, d = some dx ∧ H dx = some (.xd fs))
theorem ExAt.same {H H' : Hp} {a C : Addr} (h : ExAt H a C) (s : Same H H') : ExAt H' a C := by
  obtain ⟨d, e, z⟩ := h
  refine ⟨d, s _ _ e, ?_⟩
  rcases z with z | ⟨dx, fs, z, e2⟩
  · exact .inl z
  · exact .inr ⟨dx, fs, z, s _ _ e2⟩
theorem inst_at {pins : List (Addr × Obj)} {σ : L2.St} {H : Hp} {s : Shared} {a : Addr} (I : Inv X pins σ H s) (h : ExAt H a C) : ∃ oe od, PySem.W.InstAt s.heap a oe C od := by
  obtain ⟨d, e, z⟩ := h
  obtain ⟨⟨oe, vs, ho, hc, hdi, hda⟩, _, _⟩ : ObjOk X.prog X.w H s.heap a (exv a C d) := I.hok a _ e
  rcases z with z | ⟨dx, fs, z, e2⟩
  · subst z
    exact ⟨oe, none, ho, hc, by unfold PySem.W.notCls; rw [hda] <;> rfl, by rw [hdi]; trivial⟩
  · subst z
    obtain ⟨mA, hns, hr⟩ : ObjOk X.prog X.w H s.heap dx (.xd fs) := I.hok dx _ e2
    obtain ⟨od, hod, _⟩ := lookIn_ns hns
    exact ⟨oe, some od, ho, hc, by unfold PySem.W.notCls; rw [hda] <;> rfl, by rw [hdi]; exact hod⟩
theorem kit_er {a : Addr} {oe : Obj} {od : Option Obj} (T : ExcC X.K C) : PySem.W.KitX X.K (.ref a) (.ref C) (fun h => PySem.W.InstAt h a oe C od) := by
  obtain ⟨cd, hcd, _⟩ := PySem.W.any_some T.hd
  exact PySem.W.kitx_exc (by rw [hcd]; rfl) T.hg T.hk T.hs T.ha T.hn T.ht T.hm
def rIsX (K : PySem.W.Frag) : List V → Hp → VK → Prop := fun xs H Q => ∃ (a C : Addr) (c : V) (u : Value) (b : Bool), xs = [.ref a, c] ∧ ExAt H a C ∧ ExcC K C ∧ ClsV c u ∧ PySem.W.kitOne K (.ref C) u = some b ∧ Q (.bl b) H
def rIsXT (K : PySem.W.Frag) : List V → Hp → VK → Prop := fun xs H Q => ∃ (a C tp : Addr) (cs : List V) (us : List Value) (b : Bool), xs = [.ref a, .ref tp] ∧ ExAt H a C ∧ ExcC K C ∧ H tp = some (.tup cs) ∧ Paired ClsV cs us ∧ PySem.W.kitAny K (.ref C) us = some b ∧ Q (.bl b) H
theorem call_isX : CallR X (.builtin "isinstance") (rIsX X.K) := by
  intro pins s σ H xs us Q I r ⟨a, D, c, u, b, ex, ha, T, k, e, q⟩
  subst ex
  obtain ⟨u1, u2, rfl, r1, r2⟩ := vals2 r
  cases (show u1 = Value.ref a from r1)
  have e2 := k.eq r2
  subst e2
  obtain ⟨oe, od, J⟩ := inst_at I ha
  exact PySem.W.kia_one (kit_er T) I.kIn J e (fun z => nomatch z) fun tk => ⟨.bl b, H, I.tok tk, rfl, q⟩
theorem call_isXT : CallR X (.builtin "isinstance") (rIsXT X.K) := by
  intro pins s σ H xs us Q I r ⟨a, D, tp, cs, ws, b, ex, ha, T, hT, k, e, q⟩
  subst ex
  obtain ⟨u1, u2, rfl, r1, r2⟩ := vals2 r
  cases (show u1 = Value.ref a from r1)
  cases (show u2 = Value.ref tp from r2)
  obtain ⟨oe, od, J⟩ := inst_at I ha
  obtain ⟨_, its, rv, o, h1, h2, n, h3⟩ := (show ObjOk X.prog X.w H s.heap tp (.tup cs) from I.hok tp _ hT)
  have e3 := ClsV.all k rv
  subst e3
  obtain ⟨oc, odd, dt, sl⟩ := o
  simp only at h2 h3
  subst h2 h3
  exact PySem.W.kia_tup (kit_er T) I.kIn J h1 e (fun z => nomatch z) fun tk => ⟨.bl b, H, I.tok tk, rfl, q⟩
end
end EV
namespace Pu
open PySem PySem.Spec PyProof.Rows L2
open LamX (Tabs)
/-! ### subscripts -/
section
variable {X : Cx} {T : List (Addr × Str)} {E : XK} {K : PySem.W.Frag} {a b e : Expr} {f g : Rho → Mem → Re Sl} {pos : Pos}
theorem IsAll.atI {H : Hp} {vs : List V} {ds : List D} (t : IsAll K H vs ds) {i : Int} {d : D} (h : L2.atI ds i = some d) : ∃ v, L2.atI vs i = some v ∧ Is K H v d := by
  unfold L2.atI at h ⊢
  rw [t.len]
  cases e : ixN ds.length i with
  | none => rw [e] at h; cases h
  | some j => rw [e] at h; exact t.get' h
def oIx : D → D → Option D
  | .lst xs, .int i => L2.atI xs i
  | .tup xs, .int i => L2.atI xs i
  | .str z, .int i => if z.length ≤ sizeLine then (L2.atI z.cps.toList i).map fun c => .str ⟨#[c]⟩ else none
  | _, _ => none
def rIxU (K : PySem.W.Frag) : R2 := fun x y H Q => (rIxL K x y H Q ∨ rIxT K x y H Q) ∨ rIxS x y H Q
theorem ix_U : IxR X (rIxU X.K) := IxR.or (IxR.or ix_list ix_tup) ix_str
theorem od_ix : OpD K (rIxU K) oIx := by
  intro H0 H x y d e c Q s hx hy ho k
  unfold oIx at ho
  split at ho
  · obtain ⟨a, vs, rfl, h1, t1⟩ := hx.lstI s
    cases hy.intI
    obtain ⟨v, h2, q⟩ := t1.atI ho
    exact .inl (.inl ⟨a, vs, _, v, rfl, rfl, SqL.of h1, h2, k _ _ _ (Nw.refl s) q⟩)
  · obtain ⟨a, vs, rfl, h1, t1⟩ := hx.tupI s
    cases hy.intI
    obtain ⟨v, h2, q⟩ := t1.atI ho
    exact .inl (.inr ⟨a, vs, _, v, rfl, rfl, h1.sq, h2, k _ _ _ (Nw.refl s) q⟩)
  · split at ho
    · rename_i z i hl
      cases hx.strI; cases hy.intI
      cases h : L2.atI z.cps.toList i with
      | none => rw [h] at ho; cases ho
      | some w => rw [h] at ho; cases ho; exact .inr ⟨z, i, w, rfl, rfl, hl, h, k _ _ _ (Nw.refl s) (.str _)⟩
    · cases ho
  · cases ho
theorem px_ixR {r : R2} {o : D → D → Option D} (hr : IxR X r) (hd : OpD X.K r o) (ha : PX X T E a f) (hb : PX X T E b g) (hs : PlainIx b := by exact fun _ _ => rfl) : PX X T E (.Subscript a b pos) (bindD f fun s => bindD g fun t _ m => f2 o s t m) := by
  obtain ⟨ta, pa, sa⟩ := ha
  obtain ⟨tb, pb, sb⟩ := hb
  exact ⟨_, pe_ix hr pa pb hs, sa.bind fun H0 H am x s q => (sb H0 am H).bind fun H1 H' am' y t ex q2 => hd.at (q.ex ex) q2⟩
theorem px_ix (ha : PX X T E a f) (hb : PX X T E b g) (hs : PlainIx b := by exact fun _ _ => rfl) : PX X T E (.Subscript a b pos) (bindD f fun s => bindD g fun t _ m => f2 oIx s t m) := px_ixR ix_U od_ix ha hb hs
/-- d[k] -/
def dkey : D → Option Key
  | .int i => some (.inl i)
  | .str z => some (.inr z)
  | _ => none
def valD (kvs : List (Key × D)) (k : Key) : Option D := (kvs.find? fun kv => decide (kv.1 = k)).map (·.2)
theorem IsKv.val {H : Hp} {k : Key} : ∀ {vs : List (Key × V)} {ds : List (Key × D)}, IsKv K H vs ds → (valD ds k = none ∧ valV vs k = none) ∨ ∃ v d, valD ds k = some d ∧ valV vs k = some v ∧ Is K H v d
  | _, _, .nil => .inl ⟨rfl, rfl⟩
  | _, _, .cons (k := j) r t => by
    unfold valD valV
    rw [List.find?_cons, List.find?_cons]
    by_cases c : j = k
    · simp only [c, decide_true]
      exact .inr ⟨_, _, rfl, rfl, r⟩
    · simp only [c, decide_false]
      exact IsKv.val t
theorem dkey_is {H : Hp} {H0 : Hp} {v : V} {d : D} {k : Key} (h : Vw K H0 H v d) (e : dkey d = some k) : v = kV k := by
  unfold dkey at e
  split at e
  · cases e; exact h.intI
  · cases e; exact h.strI
  · cases e
def oGet : D → D → Option D
  | .dic kvs, d => (dkey d).bind fun k => valD kvs k
  | _, _ => none
theorem DGet.kR {H : Hp} {a : Addr} {kvs : List (Key × V)} {k : Key} (e : Rd H a (.dK kvs)) : DGet H a (kV k) (valV kvs k) := .inl ⟨kvs, k, e, rfl, rfl⟩
def rGet : R2 := fun x y H Q => ∃ a v, x = .ref a ∧ DGet H a y (some v) ∧ Q v H
theorem od_get : OpD K rGet oGet := by
  intro H0 H x y d e c Q s hx hy ho k
  unfold oGet at ho
  split at ho
  · rename_i kvs
    obtain ⟨a, vs, rfl, h1, t1⟩ := hx.dicI s
    cases hk : dkey e with
    | none => rw [hk] at ho; cases ho
    | some j =>
      rw [hk] at ho
      have ho : valD kvs j = some c := ho
      rcases t1.val (k := j) with ⟨z, _⟩ | ⟨v, d2, z, z2, q⟩
      · rw [ho] at z; cases z
      · rw [ho] at z; cases z
        have g := DGet.kR (k := j) h1
        rw [z2] at g
        rw [dkey_is hy hk]
        exact ⟨a, v, rfl, g, k _ _ _ (Nw.refl s) q⟩
  · cases ho
theorem px_get (hu : X.A.units + 1 < cLine) (ha : PX X T E a f) (hb : PX X T E b g) (hs : NoSl b := by exact fun _ _ => rfl) : PX X T E (.Subscript a b pos) (bindD f fun s => bindD g fun t _ m => f2 oGet s t m) := by
  obtain ⟨ta, pa, sa⟩ := ha
  obtain ⟨tb, pb, sb⟩ := hb
  refine ⟨_, pe_dget hu pa pb hs, fun H0 am H ρ m σ r m' Q mo eo e gl => ?_⟩
  exact (sa.bind (R2 := IsS X.K) (u := fun x σ H1 Q => tb σ H1 fun y H2 => rGet x y H2 Q) fun H0 H am x s q => (sb H0 am H).bind fun H1 H' am' y t ex q2 => od_get.at (q.ex ex) q2) H0 am H ρ m σ r m' Q mo eo e gl
def oInD (neg : Bool) : D → D → Option D
  | d, .dic kvs => (dkey d).map fun k => .bl (if neg then !(valD kvs k).isSome else (valD kvs k).isSome)
  | _, _ => none
def rInDk (neg : Bool) : R2 := fun y x H Q => ∃ a o, x = .ref a ∧ DGet H a y o ∧ Q (.bl (if neg then !o.isSome else o.isSome)) H
theorem od_inD {neg : Bool} : OpD K (rInDk neg) (oInD neg) := by
  intro H0 H x y d e c Q s hx hy ho k
  unfold oInD at ho
  split at ho
  · rename_i kvs
    obtain ⟨a, vs, rfl, h1, t1⟩ := hy.dicI s
    cases hk : dkey d with
    | none => rw [hk] at ho; cases ho
    | some j =>
      rw [hk] at ho
      cases ho
      rw [dkey_is hx hk]
      have g := DGet.kR (k := j) h1
      refine ⟨a, _, rfl, g, k _ _ _ (Nw.refl s) ?_⟩
      rcases t1.val (k := j) with ⟨z, z2⟩ | ⟨v, d2, z, z2, _⟩
      · dsimp only; rw [z, z2]; exact .bl _
      · dsimp only; rw [z, z2]; exact .bl _
  · cases ho
/-! slices -/
def cutD (xs : List D) (lo hi : Option Int) : List D := (xs.drop (HT.sIx xs.length 0 lo)).take (HT.sIx xs.length xs.length hi - HT.sIx xs.length 0 lo)
theorem IsAll.cut {H : Hp} {vs : List V} {ds : List D} (t : IsAll K H vs ds) (lo hi : Option Int) : IsAll K H (cutV vs lo hi) (cutD ds lo hi) := by
  unfold cutV cutD
  rw [t.len]
  exact (t.drop _).take _
def oCut : D → Option Int → Option Int → Option D
  | .frl xs, lo, hi => some (.lst (cutD xs lo hi))
  | .lst xs, lo, hi => some (.lst (cutD xs lo hi))
  | .tup xs, lo, hi => some (.tup (cutD xs lo hi))
  | .str z, lo, hi => if z.length ≤ sizeLine then some (.str (cutS z lo hi)) else none
  | _, _, _ => none
def rCutU (K : PySem.W.Frag) : V → Option Int → Option Int → Hp → VK → Prop := fun x lo hi H Q => (rSlL K x lo hi H Q ∨ rSlA K x lo hi H Q) ∨ rSlS x lo hi H Q
theorem sl_U : SlR X (rCutU X.K) := SlR.or (SlR.or sl_list sl_tupA) sl_str
theorem cutD_all {xs : List D} {lo hi : Option Int} (h : HT.sIx xs.length 0 lo = 0 ∧ HT.sIx xs.length xs.length hi = xs.length) : cutD xs lo hi = xs := by
  unfold cutD
  rw [h.1, h.2, List.drop_zero, Nat.sub_zero, List.take_length]
theorem od_cut : ∀ (H0 H : Hp) (x : V) (d c : D) (lo hi : Option Int) (Q : VK), Same H0 H → Vw K H0 H x d → oCut d lo hi = some c → (∀ v H1 H', Nw H0 H H1 H' → Is K H1 v c → Q v H') → rCutU K x lo hi H Q := by
  intro H0 H x d c lo hi Q s hx ho k
  unfold oCut at ho
  split at ho
  · cases ho
    obtain ⟨a, vs, rfl, h1, t1⟩ := hx.frlI s
    refine .inl (.inl ⟨a, vs, rfl, h1, fun p hp => ?_⟩)
    have nw := Nw.alloc s (o := .lst (cutV vs lo hi)) hp
    exact k _ _ _ nw (.lst upd_same ((t1.cut lo hi).same nw.s0))
  · cases ho
    obtain ⟨a, vs, rfl, h1, t1⟩ := hx.lstI s
    refine .inl (.inl ⟨a, vs, rfl, SqL.of h1, fun p hp => ?_⟩)
    have nw := Nw.alloc s (o := .lst (cutV vs lo hi)) hp
    exact k _ _ _ nw (.lst upd_same ((t1.cut lo hi).same nw.s0))
  · cases ho
    have hx' := hx
    obtain ⟨a, vs, rfl, h1, t1⟩ := hx.tupI s
    refine .inl (.inr ⟨a, vs, rfl, h1.sq, fun hz => ?_, fun _ p hp => ?_⟩)
    · rw [t1.len] at hz
      rw [cutD_all hz] at k
      cases hx' with
      | imm h => exact k _ _ _ (Nw.refl s) h
    · have nw := Nw.alloc s (o := .tup (cutV vs lo hi)) hp
      exact k _ _ _ nw (.tup upd_same ((t1.cut lo hi).same nw.s0))
  · split at ho
    · rename_i z hl
      cases ho
      cases hx.strI
      exact .inr ⟨z, rfl, hl, k _ _ _ (Nw.refl s) (.str _)⟩
    · cases ho
  · cases ho
/-- a part of a slice -/
structure POX (X : Cx) (T : List (Addr × Str)) (E : XK) (e : Option Expr) (f : Rho → Mem → Re (Option Int)) : Prop where
  ex : ∃ t, PO X e t ∧ Sd X.K T E (fun _ _ (b c : Option Int) => b = c) t f
theorem pox_none : POX X T E none (retD none) := ⟨_, po_none, fun H0 am H => SdAt.ret (R1 := fun _ _ (b c : Option Int) => b = c) rfl⟩
def fPart (f : Rho → Mem → Re Sl) : Rho → Mem → Re (Option Int) := bindD f fun s _ m => match vw m s with
  | some (.int i) => some (.ok (some i), m)
  | _ => none
theorem pox_some (h : PX X T E e f) : POX X T E (some e) (fPart f) := by
  obtain ⟨t, p, s⟩ := h
  refine ⟨_, po_some p, s.bind (u := fun x σ H1 Q => ∃ i, x = .int i ∧ Q (some i) H1) fun H0 H am x a q ρ m σ r m' Q mo eo e gl => ?_⟩
  try dsimp only at e
  split at e
  · rename_i i h1
    cases e
    exact ⟨i, (vw_ok mo q h1).intI, gl _ H0 H am Ex.refl mo rfl⟩
  · cases e
def fCut (f : Rho → Mem → Re Sl) (l u : Rho → Mem → Re (Option Int)) : Rho → Mem → Re Sl := bindD f fun s => bindD l fun lo => bindD u fun hi _ m => match vw m s with
  | some d => liftO m (oCut d lo hi)
  | none => none
theorem px_cut {lo hi : Option Expr} {fl fu : Rho → Mem → Re (Option Int)} {p2 : Pos} (ha : PX X T E a f) (hl : POX X T E lo fl) (hu : POX X T E hi fu) : PX X T E (.Subscript a (.Slice lo hi none p2) pos) (fCut f fl fu) := by
  obtain ⟨ta, pa, sa⟩ := ha
  obtain ⟨tl, pl, sl⟩ := hl
  obtain ⟨tu, pu, su⟩ := hu
  refine ⟨_, pe_slice sl_U pa pl pu, sa.bind fun H0 H am x s q => (sl H0 am H).bind fun H1 H' am' lo lo' ex q2 => (su H1 am' H').bind fun H2 H'' am'' hi hi' ex2 q3 ρ m σ r m' Q mo eo e gl => ?_⟩
  cases q2
  cases q3
  try dsimp only at e
  split at e
  · rename_i d h1
    obtain ⟨c, e1, rfl, rfl⟩ := liftO_ok e
    exact od_cut H2 H'' x d c lo hi Q mo.sub (vw_ok mo ((q.ex ex).ex ex2) h1) e1 fun v H3 H4 nw z => gl v H3 H4 am'' nw.ex (mo.nw nw) (.dat z)
  · cases e
/-! attributes -/
def fAttr (C : Addr) (n : Str) (f : Rho → Mem → Re Sl) : Rho → Mem → Re Sl := bindD f fun s _ m => match vw m s with
  | some (.ins D' gs) => if D' = C then liftO m (gs.lookup n) else none
  | _ => none
theorem px_attr {C : Addr} {n : Str} (hc : Cls X.K C) (hn : NoAttr X.K C n) (ha : PX X T E e f) (hb : attributeBase e n X.env (eval e X.env) = eval e X.env := by rfl) : PX X T E (.Attribute e n pos) (fAttr C n f) := by
  obtain ⟨t, p, s⟩ := ha
  refine ⟨_, pe_fld p hb, s.bind (u := fun x σ H1 Q => ∃ a C dx fs v, x = .ref a ∧ H1 a = some (.ins C dx fs) ∧ Cls X.K C ∧ NoAttr X.K C n ∧ fs.lookup n = some v ∧ Q v H1) fun H0 H am x a q ρ m σ r m' Q mo eo e gl => ?_⟩
  try dsimp only at e
  split at e
  · rename_i D' gs h1
    split at e
    · rename_i hC
      subst hC
      obtain ⟨c, e1, rfl, rfl⟩ := liftO_ok e
      obtain ⟨b, dx, fs, rfl, h2, t2⟩ := (vw_ok mo q h1).insI mo.sub
      obtain ⟨v, e2, z⟩ := t2.look e1
      exact ⟨b, _, dx, fs, v, rfl, h2, hc, hn, e2, gl v H0 H am Ex.refl mo (.dat z)⟩
    · cases e
  · cases e
/-! what may be walked -/
section
variable {tg : Expr}
theorem PI.or {it : Expr} {w w' : TI} (h : PI X tg it w) (h' : PI X tg it w') : PI X tg it (fun σ H R => w σ H R ∨ w' σ H R) := ⟨fun pins s σ H R I z => by
  rcases z with z | z
  · exact h.run pins s σ H R I z
  · exact h'.run pins s σ H R I z⟩
/-- the data of a thing that is walked -/
def itD : D → Option (List D)
  | .lst xs => some xs
  | .tup xs => some xs
  | .str z => some (z.cps.toList.map fun c => .str ⟨#[c]⟩)
  | _ => none
def fIter (f : Rho → Mem → Re Sl) : Rho → Mem → Re (List D) := bindD f fun s _ m => match s with
  | .dat d => match itD d with
    | some ds => some (.ok ds, m)
    | none => none
  | .opq _ => none
theorem wk_yat {H0 : Hp} {am : List Addr} {J : It} {vs : List V} {ds : List D} (t : IsAll K H0 vs ds) (w : Walk J vs.length (fun H => Same H0 H) (YAt vs)) : Wk K H0 am J ds := by
  unfold Wk
  rw [← t.len]
  refine ⟨w.goes, w.stops, fun i H x H' hi h y H0c s1 s2 => ?_⟩
  obtain ⟨rfl, e⟩ := w.yields i H x H' hi h y
  obtain ⟨d, e2, q⟩ := t.get e
  exact ⟨H0c, d, Nw.refl s2, e2, q.same s1⟩
theorem pix_iter (h : PX X T E e f) : PIX X T E tg e (fIter f) := by
  obtain ⟨t, p, s⟩ := h
  refine ⟨_, PI.or (PI.or (pi_list p) (pi_tup p)) (pi_str p), fun H0 am H ρ m σ r m' R mo eo e gl => ?_⟩
  unfold fIter bindD bindR at e
  cases hf : f ρ m with
  | none => simp only [hf] at e; cases e
  | some z =>
    obtain ⟨z, m1⟩ := z
    simp only [hf] at e
    cases z with
    | error w =>
      cases e
      exact .inl (.inl (s H0 am H ρ m σ (.error w) _ _ mo eo hf gl))
    | ok a =>
      cases a with
      | opq i => cases e
      | dat d =>
        try dsimp only at e
        cases d with
        | lst xs =>
          cases e
          refine .inl (.inl (s H0 am H ρ m σ (.ok (.dat (.lst xs))) _ _ mo eo hf fun v H1 H' am' ex mo' q => ?_))
          cases q with
          | dat q => cases q with
            | lst h t =>
              have w : ∀ a vs, H1 a = some (.lst vs) → Walk (Itl X.K a) vs.length (fun H => Same H1 H) (YAt vs) := fun a vs h => walk_list.mono (fun H z => SqL.of (z _ _ h)) fun _ _ _ _ _ _ y => y
              exact ⟨_, rfl, ⟨_, SqL.of (mo'.sub _ _ h)⟩, gl _ H1 H' am' ex mo' (wk_yat t (w _ _ h))⟩
        | tup xs =>
          cases e
          refine .inl (.inr (s H0 am H ρ m σ (.ok (.dat (.tup xs))) _ _ mo eo hf fun v H1 H' am' ex mo' q => ?_))
          cases q with
          | dat q => cases q with
            | tup h t =>
              have w : ∀ a vs, TupW X.K H1 a vs → Walk (Itt X.K a) vs.length (fun H => Same H1 H) (YAt vs) := fun a vs h => walk_tup.mono (fun H z => sameT z h.sq) fun _ _ _ _ _ _ y => y
              exact ⟨_, rfl, ⟨_, sameT mo'.sub h.sq⟩, gl _ H1 H' am' ex mo' (wk_yat t (w _ _ h))⟩
        | str z =>
          cases e
          refine .inr (s H0 am H ρ m σ (.ok (.dat (.str z))) _ _ mo eo hf fun v H1 H' am' ex mo' q => ?_)
          cases q with
          | dat q =>
          cases q
          refine ⟨z, rfl, gl _ H1 H' am' ex mo' ?_⟩
          unfold Wk
          have hl : (z.cps.toList.map fun c => (D.str ⟨#[c]⟩)).length = z.cps.size := by rw [List.length_map, Array.length_toList]
          rw [hl]
          have w := walk_str (z := z)
          refine ⟨fun i H hi _ => w.goes i H hi trivial, fun H _ => w.stops H trivial, fun i H x H' hi h y H0c s1 s2 => ?_⟩
          obtain ⟨rfl, c, e1, rfl⟩ := w.yields i H x H' hi trivial y
          exact ⟨H0c, _, Nw.refl s2, by rw [List.getElem?_map, Array.getElem?_toList, e1]; rfl, .str _⟩
        | _ => cases e
/-- range -/
def fRng1 (fa : Rho → Mem → Re (List Sl)) : Rho → Mem → Re (List D) := bindD fa fun ss _ m => match ss with
  | [.dat (.int j)] => if -(2 ^ 62) ≤ j ∧ j < 2 ^ 62 then some (.ok ((List.range j.toNat).map fun i => D.int ((i : Nat) : Int)), m) else none
  | _ => none
def fRng2 (fa : Rho → Mem → Re (List Sl)) : Rho → Mem → Re (List D) := bindD fa fun ss _ m => match ss with
  | [.dat (.int i), .dat (.int j)] => if -(2 ^ 62) ≤ i ∧ i < 2 ^ 62 ∧ -(2 ^ 62) ≤ j ∧ j < 2 ^ 62 then some (.ok ((List.range (j - i).toNat).map fun k => D.int (i + ((k : Nat) : Int))), m) else none
  | _ => none
theorem wk_rng {H0 : Hp} {am : List Addr} {lo : Int} {n : Nat} {ds : List D} (h : ds = (List.range n).map fun i => D.int (lo + ((i : Nat) : Int))) : Wk K H0 am (Itr lo n) ds := by
  subst h
  unfold Wk
  rw [List.length_map, List.length_range]
  have w := walk_range (lo := lo) (n := n)
  refine ⟨fun i H hi _ => w.goes i H hi trivial, fun H _ => w.stops H trivial, fun i H x H' hi h y H0c s1 s2 => ?_⟩
  obtain ⟨rfl, rfl⟩ := w.yields i H x H' hi trivial y
  exact ⟨H0c, _, Nw.refl s2, by rw [List.getElem?_map, List.getElem?_range hi]; rfl, .int _⟩
theorem pix_rng1 {a : Expr} {fa : Rho → Mem → Re (List Sl)} {p pos : Pos} (hg : Gl X "range") (hm : X.mg "range" = none) (ha : PAX X T E [a] fa) (hs : starEach [a] X.env = [(false, eval a X.env)] := by rfl) : PIX X T E tg (.Call (.Name "range" p) [a] [] pos) (fRng1 fa) := by
  obtain ⟨⟨t, pa, s⟩, _⟩ := ha
  refine ⟨_, pi_range1 hg hm pa hs, s.bind (u := fun vs σ H1 R => ∃ j : Int, vs = [.int j] ∧ -(2 ^ 62) ≤ j ∧ j < 2 ^ 62 ∧ R (Itr 0 j.toNat) H1) fun H0 H am x a q ρ m σ r m' Q mo eo e gl => ?_⟩
  try dsimp only at e
  split at e
  · rename_i j
    split at e
    · rename_i hj
      cases e
      cases q with
      | cons r1 r2 =>
        cases r2
        cases r1 with
        | dat r1 =>
          cases r1
          exact ⟨j, rfl, hj.1, hj.2, gl _ H0 H am Ex.refl mo (wk_rng (by simp))⟩
    · cases e
  · cases e
theorem pix_rng2 {a b : Expr} {fa : Rho → Mem → Re (List Sl)} {p pos : Pos} (hg : Gl X "range") (hm : X.mg "range" = none) (ha : PAX X T E [a, b] fa) (hs : starEach [a, b] X.env = [(false, eval a X.env), (false, eval b X.env)] := by rfl) (hs2 : starEach [b] X.env = [(false, eval b X.env)] := by rfl) : PIX X T E tg (.Call (.Name "range" p) [a, b] [] pos) (fRng2 fa) := by
  obtain ⟨⟨t, pa, s⟩, _⟩ := ha
  refine ⟨_, pi_range2 hg hm pa hs hs2, s.bind (u := fun vs σ H1 R => ∃ i j : Int, vs = [.int i, .int j] ∧ (-(2 ^ 62) ≤ i ∧ i < 2 ^ 62 ∧ -(2 ^ 62) ≤ j ∧ j < 2 ^ 62) ∧ R (Itr i (j - i).toNat) H1) fun H0 H am x a q ρ m σ r m' Q mo eo e gl => ?_⟩
  try dsimp only at e
  split at e
  · rename_i i j
    split at e
    · rename_i hj
      cases e
      cases q with
      | cons r1 r2 =>
        cases r2 with
        | cons r2 r3 =>
          cases r3
          cases r1 with
          | dat r1 =>
            cases r1
            cases r2 with
            | dat r2 =>
              cases r2
              exact ⟨i, j, rfl, hj, gl _ H0 H am Ex.refl mo (wk_rng rfl)⟩
    · cases e
  · cases e
end
/-! the store -/
/-- a list display, a list of the store -/
def fLstM (fa : Rho → Mem → Re (List Sl)) : Rho → Mem → Re Sl := bindD fa fun ss _ m => if ss.length ≤ sizeLine then some (.ok (.opq m.length), m ++ [.lst ss]) else none
theorem prd_len {α β : Type} {F : α → β → Prop} {xs : List α} {ys : List β} (h : Paired F xs ys) : xs.length = ys.length := h.length
theorem px_lstM {es : List Expr} {fa : Rho → Mem → Re (List Sl)} (ha : PAX X T E es fa) : PX X T E (.List es pos) (fLstM fa) := by
  obtain ⟨⟨t, p, s⟩, _⟩ := ha
  refine ⟨_, pe_lst p, s.bind (R2 := IsS X.K) (u := fun (xs : List V) σ H1 (Q : VK) => xs.length ≤ sizeLine ∧ ∀ p, H1 p = none → Q (V.ref p) (upd H1 p (.lst xs))) fun H0 H am x a q ρ m σ r m' Q mo eo e gl => ?_⟩
  try dsimp only at e
  split at e
  · rename_i hl
    cases e
    refine ⟨by rw [prd_len q]; exact hl, fun p hp => ?_⟩
    obtain ⟨ex, mo'⟩ := mo.push (u := .lst x) (o := .lst a) hp ⟨x, rfl, q⟩
    exact gl _ _ _ _ ex mo' (.opq (by rw [← mo.len]; simp))
  · cases e
theorem px_lst {es : List Expr} {fa : Rho → Mem → Re (List Sl)} (ha : PAX X T E es fa) : PX X T E (.List es pos) (bindD fa fun ss _ m => fD oLst ss m) := by
  obtain ⟨⟨t, p, s⟩, _⟩ := ha
  exact ⟨_, pe_lst p, s.bind (u := fun xs _ H1 Q => rLstN xs H1 Q) fun H0 H am x a q => at_lst q⟩
theorem px_tup {es : List Expr} {k : Nat} {fa : Rho → Mem → Re (List Sl)} (ha : PAX X T E es fa) : PX X T E (.Tuple es k pos) (bindD fa fun ss _ m => fD oTup ss m) := by
  obtain ⟨⟨t, p, s⟩, _⟩ := ha
  exact ⟨_, pe_tup p, s.bind (u := fun xs _ H1 Q => rTupN xs H1 Q) fun H0 H am x a q => at_tup q⟩
/-- xs.append(e) -/
def oAppend (s t : Sl) (m : Mem) : Re Sl := match s with
  | .opq i => match m[i]? with
    | some (.lst xs) => if xs.length < sizeLine then some (.ok (.dat .non), m.set i (.lst (xs ++ [t]))) else none
    | _ => none
  | _ => none
theorem Paired.snoc {α β : Type} {F : α → β → Prop} {x : α} {y : β} (h : F x y) : ∀ {xs : List α} {ys : List β}, Paired F xs ys → Paired F (xs ++ [x]) (ys ++ [y])
  | _, _, .nil => .cons h .nil
  | _, _, .cons r t => .cons r (Paired.snoc h t)
def isLst (m : Mem) : Sl → Bool
  | .opq i => match m[i]? with
    | some (.lst _) => true
    | _ => false
  | _ => false
def fAppend (f g : Rho → Mem → Re Sl) : Rho → Mem → Re Sl := bindD f fun s ρ m => if isLst m s = true then bindR (g ρ m) fun t m2 => oAppend s t m2 else none
theorem isLst_is {H0 H : Hp} {am : List Addr} {m : Mem} {x : V} {s : Sl} (mo : MOk K T H0 am H m) (q : IsS K H0 am x s) (h : isLst m s = true) : ∃ i l vs xs, s = .opq i ∧ x = .ref l ∧ am[i]? = some l ∧ m[i]? = some (.lst xs) ∧ H0 l = none ∧ H l = some (.lst vs) ∧ Paired (IsS K H0 am) vs xs := by
  cases q with
  | dat q => exact absurd (show false = true from h) Bool.false_ne_true
  | opq q =>
    rename_i i a
    unfold isLst at h
    dsimp only at h
    split at h
    · rename_i xs hm
      obtain ⟨l, e1, ⟨u, e0, e3, vs, rfl, t⟩ | ⟨_, z, _⟩⟩ := mo.is i _ hm
      · rw [q] at e1; cases e1; exact ⟨i, a, vs, xs, rfl, rfl, q, hm, e0, e3, t⟩
      · cases z
    · cases h
theorem px_append {apos cpos : Pos} (ha : PX X T E a f) (hb : PX X T E b g) (hbase : attributeBase a "append" X.env (eval a X.env) = eval a X.env := by rfl)
    (hfew : ((backTo cpos (starEach (b :: []) X.env)).all (fun x => !x.1) && (backToKw cpos (keywordEach [] X.env)).all (fun x => x.1.isSome)
      && decide ((b :: []).length + ([] : List Keyword).length + (if ([] : List Keyword).isEmpty then 0 else 1) < 30)) = true := by rfl)
    (hline : (apos.endLine == cpos.line) = true := by rfl) (hs : starEach (b :: []) X.env = (false, eval b X.env) :: starEach [] X.env := by rfl) (hplain : (backTo cpos (starEach [] X.env)).any (·.1) = false := by rfl) :
    PX X T E (.Call (.Attribute a "append" apos) [b] [] cpos) (fAppend f g) := by
  obtain ⟨ta, pa, sa⟩ := ha
  obtain ⟨tb, pb, sb⟩ := hb
  refine ⟨_, pe_bm PySem.F.plainAttrs_list PySem.F.slot_list_append PySem.F.type_list_append mt_append pa (pa_cons pb pa_nil hs) hbase hfew hline hs hplain, ?_⟩
  refine sa.bind (R2 := IsS X.K) (u := fun x σ H1 (Q : VK) => tyV X.K "list" x H1 ∧ tb σ H1 fun y H2 => rAppend x [y] H2 Q) fun H0 H am x s q ρ m σ r m' Q mo eo e gl => ?_
  split at e
  · rename_i hl
    obtain ⟨i, l, vs, xs, rfl, rfl, ha, hm, h0, hH, t⟩ := isLst_is mo q hl
    refine ⟨.inl ⟨rfl, vs, SqL.of hH⟩, ?_⟩
    unfold bindR at e
    cases hg : g ρ m with
    | none => rw [hg] at e; cases e
    | some z =>
      obtain ⟨z, m2⟩ := z
      rw [hg] at e
      cases z with
      | error w => cases e; exact sb H0 am H ρ m σ (.error w) _ _ mo eo hg gl
      | ok t2 =>
        refine sb H0 am H ρ m σ (.ok t2) m2 _ mo eo hg fun y H1 H' am' ex mo' q2 => ?_
        dsimp only [oAppend] at e
        split at e
        · rename_i ys hm2
          split at e
          · rename_i hz
            cases e
            have ha' := ex.get ha
            obtain ⟨l2, e1, ⟨u, e0, e3, ws, rfl, t3⟩ | ⟨_, z, _⟩⟩ := mo'.is i _ hm2
            · rw [ha'] at e1
              cases e1
              have hl2 := prd_len t3
              obtain ⟨ex2, mo2⟩ := mo'.put (u := .lst ws) (u' := .lst (ws ++ [y])) (o' := .lst ys) (o := .lst (ys ++ [t2])) ha' e0 e3 ⟨ws, rfl, t3⟩ ⟨_, rfl, Paired.snoc q2 t3⟩
              exact ⟨l, ws, y, rfl, rfl, e3, by rw [hl2]; exact hz, gl _ _ _ _ (ex.trans ex2) mo2 (.dat .non)⟩
            · cases z
          · cases e
        · cases e
  · cases e
/-- a list of the store becomes data -/
def oFz (s : Sl) (m : Mem) : Re Sl := match s with
  | .dat d => some (.ok (.dat d), m)
  | .opq i => match m[i]? with
    | some (.lst xs) => match allD xs with
      | some ds => some (.ok (.dat (.lst ds)), m.set i (.fz (.lst ds)))
      | none => none
    | some (.fz d) => some (.ok (.dat d), m)
    | _ => none
theorem px_fz (ha : PX X T E a f) : PX X T E a (bindD f fun s _ m => oFz s m) := by
  obtain ⟨t, p, s⟩ := ha
  refine ⟨t, p, ?_⟩
  have z := s.bind (R2 := IsS X.K) (u := fun x σ H1 (Q : VK) => Q x H1) (g := fun s _ m => oFz s m) fun H0 H am x s q ρ m σ r m' Q mo eo e gl => ?_
  · exact z
  cases q with
  | dat q => cases e; exact gl _ H0 H am Ex.refl mo (.dat q)
  | opq q =>
    rename_i i l
    dsimp only [oFz] at e
    split at e
    · rename_i xs hm
      split at e
      · rename_i ds hd
        cases e
        obtain ⟨l2, e1, ⟨u, e0, e3, ws, rfl, t3⟩ | ⟨_, z, _⟩⟩ := mo.is i _ hm
        · rw [q] at e1
          cases e1
          have t4 := allD_all t3 hd
          have s0 : Same H0 (upd H0 l (.lst ws)) := Same.new e0
          have hmem : l ∈ am := List.mem_of_getElem? q
          have ex : Ex H0 H (upd H0 l (.lst ws)) H am am := ⟨s0, ⟨[], by simp, by simp⟩, fun _ _ h _ _ => h, fun _ h => h, fun a n h k => by rw [upd_ne (by rintro rfl; exact n hmem)]; exact h⟩
          refine gl _ _ _ _ ex ⟨by rw [List.length_set]; exact mo.len, mo.nd, fun j w h => ?_, fun b w h => ?_, mo.tr, fun b ps h => ?_, mo.tb⟩ (.dat (.lst upd_same (t4.same s0)))
          · by_cases c : i = j
            · subst c
              rw [List.getElem?_set_self (by rw [← mo.len]; exact (List.getElem?_eq_some_iff.mp q).1)] at h
              cases h
              exact ⟨l, q, .inr ⟨_, rfl, .lst upd_same (t4.same s0)⟩⟩
            · rw [List.getElem?_set_ne c] at h
              obtain ⟨b, f1, ⟨w2, f2, f3, z⟩ | ⟨d, f2, z⟩⟩ := mo.is j w h
              · refine ⟨b, f1, .inl ⟨w2, ?_, f3, z.ex ex⟩⟩
                have nb : b ≠ l := by
                  rintro rfl
                  obtain ⟨h1, e4⟩ := List.getElem?_eq_some_iff.mp q
                  obtain ⟨h2, e5⟩ := List.getElem?_eq_some_iff.mp f1
                  exact c ((List.getElem_inj mo.nd).mp (e4.trans e5.symm))
                rw [upd_ne nb]
                exact f2
              · exact ⟨b, f1, .inr ⟨d, f2, z.same s0⟩⟩
          · by_cases c : b = l
            · subst c; rw [upd_same] at h; rw [← h]; exact e3
            · rw [upd_ne c] at h; exact mo.sub _ _ h
          · by_cases c : b = l
            · subst c; rw [upd_same] at h; cases h
            · rw [upd_ne c] at h; exact mo.nt _ _ h
        · cases z
      · cases e
    · rename_i d hm
      cases e
      obtain ⟨l2, e1, ⟨u, e0, e3, z⟩ | ⟨_, z, z2⟩⟩ := mo.is i _ hm
      · exact z.elim
      · rw [q] at e1
        cases e1
        cases z
        exact gl _ H0 H am Ex.refl mo (.dat z2)
    · cases e
/-! raising -/
/-- raise x(e), the error has one field -/
def fEr (C : Addr) (n : Str) (f : Rho → Mem → Re Sl) : Rho → Mem → RS := fun ρ m => bindS (f ρ m) fun s m' => match s with
  | .dat d => some (.er ⟨C, some [(n, d)]⟩, m')
  | .opq _ => none
open EV in
theorem psx_raise {x : Str} {C : Addr} {n : Str} {i : Nat} {y : Str} {p p2 cpos : Pos} (tk : Takes X (fun cls d _ H => E cls d H)) (hc : X.calm = true) (TE' : Err X.prog X.w X.K X.mg X.base x C [n]) (hr : Room 2 X.A) (hg : Gl X x)
    (hN : X.N[i]? = some y) (hv : Vis X.env.scope y) (hd : (y == ("__debug__" : Str)) = false := by decide) (hcd : (y == ("__classdict__" : Str)) = false := by decide)
    (hdb : (x == ("__debug__" : Str)) = false := by decide) :
    PSX X T E (.Raise (some (.Call (.Name x p) [.Name y p2] [] cpos)) none pos) (fEr C n (fV i)) := by
  refine ⟨_, ps_raise hc tk (pmk_er TE' hr (show 1 ≤ 9 by decide) hg (pl_var (pv i hN hv hd hcd) pl_nil) hdb), fun H0 am H ρ m σ o m' D mo eo e gl => ?_⟩
  unfold fEr fV bindS at e
  cases hs : ρ[i]? with
  | none => simp only [hs] at e; cases e
  | some s =>
    cases s with
    | none => simp only [hs] at e; cases e
    | some s =>
      simp only [hs] at e
      cases s with
      | opq j => cases e
      | dat d =>
        cases e
        obtain ⟨v, e1, q⟩ := eo.2 i _ hs
        cases q with
        | dat q =>
        refine ⟨[v], ⟨v, [], rfl, e1, rfl⟩, rfl, fun dd H' sm hn hx => ?_⟩
        exact gl H0 H am Ex.refl mo dd H0 H' _ ⟨.refl _, sm, mo.sub.trans sm, fun _ h _ => h, fun _ _ h => h⟩ hn hx (.cons q .nil)
open EV in
theorem psx_raiseC {x : Str} {C : Addr} {n : Str} {v : V} {d : D} {e0 : Expr} {p cpos : Pos} (tk : Takes X (fun cls d _ H => E cls d H)) (hc : X.calm = true) (TE' : Err X.prog X.w X.K X.mg X.base x C [n]) (hr : Room 2 X.A) (hg : Gl X x)
    (he : PE X e0 (tC v)) (hv : ∀ H, Is X.K H v d) (hs : starEach [e0] X.env = [(false, eval e0 X.env)] := by rfl) (hpl : (backTo cpos (starEach [] X.env)).any (·.1) = false := by rfl)
    (hdb : (x == ("__debug__" : Str)) = false := by decide) :
    PSX X T E (.Raise (some (.Call (.Name x p) [e0] [] cpos)) none pos) (fEr C n (retD (.dat d))) := by
  have pl : PA X [e0] (tPl fun σ vs => vs = [v]) := ⟨fun pos pins s σ H Q I ⟨vs, e, q⟩ => (pa_cons he pa_nil hs).run pos pins s σ H Q I (by subst e; exact q)⟩
  refine ⟨_, ps_raise hc tk (pmk_er TE' hr (show 1 ≤ 9 by decide) hg pl hdb hs hpl), fun H0 am H ρ m σ o m' D mo eo e gl => ?_⟩
  cases e
  refine ⟨[v], rfl, rfl, fun dd H' sm hn hx => ?_⟩
  exact gl H0 H am Ex.refl mo dd H0 H' _ ⟨.refl _, sm, mo.sub.trans sm, fun _ h _ => h, fun _ _ h => h⟩ hn hx (.cons (hv _) .nil)
end
end Pu
namespace Pu
open PySem PySem.Spec PyProof.Rows L2
open LamX (Tabs)
section
variable {X : Cx} {T : List (Addr × Str)} {E : XK} {K : PySem.W.Frag} {e : Expr} {es : List Expr} {fa : Rho → Mem → Re (List Sl)} {x : Str} {p pos : Pos} {id : String} {r : List V → Hp → VK → Prop} {o : List D → Option D}
theorem px_callB (hc : CallR X (.builtin id) r) (hd : CallD X.K r o) (hg : Gl X x) (hm : X.mg x = none) (hv : bootBuiltins x = some (.builtin id)) (ha : PAX X T E (e :: es) fa) (hn : x ≠ "__name__" := by decide) (hdb : (x == ("__debug__" : Str)) = false := by decide)
    (he : starEach (e :: es) X.env = (false, eval e X.env) :: starEach es X.env := by rfl) (hpl : (backTo pos (starEach es X.env)).any (·.1) = false := by rfl) : PX X T E (.Call (.Name x p) (e :: es) [] pos) (bindD fa fun ss _ m => fN o ss m) := by
  obtain ⟨⟨t, pa, s⟩, _⟩ := ha
  exact ⟨_, pe_callB hc hg hm hv pa hn hdb he hpl, s.bind (u := fun vs _ H1 Q => r vs H1 Q) fun H0 H am xs ss q => hd.at q⟩
theorem px_callTy (hc : CallR X (.type id) r) (hd : CallD X.K r o) (hg : Gl X x) (hm : X.mg x = none) (hv : bootBuiltins x = some (.type id)) (ha : PAX X T E (e :: es) fa) (hn : x ≠ "__name__" := by decide) (hdb : (x == ("__debug__" : Str)) = false := by decide)
    (he : starEach (e :: es) X.env = (false, eval e X.env) :: starEach es X.env := by rfl) (hpl : (backTo pos (starEach es X.env)).any (·.1) = false := by rfl) : PX X T E (.Call (.Name x p) (e :: es) [] pos) (bindD fa fun ss _ m => fN o ss m) := by
  obtain ⟨⟨t, pa, s⟩, _⟩ := ha
  exact ⟨_, pe_callTy hc hg hm hv pa hn hdb he hpl, s.bind (u := fun vs _ H1 Q => r vs H1 Q) fun H0 H am xs ss q => hd.at q⟩
theorem vw1 {H0 H : Hp} {xs : List V} {d : D} (h : VwAll K H0 H xs [d]) : ∃ v, xs = [v] ∧ Vw K H0 H v d := by
  cases h with
  | cons r t => cases t; exact ⟨_, rfl, r⟩
theorem vw2 {H0 H : Hp} {xs : List V} {d e : D} (h : VwAll K H0 H xs [d, e]) : ∃ v w, xs = [v, w] ∧ Vw K H0 H v d ∧ Vw K H0 H w e := by
  cases h with
  | cons r t => cases t with
    | cons r2 t => cases t; exact ⟨_, _, rfl, r, r2⟩
/-! len -/
def oLen : List D → Option D
  | [.frl xs] => some (.int xs.length)
  | [.lst xs] => some (.int xs.length)
  | [.tup xs] => some (.int xs.length)
  | [.str z] => if z.length ≤ sizeLine then some (.int z.length) else none
  | _ => none
def rLenU (K : PySem.W.Frag) : List V → Hp → VK → Prop := fun xs H Q => (∃ p ys, xs = [.ref p] ∧ (SqL K H p ys ∨ SqT K H p ys) ∧ Q (.int ys.length) H) ∨ ∃ z, xs = [.str z] ∧ z.length ≤ sizeLine ∧ Q (.int z.length) H
theorem call_lenU : CallR X (.builtin "len") (rLenU X.K) := CallR.or call_len_seq call_len_str
theorem cd_len : CallD K (rLenU K) oLen := by
  intro H0 H xs ds c Q s hx ho k
  unfold oLen at ho
  split at ho
  · cases ho
    obtain ⟨v, rfl, h⟩ := vw1 hx
    obtain ⟨a, vs, rfl, h1, t1⟩ := h.frlI s
    exact .inl ⟨a, vs, rfl, .inl h1, k _ _ _ (Nw.refl s) (by rw [t1.len]; exact .int _)⟩
  · cases ho
    obtain ⟨v, rfl, h⟩ := vw1 hx
    obtain ⟨a, vs, rfl, h1, t1⟩ := h.lstI s
    exact .inl ⟨a, vs, rfl, .inl (SqL.of h1), k _ _ _ (Nw.refl s) (by rw [t1.len]; exact .int _)⟩
  · cases ho
    obtain ⟨v, rfl, h⟩ := vw1 hx
    obtain ⟨a, vs, rfl, h1, t1⟩ := h.tupI s
    exact .inl ⟨a, vs, rfl, .inr h1.sq, k _ _ _ (Nw.refl s) (by rw [t1.len]; exact .int _)⟩
  · split at ho
    · rename_i z hl
      cases ho
      obtain ⟨v, rfl, h⟩ := vw1 hx
      cases h.strI
      exact .inr ⟨z, rfl, hl, k _ _ _ (Nw.refl s) (.int _)⟩
    · cases ho
  · cases ho
/-! isinstance -/
structure InsC (K : PySem.W.Frag) (C : Addr) : Prop where
  cl : Cls K C
  ha : PySem.W.findIn K (.ref C) "__class__" = some (some (.builtin "object.__class__"))
  hn : PySem.W.specialIn K (.builtin "object.__class__") "__get__" = some (some (.builtin "getset_descriptor.__get__"))
  tk : PySem.W.takesIn K (.builtin "object.__class__") = some true
  hm : PySem.W.mroIn K C (.type "object") = some true
  me : PySem.W.kitOne K (.ref C) (.ref C) = some true
abbrev kinds : List String := ["NoneType", "bool", "int", "str", "dict", "list", "tuple"]
/-- the own classes that isinstance may meet -/
structure Own (K : PySem.W.Frag) (L : List Addr) : Prop where
  ins : ∀ C ∈ L, InsC K C
  no : ∀ C ∈ L, ∀ t ∈ kinds, PySem.W.kitOne K (.type t) (.ref C) = some false ∧ PySem.W.kitOne K (.ref C) (.type t) = some false
  other : ∀ C ∈ L, ∀ C' ∈ L, C ≠ C' → PySem.W.kitOne K (.ref C) (.ref C') = some false
theorem own_nil : Own K [] := ⟨fun _ h => absurd h (by simp), fun _ h => absurd h (by simp), fun _ h => absurd h (by simp)⟩
def tyOf' : D → Option String
  | .non => some "NoneType" | .bl _ => some "bool" | .int _ => some "int" | .str _ => some "str" | .lst _ => some "list" | .tup _ => some "tuple" | .dic _ => some "dict" | _ => none
/-- a value's class -/
def tag (L : List Addr) : D → Option (String ⊕ Addr)
  | .ins C _ => if C ∈ L then some (.inr C) else none
  | d => (tyOf' d).map .inl
def isT (L : List Addr) : String ⊕ Addr → D → Option Bool
  | .inl t, .ty n => kitB t n
  | .inl _, .fn C' => if C' ∈ L then some false else none
  | .inr _, .ty n => if n ∈ kinds then some false else none
  | .inr C, .fn C' => if C' ∈ L then some (decide (C = C')) else none
  | _, _ => none
def tval : String ⊕ Addr → Value
  | .inl t => .type t
  | .inr C => .ref C
def oIsi (L : List Addr) : List D → Option D
  | [d, .tup [a, b]] => match tag L d with
    | some t => match isT L t a, isT L t b with
      | some x, some y => some (.bl (x || y))
      | _, _ => none
    | none => none
  | [d, c] => match tag L d with
    | some t => (isT L t c).map D.bl
    | none => none
  | _ => none
theorem tyOf_in {d : D} {t : String} (h : tyOf' d = some t) : t ∈ kinds := by
  cases d <;> simp only [tyOf', Option.some.injEq] at h <;> first | (subst h; decide) | cases h
theorem is_tyX {H : Hp} {v : V} {d : D} {t : String} (q : Is K H v d) (h : tyOf' d = some t) : TyX K H v (.type t) := by
  cases q <;> simp only [tyOf', Option.some.injEq] at h
  case non => subst h; exact .base .non
  case bl => subst h; exact .base (.bl _)
  case int => subst h; exact .base (.int _)
  case str => subst h; exact .base (.str _)
  case lst z _ => subst h; exact .base (.lst z)
  case tup z _ =>
    subst h
    exact .base (.tup z)
  case dic z _ => subst h; exact .fDict z
  all_goals cases h
theorem tag_ok {L : List Addr} {H : Hp} {v : V} {d : D} {t : String ⊕ Addr} (O : Own K L) (q : Is K H v d) (h : tag L d = some t) : TyX K H v (tval t) ∧ (∀ s, t = .inl s → s ∈ kinds) ∧ ∀ C, t = .inr C → C ∈ L := by
  have low : ∀ s, tyOf' d = some s → t = .inl s → TyX K H v (tval t) ∧ (∀ s, t = .inl s → s ∈ kinds) ∧ ∀ C, t = .inr C → C ∈ L := fun s h1 h2 => by
    subst h2
    exact ⟨is_tyX q h1, fun s2 e => by cases e; exact tyOf_in h1, fun C e => nomatch e⟩
  cases q with
  | ins hh z =>
    unfold tag at h
    dsimp only at h
    split at h
    · rename_i hC
      cases h
      exact ⟨.base (.ins hh (O.ins _ hC).cl (O.ins _ hC).ha (O.ins _ hC).hn (O.ins _ hC).tk (O.ins _ hC).hm), fun s e => (by cases e), fun C e => by cases e; exact hC⟩
    · cases h
  | ty n => cases h
  | fn a => cases h
  | frl _ _ => cases h
  | non => cases h; exact low _ rfl rfl
  | bl b => cases h; exact low _ rfl rfl
  | int b => cases h; exact low _ rfl rfl
  | str b => cases h; exact low _ rfl rfl
  | lst _ _ => cases h; exact low _ rfl rfl
  | tup _ _ => cases h; exact low _ rfl rfl
  | dic _ _ => cases h; exact low _ rfl rfl
theorem tag_okV {L : List Addr} {H0 H : Hp} {v : V} {d : D} {t : String ⊕ Addr} (s : Same H0 H) (O : Own K L) (q : Vw K H0 H v d) (h : tag L d = some t) : TyX K H v (tval t) ∧ (∀ s, t = .inl s → s ∈ kinds) ∧ ∀ C, t = .inr C → C ∈ L := by
  cases q with
  | dic hh _ =>
    cases h
    exact ⟨.base (.dK hh), fun s e => by cases e; decide, fun C e => nomatch e⟩
  | imm h' => exact tag_ok O (h'.same s) h
  | lst h' t => exact tag_ok O (Is.lst h' (t.same s)) h
  | ins h' t => exact tag_ok O (Is.ins h' (t.same s)) h
theorem isT_ok {L : List Addr} {H : Hp} {c : V} {e : D} {t : String ⊕ Addr} {b : Bool} (O : Own K L) (h1 : ∀ s, t = .inl s → s ∈ kinds) (h2 : ∀ C, t = .inr C → C ∈ L) (q : Is K H c e) (h : isT L t e = some b) : ∃ u, ClsV c u ∧ PySem.W.kitOne K (tval t) u = some b := by
  unfold isT at h
  split at h
  · cases q; exact ⟨_, .ty _, kit_ty h⟩
  · split at h
    · rename_i hC
      cases h
      cases q
      exact ⟨_, .own _, (O.no _ hC _ (h1 _ rfl)).1⟩
    · cases h
  · split at h
    · rename_i hn
      cases h
      cases q
      exact ⟨_, .ty _, (O.no _ (h2 _ rfl) _ hn).2⟩
    · cases h
  · split at h
    · rename_i C C' hC
      cases h
      cases q
      refine ⟨_, .own _, ?_⟩
      by_cases hcc : C = C'
      · subst hcc; rw [decide_eq_true rfl]; exact (O.ins C hC).me
      · rw [decide_eq_false hcc]; exact O.other C (h2 _ rfl) C' hC hcc
    · cases h
  · cases h
def rIsiU (K : PySem.W.Frag) : List V → Hp → VK → Prop := fun xs H Q => (rIsi K xs H Q ∨ rIsiT K xs H Q) ∨ rIsiK K xs H Q
theorem call_isiU : CallR X (.builtin "isinstance") (rIsiU X.K) := CallR.or (CallR.or call_isi call_isiT) call_isiK
theorem cd_isi {L : List Addr} (O : Own K L) : CallD K (rIsiU K) (oIsi L) := by
  intro H0 H xs ds c Q s hx ho k
  unfold oIsi at ho
  split at ho
  · obtain ⟨v, w, rfl, h1, h2⟩ := vw2 hx
    split at ho
    · rename_i t ht
      split at ho
      · rename_i x y e1 e2
        cases ho
        obtain ⟨tx, k1, k2⟩ := tag_okV s O h1 ht
        obtain ⟨a, vs, rfl, hT, t1⟩ := h2.tupI s
        have t1 := t1.same s
        cases t1 with
        | cons q1 t1 => cases t1 with
          | cons q2 t1 =>
            cases t1
            obtain ⟨u1, c1, z1⟩ := isT_ok O k1 k2 q1 e1
            obtain ⟨u2, c2, z2⟩ := isT_ok O k1 k2 q2 e2
            have ka : PySem.W.kitAny K (tval t) [u1, u2] = some (x || y) := kitAny_cons z1 (fun e => by subst e; exact kitAny_cons z2 (fun e => by subst e; rfl) (fun e => by subst e; rfl)) (fun e => by subst e; rfl)
            exact .inl (.inr ⟨v, a, _, tval t, _, _, rfl, hT, .cons c1 (.cons c2 .nil), tx, ka, k _ _ _ (Nw.refl s) (.bl _)⟩)
      · cases ho
    · cases ho
  · obtain ⟨v, w, rfl, h1, h2⟩ := vw2 hx
    split at ho
    · rename_i t ht
      cases e1 : isT L t _ with
      | none => rw [e1] at ho; cases ho
      | some b =>
        rw [e1] at ho
        cases ho
        obtain ⟨tx, k1, k2⟩ := tag_okV s O h1 ht
        obtain ⟨u1, c1, z1⟩ := isT_ok O k1 k2 (h2.is s fun k z => by subst z; cases t <;> cases e1) e1
        exact .inl (.inl ⟨v, w, tval t, u1, b, rfl, c1, tx, z1, k _ _ _ (Nw.refl s) (.bl _)⟩)
    · cases ho
  · cases ho
end
end Pu
namespace Pu
open PySem PySem.Spec PyProof.Rows L2
open LamX (Tabs)
section
variable {X : Cx} {K : PySem.W.Frag}
/-! all, any -/
def blsOf : List D → Option (List Bool)
  | [] => some []
  | .bl b :: r => (blsOf r).map (b :: ·)
  | _ :: _ => none
def intsOf : List D → Option (List Int)
  | [] => some []
  | .int b :: r => (intsOf r).map (b :: ·)
  | _ :: _ => none
def strsOf : List D → Option (List Str)
  | [] => some []
  | .str b :: r => (strsOf r).map (b :: ·)
  | _ :: _ => none
theorem blsOf_map (bs : List Bool) : blsOf (bs.map D.bl) = some bs := by
  induction bs with
  | nil => rfl
  | cons b r ih => show (blsOf (r.map D.bl)).map (b :: ·) = _; rw [ih]; rfl
theorem intsOf_map (bs : List Int) : intsOf (bs.map D.int) = some bs := by
  induction bs with
  | nil => rfl
  | cons b r ih => show (intsOf (r.map D.int)).map (b :: ·) = _; rw [ih]; rfl
theorem strsOf_map (bs : List Str) : strsOf (bs.map D.str) = some bs := by
  induction bs with
  | nil => rfl
  | cons b r ih => show (strsOf (r.map D.str)).map (b :: ·) = _; rw [ih]; rfl
theorem blsOf_is {H : Hp} : ∀ {vs : List V} {ds : List D} {bs : List Bool}, IsAll K H vs ds → blsOf ds = some bs → vs = bs.map V.bl
  | _, _, _, .nil, e => by cases e; rfl
  | _, _, _, .cons (d := d) (ds := ds) r t, e => by
    cases d with
    | bl b =>
      unfold blsOf at e
      cases h : blsOf ds with
      | none => rw [h] at e; cases e
      | some l => rw [h] at e; cases e; cases r; rw [blsOf_is t h]; rfl
    | _ => cases e
theorem intsOf_is {H : Hp} : ∀ {vs : List V} {ds : List D} {bs : List Int}, IsAll K H vs ds → intsOf ds = some bs → vs = bs.map V.int
  | _, _, _, .nil, e => by cases e; rfl
  | _, _, _, .cons (d := d) (ds := ds) r t, e => by
    cases d with
    | int b =>
      unfold intsOf at e
      cases h : intsOf ds with
      | none => rw [h] at e; cases e
      | some l => rw [h] at e; cases e; cases r; rw [intsOf_is t h]; rfl
    | _ => cases e
theorem strsOf_is {H : Hp} : ∀ {vs : List V} {ds : List D} {bs : List Str}, IsAll K H vs ds → strsOf ds = some bs → vs = bs.map V.str
  | _, _, _, .nil, e => by cases e; rfl
  | _, _, _, .cons (d := d) (ds := ds) r t, e => by
    cases d with
    | str b =>
      unfold strsOf at e
      cases h : strsOf ds with
      | none => rw [h] at e; cases e
      | some l => rw [h] at e; cases e; cases r; rw [strsOf_is t h]; rfl
    | _ => cases e
def oAll : List D → Option D
  | [.lst xs] => (blsOf xs).map fun bs => .bl (bs.all id)
  | _ => none
def oAny : List D → Option D
  | [.lst xs] => (blsOf xs).map fun bs => .bl (bs.any id)
  | _ => none
theorem cd_all : CallD K (rAll K) oAll := by
  intro H0 H xs ds c Q s hx ho k
  unfold oAll at ho
  split at ho
  · rename_i ys
    obtain ⟨v, rfl, h⟩ := vw1 hx
    obtain ⟨a, vs, rfl, h1, t1⟩ := h.lstI s
    cases hb : blsOf ys with
    | none => rw [hb] at ho; cases ho
    | some bs =>
      rw [hb] at ho; cases ho
      have e := blsOf_is t1 hb
      subst e
      exact ⟨a, bs, rfl, SqL.of h1, k _ _ _ (Nw.refl s) (.bl _)⟩
  · cases ho
theorem cd_any : CallD K (rAny K) oAny := by
  intro H0 H xs ds c Q s hx ho k
  unfold oAny at ho
  split at ho
  · rename_i ys
    obtain ⟨v, rfl, h⟩ := vw1 hx
    obtain ⟨a, vs, rfl, h1, t1⟩ := h.lstI s
    cases hb : blsOf ys with
    | none => rw [hb] at ho; cases ho
    | some bs =>
      rw [hb] at ho; cases ho
      have e := blsOf_is t1 hb
      subst e
      exact ⟨a, bs, rfl, SqL.of h1, k _ _ _ (Nw.refl s) (.bl _)⟩
  · cases ho
/-! list, tuple -/
def oList : List D → Option D
  | [.frl xs] => some (.lst xs)
  | [.lst xs] => some (.lst xs)
  | [.tup xs] => some (.lst xs)
  | _ => none
def rListU (K : PySem.W.Frag) : List V → Hp → VK → Prop := fun xs H Q => ∃ p ys, xs = [.ref p] ∧ (SqL K H p ys ∨ SqT K H p ys) ∧ ∀ l, H l = none → Q (.ref l) (upd H l (.lst ys))
theorem cd_list : CallD K (rListU K) oList := by
  intro H0 H xs ds c Q s hx ho k
  unfold oList at ho
  split at ho
  · cases ho
    obtain ⟨v, rfl, h⟩ := vw1 hx
    obtain ⟨a, vs, rfl, h1, t1⟩ := h.frlI s
    refine ⟨a, vs, rfl, .inl h1, fun p hp => ?_⟩
    have nw := Nw.alloc s (o := .lst vs) hp
    exact k _ _ _ nw (.lst upd_same (t1.same nw.s0))
  · cases ho
    obtain ⟨v, rfl, h⟩ := vw1 hx
    obtain ⟨a, vs, rfl, h1, t1⟩ := h.lstI s
    refine ⟨a, vs, rfl, .inl (SqL.of h1), fun p hp => ?_⟩
    have nw := Nw.alloc s (o := .lst vs) hp
    exact k _ _ _ nw (.lst upd_same (t1.same nw.s0))
  · cases ho
    obtain ⟨v, rfl, h⟩ := vw1 hx
    obtain ⟨a, vs, rfl, h1, t1⟩ := h.tupI s
    refine ⟨a, vs, rfl, .inr h1.sq, fun p hp => ?_⟩
    have nw := Nw.alloc s (o := .lst vs) hp
    exact k _ _ _ nw (.lst upd_same (t1.same nw.s0))
  · cases ho
def oTuple : List D → Option D
  | [.lst xs] => some (.tup xs)
  | [.tup xs] => some (.tup xs)
  | _ => none
def rTupleU (K : PySem.W.Frag) : List V → Hp → VK → Prop := fun xs H Q => ∃ p ys, xs = [.ref p] ∧ ((SqL K H p ys ∧ ∀ l, H l = none → Q (.ref l) (upd H l (.tup ys))) ∨ (SqT K H p ys ∧ Q (.ref p) H))
theorem cd_tuple : CallD K (rTupleU K) oTuple := by
  intro H0 H xs ds c Q s hx ho k
  unfold oTuple at ho
  split at ho
  · cases ho
    obtain ⟨v, rfl, h⟩ := vw1 hx
    obtain ⟨a, vs, rfl, h1, t1⟩ := h.lstI s
    refine ⟨a, vs, rfl, .inl ⟨SqL.of h1, fun p hp => ?_⟩⟩
    have nw := Nw.alloc s (o := .tup vs) hp
    exact k _ _ _ nw (.tup upd_same (t1.same nw.s0))
  · cases ho
    obtain ⟨v, rfl, h⟩ := vw1 hx
    have h2 := h
    obtain ⟨a, vs, rfl, h1, t1⟩ := h.tupI s
    refine ⟨a, vs, rfl, .inr ⟨h1.sq, ?_⟩⟩
    cases h2 with
    | imm h2 => exact k _ _ _ (Nw.refl s) h2
  · cases ho
/-! int, bool, str -/
def oInt : List D → Option D
  | [.int i] => some (.int i)
  | [.bl b] => some (.int (if b then 1 else 0))
  | _ => none
theorem cd_int : CallD K (fun xs H Q => (∃ i, xs = [.int i] ∧ Q (.int i) H) ∨ ∃ k, xs = [.bl k] ∧ Q (.int (if k then 1 else 0)) H) oInt := by
  intro H0 H xs ds c Q s hx ho k
  unfold oInt at ho
  split at ho
  · cases ho
    obtain ⟨v, rfl, h⟩ := vw1 hx
    cases h.intI
    exact .inl ⟨_, rfl, k _ _ _ (Nw.refl s) (.int _)⟩
  · cases ho
    obtain ⟨v, rfl, h⟩ := vw1 hx
    cases h.blI
    exact .inr ⟨_, rfl, k _ _ _ (Nw.refl s) (.int _)⟩
  · cases ho
/-! min, max of two; abs; min of a list -/
def oMin2 : List D → Option D
  | [.int i, .int j] => some (.int (if j < i then j else i))
  | _ => none
def oMax2 : List D → Option D
  | [.int i, .int j] => some (.int (if j > i then j else i))
  | _ => none
def oAbs : List D → Option D
  | [.int i] => some (.int (if i < 0 then -i else i))
  | _ => none
theorem cd_min2 : CallD K (fun xs H Q => ∃ i j, xs = [.int i, .int j] ∧ Q (.int (if j < i then j else i)) H) oMin2 := by
  intro H0 H xs ds c Q s hx ho k
  unfold oMin2 at ho
  split at ho
  · cases ho
    obtain ⟨v, w, rfl, h1, h2⟩ := vw2 hx
    cases h1.intI; cases h2.intI
    exact ⟨_, _, rfl, k _ _ _ (Nw.refl s) (.int _)⟩
  · cases ho
theorem cd_max2 : CallD K (fun xs H Q => ∃ i j, xs = [.int i, .int j] ∧ Q (.int (if j > i then j else i)) H) oMax2 := by
  intro H0 H xs ds c Q s hx ho k
  unfold oMax2 at ho
  split at ho
  · cases ho
    obtain ⟨v, w, rfl, h1, h2⟩ := vw2 hx
    cases h1.intI; cases h2.intI
    exact ⟨_, _, rfl, k _ _ _ (Nw.refl s) (.int _)⟩
  · cases ho
theorem cd_abs : CallD K (fun xs H Q => ∃ i, xs = [.int i] ∧ Q (.int (if i < 0 then -i else i)) H) oAbs := by
  intro H0 H xs ds c Q s hx ho k
  unfold oAbs at ho
  split at ho
  · cases ho
    obtain ⟨v, rfl, h1⟩ := vw1 hx
    cases h1.intI
    exact ⟨_, rfl, k _ _ _ (Nw.refl s) (.int _)⟩
  · cases ho
/-- the least of some ints -/
def least : List Int → Int
  | [] => 0
  | [x] => x
  | x :: y :: r => min x (least (y :: r))
theorem least_mem : ∀ (xs : List Int), xs ≠ [] → least xs ∈ xs
  | [], h => absurd rfl h
  | [x], _ => List.mem_singleton.mpr rfl
  | x :: y :: r, _ => by
    have ih := least_mem (y :: r) (by simp)
    show min x (least (y :: r)) ∈ _
    by_cases c : x ≤ least (y :: r)
    · rw [Int.min_eq_left c]; exact List.mem_cons_self
    · rw [Int.min_eq_right (by omega)]; exact List.mem_cons_of_mem _ ih
theorem least_le : ∀ (xs : List Int) (z : Int), z ∈ xs → least xs ≤ z
  | [], _, h => absurd h (by simp)
  | [x], z, h => by rw [List.mem_singleton.mp h]; exact Int.le_refl _
  | x :: y :: r, z, h => by
    have e : least (x :: y :: r) = min x (least (y :: r)) := rfl
    rw [e]
    rcases List.mem_cons.mp h with h | h
    · subst h; exact Int.min_le_left _ _
    · exact Int.le_trans (Int.min_le_right _ _) (least_le (y :: r) z h)
def oMinL : List D → Option D
  | [.lst (x :: xs)] => (intsOf (x :: xs)).map fun ns => .int (least ns)
  | _ => none
theorem cd_minL : CallD K (rMin K) oMinL := by
  intro H0 H xs ds c Q s hx ho k
  unfold oMinL at ho
  split at ho
  · rename_i y ys
    obtain ⟨v, rfl, h⟩ := vw1 hx
    obtain ⟨a, vs, rfl, h1, t1⟩ := h.lstI s
    cases hb : intsOf (y :: ys) with
    | none => rw [hb] at ho; cases ho
    | some ns =>
      rw [hb] at ho; cases ho
      have e := intsOf_is t1 hb
      have hl : ns.length = (y :: ys).length := by rw [← t1.len, e, List.length_map]
      subst e
      have hne : ns ≠ [] := by rintro rfl; simp at hl
      refine ⟨a, ns, rfl, SqL.of h1, by rw [hl]; simp, fun m hm hle => ?_⟩
      have e2 : m = least ns := by
        have a1 := hle _ (least_mem ns hne)
        have a2 := least_le ns m hm
        omega
      subst e2
      exact k _ _ _ (Nw.refl s) (.int _)
  · cases ho
end
end Pu
namespace Pu
open PySem PySem.Spec PyProof.Rows L2
open LamX (Tabs)
/-! ### defs that leave the store alone -/
def pureF (o : List D → Option (Except Er D)) : List Sl → Mem → Re Sl := fun ss m => match allD ss with
  | some ds => match o ds with
    | some (.ok d) => some (.ok (.dat d), m)
    | some (.error e) => some (.error e, m)
    | none => none
  | none => none
theorem allD_eq : ∀ {ss : List Sl} {ds : List D}, allD ss = some ds → ss = ds.map Sl.dat
  | [], _, e => by cases e; rfl
  | .dat d :: r, _, e => by
    unfold allD at e
    cases h : allD r with
    | none => rw [h] at e; cases e
    | some l => rw [h] at e; cases e; rw [allD_eq h]; rfl
  | .opq i :: r, _, e => by cases e
theorem allD_map (ds : List D) : allD (ds.map Sl.dat) = some ds := by
  induction ds with
  | nil => rfl
  | cons d r ih => show (allD (r.map Sl.dat)).map (d :: ·) = _; rw [ih]; rfl
theorem pure_ok {o : List D → Option (Except Er D)} {ds : List D} {m : Mem} {d : D} (h : o ds = some (.ok d)) : pureF o (ds.map Sl.dat) m = some (.ok (.dat d), m) := by
  unfold pureF
  rw [allD_map]
  simp only [h]
theorem pure_er {o : List D → Option (Except Er D)} {ds : List D} {m : Mem} {e : Er} (h : o ds = some (.error e)) : pureF o (ds.map Sl.dat) m = some (.error e, m) := by
  unfold pureF
  rw [allD_map]
  simp only [h]
section
variable {P : Program} {w : World} {K : PySem.W.Frag} {mg : Str → Option Value} {base : Heap} {T : List (Addr × Str)}
theorem FnX.pure {k : Nat} {f : Addr} {fd : FuncData} {ps : List Str} {F : List Sl → Mem → Re Sl} {o : List D → Option (Except Er D)} (h : FnX P w K mg base T k f fd ps F)
    (h1 : ∀ ds m d, o ds = some (.ok d) → F (ds.map Sl.dat) m = some (.ok (.dat d), m)) (h2 : ∀ ds m e, o ds = some (.error e) → F (ds.map Sl.dat) m = some (.error e, m)) : FnX P w K mg base T k f fd ps (pureF o) :=
  h.imp fun ss m x e => by
    unfold pureF at e
    cases ha : allD ss with
    | none => rw [ha] at e; cases e
    | some ds =>
      rw [ha] at e
      rw [allD_eq ha]
      simp only at e
      cases ho : o ds with
      | none => rw [ho] at e; cases e
      | some r =>
        rw [ho] at e
        cases r with
        | ok d => cases e; exact h1 ds m d ho
        | error w => cases e; exact h2 ds m w ho
end
theorem bindR_ok {α β : Type} {a : α} {m : Mem} {g : α → Mem → Re β} : bindR (some (.ok a, m)) g = g a m := rfl
theorem bindR_er {α β : Type} {a : Er} {m : Mem} {g : α → Mem → Re β} : bindR (some (.error a, m)) g = some (.error a, m) := rfl
theorem bindR_no {α β : Type} {g : α → Mem → Re β} : bindR none g = none := rfl
theorem bindS_ok {α : Type} {a : α} {m : Mem} {g : α → Mem → RS} : bindS (some (.ok a, m)) g = g a m := rfl
theorem bindS_er {α : Type} {a : Er} {m : Mem} {g : α → Mem → RS} : bindS (some (.error a, m)) g = some (.er a, m) := rfl
theorem vw_dat {m : Mem} {d : D} : vw m (.dat d) = some d := rfl
theorem trim_same {m : Mem} {r : Except Er Sl} : trim m.length r m = some (r, m) := by unfold trim; rw [if_pos rfl]
theorem vwAll_nil {m : Mem} : vwAll m [] = some [] := rfl
theorem vwAll_dat {m : Mem} {d : D} {r : List Sl} : vwAll m (.dat d :: r) = (vwAll m r).map (d :: ·) := by
  show (match vw m (.dat d), vwAll m r with | some d, some ds => some (d :: ds) | _, _ => none) = _
  rw [vw_dat]
  cases vwAll m r <;> rfl
theorem fV_0 {s : Option Sl} {ρ : Rho} {m : Mem} : fV 0 (s :: ρ) m = (match s with | some s => some (.ok s, m) | none => none) := by
  cases s <;> rfl
theorem fV_s {n : Nat} {s : Option Sl} {ρ : Rho} {m : Mem} : fV (n + 1) (s :: ρ) m = fV n ρ m := rfl
end Pu
namespace Pu
open PySem PySem.Spec PyProof.Rows L2
open LamX (Tabs)
section
variable {X : Cx} {T : List (Addr × Str)} {E : XK} {K : PySem.W.Frag} {a b c e : Expr} {f g h : Rho → Mem → Re Sl} {pos : Pos}
/-! a op b op c -/
def fChain (o o' : D → D → Option D) (f g h : Rho → Mem → Re Sl) : Rho → Mem → Re Sl := bindD f fun s => bindD g fun t ρ m => bindR (f2 o s t m) fun u m' => match u with
  | .dat (.bl true) => bindR (h ρ m') fun w m2 => f2 o' t w m2
  | .dat (.bl false) => some (.ok (.dat (.bl false)), m')
  | _ => none
theorem sd_chain {r r' : R2} {o o' : D → D → Option D} {ta tb tc : TE} (hd : OpD X.K r o) (hd' : OpD X.K r' o') (sa : Sd X.K T E (IsS X.K) ta f) (sb : Sd X.K T E (IsS X.K) tb g) (sc : Sd X.K T E (IsS X.K) tc h) : Sd X.K T E (IsS X.K) (tChain r r' ta tb tc) (fChain o o' f g h) := by
  refine sa.bind fun H0 H am x s q => (sb H0 am H).bind fun H1 H' am' y t ex q2 ρ m σ rr m' Q mo eo e gl => ?_
  unfold bindR at e
  cases h1 : f2 o s t m with
  | none => rw [h1] at e; cases e
  | some z =>
    obtain ⟨z, m1⟩ := z
    rw [h1] at e
    have k := hd.at (T := T) (E := E) (H := H') (q.ex ex) q2
    cases z with
    | error w => cases e; exact k ρ m σ (.error w) _ _ mo eo h1 gl
    | ok u =>
      refine k ρ m σ (.ok u) _ _ mo eo h1 fun v H2 H'' am2 ex2 mo2 qv => ?_
      cases u with
      | opq _ => cases e
      | dat d =>
        cases d with
        | bl kk =>
          cases qv with
          | dat qv =>
          cases qv
          cases kk with
          | true =>
            refine ⟨true, rfl, iteT ?_⟩
            dsimp only at e
            cases hc : h ρ m1 with
            | none => rw [hc] at e; cases e
            | some z =>
              obtain ⟨z, m3⟩ := z
              rw [hc] at e
              cases z with
              | error w => cases e; exact sc H2 am2 H'' ρ m1 σ (.error w) _ _ mo2 (eo.ex ex2) hc (gl.ex ex2)
              | ok w2 =>
                refine sc H2 am2 H'' ρ m1 σ (.ok w2) _ _ mo2 (eo.ex ex2) hc fun v3 H3 H3' am3 ex3 mo3 q3 => ?_
                exact (hd'.at (T := T) (E := E) (H := H3') ((q2.ex ex2).ex ex3) q3) ρ m3 σ _ _ _ mo3 ((eo.ex ex2).ex ex3) e (gl.ex (ex2.trans ex3))
          | false =>
            cases e
            exact ⟨false, rfl, iteF (gl _ _ _ _ ex2 mo2 (.dat (.bl false)))⟩
        | _ => cases e
theorem px_chain {op op' : CmpOp} {r r' : R2} {o o' : D → D → Option D} (ho : OpR X (compareOp op) r) (hd : OpD X.K r o) (ho' : OpR X (compareOp op') r') (hd' : OpD X.K r' o') (ha : PX X T E a f) (hb : PX X T E b g) (hc : PX X T E c h)
    (hm : lastMarks [op, op'] [b, c] = false := by with_unfolding_all rfl) : PX X T E (.Compare a [op, op'] [b, c] pos) (fChain o o' f g h) := by
  obtain ⟨ta, pa, sa⟩ := ha
  obtain ⟨tb, pb, sb⟩ := hb
  obtain ⟨tc, pc, sc⟩ := hc
  exact ⟨_, pe_chain ho ho' pa pb pc hm, sd_chain hd hd' sa sb sc⟩
theorem ptx_chain {op op' : CmpOp} {r r' : R2} {o o' : D → D → Option D} (ho : OpR X (compareOp op) r) (hd : OpD X.K r o) (ho' : OpR X (compareOp op') r') (hd' : OpD X.K r' o') (ha : PX X T E a f) (hb : PX X T E b g) (hc : PX X T E c h)
    (hm : lastMarks [op, op'] [b, c] = false := by with_unfolding_all rfl) : PTX X T E (.Compare a [op, op'] [b, c] pos) (fB (fChain o o' f g h)) := by
  obtain ⟨ta, pa, sa⟩ := ha
  obtain ⟨tb, pb, sb⟩ := hb
  obtain ⟨tc, pc, sc⟩ := hc
  exact ⟨_, pt_chain ho ho' pa pb pc hm, sd_B (sd_chain hd hd' sa sb sc)⟩
/-! xs * k -/
def oRep : D → D → Option D
  | .lst xs, .int k => if -(2 ^ 63) ≤ k ∧ k < 2 ^ 63 ∧ xs.length * k.toNat ≤ sizeLine then some (.lst (List.replicate k.toNat xs).flatten) else none
  | _, _ => none
theorem IsAll.rep {H : Hp} {vs : List V} {ds : List D} (t : IsAll K H vs ds) : ∀ n : Nat, IsAll K H (List.replicate n vs).flatten (List.replicate n ds).flatten
  | 0 => .nil
  | n + 1 => by
    rw [List.replicate_succ, List.replicate_succ, List.flatten_cons, List.flatten_cons]
    exact IsAll.append (IsAll.rep t n) t
theorem od_rep : OpD K rRep oRep := by
  intro H0 H x y d e c Q s hx hy ho k
  unfold oRep at ho
  split at ho
  · split at ho
    · rename_i hc
      cases ho
      obtain ⟨a, vs, rfl, h1, t1⟩ := hx.lstI s
      cases hy.intI
      refine ⟨a, _, vs, rfl, rfl, h1, hc.1, hc.2.1, by rw [t1.len]; exact hc.2.2, fun p hp => ?_⟩
      rename_i xs kk
      have nw := Nw.alloc s (o := .lst (List.replicate kk.toNat vs).flatten) hp
      exact k _ _ _ nw (.lst upd_same ((t1.rep _).same nw.s0))
    · cases ho
  · cases ho
/-- + of ints, for += -/
def oAddI : D → D → Option D
  | .int i, .int j => some (.int (i + j))
  | _, _ => none
theorem od_ipadd : OpD K (ipI fun i j => i + j) oAddI := by
  intro H0 H x y d e c Q s hx hy ho k
  unfold oAddI at ho
  split at ho
  · cases ho; cases hx.intI; cases hy.intI
    exact ⟨_, _, rfl, rfl, k _ _ _ (Nw.refl s) (.int _)⟩
  · cases ho
/-! dicts of the store -/
/-- {} -/
theorem px_dnewM : PX X T E (.Dict [] [] pos) (fun _ m => some (.ok (.opq m.length), m ++ [.dic []])) := by
  refine ⟨_, pe_dnewK, fun H0 am H ρ m σ r m' Q mo eo e gl => ?_⟩
  cases e
  intro p hp
  obtain ⟨ex, mo'⟩ := mo.push (u := .dK []) (o := .dic []) hp ⟨[], rfl, .nil⟩
  exact gl _ _ _ _ ex mo' (.opq (by rw [← mo.len]; simp))
/-- the pairs of a display: the keys are data -/
structure PPX (X : Cx) (T : List (Addr × Str)) (E : XK) (pos : Pos) (keys : List (Option Expr)) (values : List Expr) (f : Rho → Mem → Re (List (Key × D))) : Prop where
  ex : ∃ trs, PPs X pos keys values trs ∧ Sd X.K T E (fun H0 am (ps : List (V × V)) (ds : List (Key × D)) => ∃ kvs : List (Key × V), ps = kvs.map (fun kv => (kV kv.1, kv.2)) ∧ IsKv X.K H0 kvs ds) (tPairs trs) f
def fPair (f g : Rho → Mem → Re Sl) (r : Rho → Mem → Re (List (Key × D))) : Rho → Mem → Re (List (Key × D)) := bindD f fun s => bindD g fun t => bindD r fun ps _ m => match s, t with
  | .dat kd, .dat d => match dkey kd with
    | some k => some (.ok ((k, d) :: ps), m)
    | none => none
  | _, _ => none
theorem ppx_nil : PPX X T E pos [] [] (retD []) := ⟨_, pps_nil, fun H0 am H => SdAt.ret (R1 := fun H0 am (ps : List (V × V)) (ds : List (Key × D)) => ∃ kvs : List (Key × V), ps = kvs.map (fun kv => (kV kv.1, kv.2)) ∧ IsKv X.K H0 kvs ds) (v := []) (a := []) ⟨[], rfl, .nil⟩⟩
theorem ppx_cons {k v : Expr} {ks : List (Option Expr)} {vs : List Expr} {r : Rho → Mem → Re (List (Key × D))} (hk : PX X T E k f) (hv : PX X T E v g) (hr : PPX X T E pos ks vs r) : PPX X T E pos (some k :: ks) (v :: vs) (fPair f g r) := by
  obtain ⟨t1, p1, s1⟩ := hk
  obtain ⟨t2, p2, s2⟩ := hv
  obtain ⟨trs, p3, s3⟩ := hr
  refine ⟨_, pps_cons p1 p2 p3, s1.bind (u := fun x σ H1 Q => t2 σ H1 fun y H2 => tPairs trs σ H2 fun ps H3 => Q ((x, y) :: ps) H3) fun H0 H am x s q => (s2 H0 am H).bind fun H1 H' am' y t ex q2 => (s3 H1 am' H').bind fun H2 H'' am2 ps ds ex2 q3 ρ m σ rr m' Q mo eo e gl => ?_⟩
  obtain ⟨kvs, rfl, q3⟩ := q3
  split at e
  · rename_i kd d
    split at e
    · rename_i k hk
      cases e
      cases q with
      | dat q => cases q2 with
        | dat q2 =>
          have ek := dkey_is (H := H'') (.imm ((q.same ex.s0).same ex2.s0)) hk
          subst ek
          exact gl _ _ _ _ Ex.refl mo ⟨(k, y) :: kvs, rfl, .cons (q2.same ex2.s0) q3⟩
    · cases e
  · cases e
def putD (kvs : List (Key × D)) (k : Key) (v : D) : List (Key × D) :=
  if (kvs.any fun kv => decide (kv.1 = k)) = true then kvs.map (fun kv => if kv.1 = k then (kv.1, v) else kv) else kvs ++ [(k, v)]
theorem IsKv.any {H : Hp} {k : Key} : ∀ {vs : List (Key × V)} {ds : List (Key × D)}, IsKv K H vs ds → (vs.any fun kv => decide (kv.1 = k)) = (ds.any fun kv => decide (kv.1 = k))
  | _, _, .nil => rfl
  | _, _, .cons _ t => by rw [List.any_cons, List.any_cons, IsKv.any t]
theorem IsKv.chg {H : Hp} {k : Key} {v : V} {d : D} (q : Is K H v d) : ∀ {vs : List (Key × V)} {ds : List (Key × D)}, IsKv K H vs ds → IsKv K H (vs.map fun kv => if kv.1 = k then (kv.1, v) else kv) (ds.map fun kv => if kv.1 = k then (kv.1, d) else kv)
  | _, _, .nil => .nil
  | _, _, .cons (k := j) q' t => by
    rw [List.map_cons, List.map_cons]
    by_cases c : j = k
    · simp only [c, if_true]; exact .cons q (IsKv.chg q t)
    · simp only [c, if_false]; exact .cons q' (IsKv.chg q t)
theorem IsKv.snoc {H : Hp} {k : Key} {v : V} {d : D} (q : Is K H v d) : ∀ {vs : List (Key × V)} {ds : List (Key × D)}, IsKv K H vs ds → IsKv K H (vs ++ [(k, v)]) (ds ++ [(k, d)])
  | _, _, .nil => .cons q .nil
  | _, _, .cons q' t => .cons q' (IsKv.snoc q t)
theorem IsKv.put {H : Hp} {k : Key} {v : V} {d : D} (q : Is K H v d) {vs : List (Key × V)} {ds : List (Key × D)} (t : IsKv K H vs ds) : IsKv K H (putK vs k v) (putD ds k d) := by
  unfold putK putD
  rw [t.any]
  split
  · exact t.chg q
  · exact t.snoc q
def mergeD (kvs more : List (Key × D)) : List (Key × D) := more.foldl (fun acc kv => putD acc kv.1 kv.2) kvs
theorem IsKv.merge {H : Hp} : ∀ {more : List (Key × V)} {ms : List (Key × D)}, IsKv K H more ms → ∀ {vs : List (Key × V)} {ds : List (Key × D)}, IsKv K H vs ds → IsKv K H (mergeK vs more) (mergeD ds ms)
  | _, _, .nil, _, _, h => h
  | _, _, .cons q t, _, _, h => IsKv.merge t (h.put q)
/-- {k: v, ..}, a dict of the store -/
def fDisp (r : Rho → Mem → Re (List (Key × D))) : Rho → Mem → Re Sl := fun ρ m => bindR (r ρ (m ++ [.dic []])) fun ps m' => if ps.length ≤ 15 ∧ (m'[m.length]?.isSome = true) then some (.ok (.opq m.length), m'.set m.length (.dic (mergeD [] ps))) else none
theorem px_dispM {keys : List (Option Expr)} {values : List Expr} {r : Rho → Mem → Re (List (Key × D))} (hp : PPX X T E pos keys values r) (hall : keys.all (·.isSome) = true) (hl : keys.length = values.length) (h0 : keys ≠ []) (h15 : keys.length ≤ 15)
    (hno : ∀ ρ m ps m', r ρ (m ++ [.dic []]) = some (.ok ps, m') → m'[m.length]? = some (.dic [])) : PX X T E (.Dict keys values pos) (fDisp r) := by
  obtain ⟨trs, p, s⟩ := hp
  refine ⟨_, pe_disp p hall hl h0 h15, fun H0 am H ρ m σ rr m' Q mo eo e gl => ?_⟩
  intro q hq
  obtain ⟨ex, mo1⟩ := mo.push (u := .dK []) (o := .dic []) hq ⟨[], rfl, .nil⟩
  unfold fDisp bindR at e
  cases hr : r ρ (m ++ [.dic []]) with
  | none => rw [hr] at e; cases e
  | some z =>
    obtain ⟨z, m1⟩ := z
    rw [hr] at e
    cases z with
    | error w => cases e; exact s H0 _ _ ρ _ σ (.error w) _ _ mo1 (eo.ex ex) hr (gl.ex ex)
    | ok ps =>
      dsimp only at e
      split at e
      · rename_i hc
        cases e
        refine s H0 _ _ ρ _ σ (.ok ps) _ _ mo1 (eo.ex ex) hr fun vs H1 H' am' ex2 mo2 ⟨kvs, e1, t⟩ => ?_
        have hm := hno _ _ _ _ hr
        have ha : (am ++ [q])[m.length]? = some q := by rw [← mo.len]; simp
        have ha' := ex2.get ha
        obtain ⟨l, e2, ⟨u, f0, f1, k2, rfl, t2⟩ | ⟨_, z, _⟩⟩ := mo2.is _ _ hm
        · rw [ha'] at e2
          cases e2
          cases t2
          obtain ⟨ex3, mo3⟩ := mo2.put (u := .dK []) (u' := .dK (mergeK [] kvs)) (o' := .dic []) (o := .dic (mergeD [] ps)) ha' f0 f1 ⟨[], rfl, .nil⟩ ⟨_, rfl, t.merge .nil⟩
          exact ⟨f1, kvs, e1, by rw [t.len]; exact hc.1, gl _ _ _ _ (ex.trans (ex2.trans ex3)) mo3 (.opq ha')⟩
        · cases z
      · cases e
end
end Pu
namespace Pu
open PySem PySem.Spec PyProof.Rows L2
open LamX (Tabs)
section
variable {X : Cx} {T : List (Addr × Str)} {E : XK} {K : PySem.W.Frag} {a b c e : Expr} {f g h : Rho → Mem → Re Sl} {pos : Pos}
theorem mo_dic {H0 H : Hp} {am : List Addr} {m : Mem} {x : V} {s : Sl} {i : Nat} {kvs : List (Key × D)} (mo : MOk K T H0 am H m) (q : IsS K H0 am x (.opq i)) (hm : m[i]? = some (.dic kvs)) : ∃ l vs, x = .ref l ∧ am[i]? = some l ∧ H0 l = none ∧ H l = some (.dK vs) ∧ IsKv K H0 vs kvs := by
  cases q with
  | opq q =>
    obtain ⟨l, e1, ⟨u, e0, e3, vs, rfl, t⟩ | ⟨_, z, _⟩⟩ := mo.is i _ hm
    · rw [q] at e1; cases e1; exact ⟨_, vs, rfl, q, e0, e3, t⟩
    · cases z
/-- d[k] = v -/
def oPut (s kd v : Sl) (m : Mem) : Option Mem := match s, kd, v with
  | .opq i, .dat kd, .dat d => match m[i]?, dkey kd with
    | some (.dic kvs), some k => if kvs.length < sizeLine then some (m.set i (.dic (putD kvs k d))) else none
    | _, _ => none
  | _, _, _ => none
theorem put_ok {H0 H : Hp} {am : List Addr} {m m' : Mem} {x y v : V} {s kd w : Sl} (mo : MOk K T H0 am H m) (q : IsS K H0 am x s) (q2 : IsS K H0 am y kd) (q3 : IsS K H0 am v w) (e : oPut s kd w m = some m') :
    ∃ l H', x = .ref l ∧ DPut H l y v H' ∧ Ex H0 H H0 H' am am ∧ MOk K T H0 am H' m' := by
  unfold oPut at e
  split at e
  · rename_i i kd d
    split at e
    · rename_i kvs k hm hk
      split at e
      · rename_i hz
        cases e
        obtain ⟨l, vs, rfl, ha, h0, hH, t⟩ := mo_dic (s := .opq i) mo q hm
        cases q2 with
        | dat q2 => cases q3 with
          | dat q3 =>
            have ek := dkey_is (H := H) (.imm q2) hk
            subst ek
            obtain ⟨ex, mo'⟩ := mo.put (u := .dK vs) (u' := .dK (putK vs k v)) (o' := .dic kvs) (o := .dic (putD kvs k d)) ha h0 hH ⟨vs, rfl, t⟩ ⟨_, rfl, t.put q3⟩
            exact ⟨l, _, rfl, DPut.k hH (by rw [t.len]; exact hz), ex, mo'⟩
      · cases e
    · cases e
  · cases e
def fPut (fd fk fv : Rho → Mem → Re Sl) : Rho → Mem → RS := fun ρ m => bindS (fv ρ m) fun v m1 => bindS (fd ρ m1) fun s m2 => bindS (fk ρ m2) fun k m3 => match oPut s k v m3 with
  | some m4 => some (.nx ρ, m4)
  | none => none
theorem psx_dput {o i value : Expr} {pos' : Pos} {fd fk fv : Rho → Mem → Re Sl} (hu : X.A.units + 1 < cLine) (ho : PX X T E o fd) (hi : PX X T E i fk) (hv : PX X T E value fv) (hs : swapsWith value (some (.Subscript o i pos')) pos.line X.env = pure false := by rfl) :
    PSX X T E (.Assign [.Subscript o i pos'] value pos) (fPut fd fk fv) := by
  obtain ⟨t1, p1, s1⟩ := ho
  obtain ⟨t2, p2, s2⟩ := hi
  obtain ⟨t3, p3, s3⟩ := hv
  refine ⟨_, ps_dput hu p1 p2 p3 hs, s3.toS (u := fun v D σ H1 => t1 σ H1 fun x H2 => t2 σ H2 fun y H3 => ∃ a H4, x = .ref a ∧ DPut H3 a y v H4 ∧ D.nx σ H4)
    (g := fun v ρ m1 => bindS (fd ρ m1) fun s m2 => bindS (fk ρ m2) fun k m3 => match oPut s k v m3 with | some m4 => some (.nx ρ, m4) | none => none) fun H0 H am v w q => ?_⟩
  intro ρ m σ oo m' Dd mo eo e gl
  unfold bindS at e
  dsimp only at e
  cases h1 : fd ρ m with
  | none => rw [h1] at e; cases e
  | some z =>
    obtain ⟨z, m1⟩ := z
    rw [h1] at e
    cases z with
    | error r => cases e; exact s1 H0 am H ρ m σ (.error r) _ _ mo eo h1 gl
    | ok s =>
      refine s1 H0 am H ρ m σ (.ok s) _ _ mo eo h1 fun x H1 H' am' ex mo1 qx => ?_
      dsimp only at e
      cases h2 : fk ρ m1 with
      | none => rw [h2] at e; cases e
      | some z =>
        obtain ⟨z, m2⟩ := z
        rw [h2] at e
        cases z with
        | error r => cases e; exact s2 H1 am' H' ρ m1 σ (.error r) _ _ mo1 (eo.ex ex) h2 (Glo.ex (K := X.K) (T := T) (E := E) (Rel := fun _ _ (_ : Unit) (_ : Unit) => True) (r := .error r) (Q := fun _ _ => True) gl ex)
        | ok kd =>
          refine s2 H1 am' H' ρ m1 σ (.ok kd) _ _ mo1 (eo.ex ex) h2 fun y H2 H'' am2 ex2 mo2 qy => ?_
          dsimp only at e
          cases h3 : oPut s kd w m2 with
          | none => rw [h3] at e; cases e
          | some m3 =>
            rw [h3] at e
            cases e
            obtain ⟨l, H4, rfl, dp, ex3, mo3⟩ := put_ok mo2 (qx.ex ex2) qy ((q.ex ex).ex ex2) h3
            exact ⟨l, H4, rfl, dp, gl _ _ _ _ (ex.trans (ex2.trans ex3)) mo3 (((eo.ex ex).ex ex2).ex ex3)⟩
/-! targets that may be in the store -/
structure PGM (X : Cx) (T : List (Addr × Str)) (tg : Expr) (g : Sl → Rho → Mem → Option (Rho × Mem)) : Prop where
  ex : ∃ t, PG X tg t ∧ ∀ (H0 : Hp) (am : List Addr) (H : Hp) (ρ ρ' : Rho) (m m' : Mem) (σ : L2.St) (v : V) (s : Sl) (Q : L2.St → Hp → Prop), MOk X.K T H0 am H m → EnvOk X.K H0 am ρ σ → IsS X.K H0 am v s → g s ρ m = some (ρ', m') →
    (∀ σ' H1 H' am', Ex H0 H H1 H' am am' → MOk X.K T H1 am' H' m' → EnvOk X.K H1 am' ρ' σ' → Q σ' H') → t v σ H Q
def gmN (i : Nat) : Sl → Rho → Mem → Option (Rho × Mem) := fun s ρ m => some (ρ.set i (some s), m)
theorem pgm_name {i : Nat} {x : Str} (hN : X.N.Nodup) (hi : X.N[i]? = some x) (hx : Loc X.env.scope x) (hf : X.fn x = true ∨ X.env.scope.names.lookup x = some .local := by first | exact .inl rfl | exact .inr rfl | assumption) : PGM X T (.Name x pos) (gmN i) :=
  ⟨_, pg_name hN hi hx hf, fun H0 am H ρ ρ' m m' σ v s Q mo eo q e k => by
    cases e
    exact k _ H0 H am Ex.refl mo (eo.set q)⟩
def gmSub (fd fk : Rho → Mem → Re Sl) : Sl → Rho → Mem → Option (Rho × Mem) := fun v ρ m => match fd ρ m with
  | some (.ok s, m1) => match fk ρ m1 with
    | some (.ok k, m2) => (oPut s k v m2).map fun m3 => (ρ, m3)
    | _ => none
  | _ => none
theorem pgm_sub {o i : Expr} {fd fk : Rho → Mem → Re Sl} (hu : X.A.units + 1 < cLine) (ho : PX X T E o fd) (hi : PX X T E i fk)
    (ha : ∀ v, assign (.Subscript o i pos) X.env v = (do
      let ov ← holding [v] (eval o X.env)
      let iv ← holding [v, ov] (eval i X.env)
      standAt pos
      holding [v, ov, iv] (setItem ov iv v)
      release [v, ov, iv] []) := by intro _; rfl) : PGM X T (.Subscript o i pos) (gmSub fd fk) := by
  obtain ⟨t1, p1, s1⟩ := ho
  obtain ⟨t2, p2, s2⟩ := hi
  refine ⟨_, pg_sub p1 p2 (set_dict hu) ha, fun H0 am H ρ ρ' m m' σ v w Q mo eo q e k => ?_⟩
  unfold gmSub at e
  cases h1 : fd ρ m with
  | none => rw [h1] at e; cases e
  | some z =>
    obtain ⟨z, m1⟩ := z
    rw [h1] at e
    cases z with
    | error r => cases e
    | ok s =>
      dsimp only at e
      refine s1 H0 am H ρ m σ (.ok s) _ _ mo eo h1 fun x H1 H' am' ex mo1 qx => ?_
      cases h2 : fk ρ m1 with
      | none => rw [h2] at e; cases e
      | some z =>
        obtain ⟨z, m2⟩ := z
        rw [h2] at e
        cases z with
        | error r => cases e
        | ok kd =>
          dsimp only at e
          refine s2 H1 am' H' ρ m1 σ (.ok kd) _ _ mo1 (eo.ex ex) h2 fun y H2 H'' am2 ex2 mo2 qy => ?_
          cases h3 : oPut s kd w m2 with
          | none => rw [h3] at e; cases e
          | some m3 =>
            rw [h3] at e
            cases e
            obtain ⟨l, H4, rfl, dp, ex3, mo3⟩ := put_ok mo2 (qx.ex ex2) qy ((q.ex ex).ex ex2) h3
            exact ⟨l, H4, rfl, dp, k _ _ _ _ (ex.trans (ex2.trans ex3)) mo3 (((eo.ex ex).ex ex2).ex ex3)⟩
structure PGMs (X : Cx) (T : List (Addr × Str)) (tgs : List Expr) (g : List Sl → Rho → Mem → Option (Rho × Mem)) : Prop where
  ex : ∃ t, PGs X tgs t ∧ ∀ (H0 : Hp) (am : List Addr) (H : Hp) (ρ ρ' : Rho) (m m' : Mem) (σ : L2.St) (vs : List V) (ss : List Sl) (Q : L2.St → Hp → Prop), MOk X.K T H0 am H m → EnvOk X.K H0 am ρ σ → Paired (IsS X.K H0 am) vs ss → g ss ρ m = some (ρ', m') →
    (∀ σ' H1 H' am', Ex H0 H H1 H' am am' → MOk X.K T H1 am' H' m' → EnvOk X.K H1 am' ρ' σ' → Q σ' H') → t vs σ H Q
def gmNil : List Sl → Rho → Mem → Option (Rho × Mem) := fun ss ρ m => match ss with
  | [] => some (ρ, m)
  | _ :: _ => none
def gmCons (g : Sl → Rho → Mem → Option (Rho × Mem)) (h : List Sl → Rho → Mem → Option (Rho × Mem)) : List Sl → Rho → Mem → Option (Rho × Mem) := fun ss ρ m => match ss with
  | [] => none
  | s :: r => match g s ρ m with
    | some (ρ', m') => h r ρ' m'
    | none => none
theorem pgms_nil : PGMs X T [] gmNil := ⟨_, pgs_nil, fun H0 am H ρ ρ' m m' σ vs ss Q mo eo q e k => by
  cases q with
  | nil => cases e; exact ⟨rfl, k _ _ _ _ Ex.refl mo eo⟩
  | cons _ _ => cases e⟩
theorem pgms_cons {tg : Expr} {tgs : List Expr} {g : Sl → Rho → Mem → Option (Rho × Mem)} {h : List Sl → Rho → Mem → Option (Rho × Mem)} (h1 : PGM X T tg g) (h2 : PGMs X T tgs h)
    (hs : (assignEach (tg :: tgs) X.env).map (·.2) = assign tg X.env :: (assignEach tgs X.env).map (·.2) := by rfl) : PGMs X T (tg :: tgs) (gmCons g h) := by
  obtain ⟨t, p, s⟩ := h1
  obtain ⟨u, p2, s2⟩ := h2
  refine ⟨_, pgs_cons p p2 hs, fun H0 am H ρ ρ' m m' σ vs ss Q mo eo q e k => ?_⟩
  cases q with
  | nil => cases e
  | cons r rr =>
    rename_i x w l1 l2
    simp only [gmCons] at e
    cases hg : g w ρ m with
    | none => rw [hg] at e; cases e
    | some z =>
      obtain ⟨ρ1, m1⟩ := z
      rw [hg] at e
      exact ⟨_, _, rfl, s H0 am H ρ ρ1 m m1 σ _ w _ mo eo r hg fun σ1 H1 H' am' ex mo1 eo1 => s2 H1 am' H' ρ1 ρ' m1 m' σ1 _ l2 Q mo1 eo1 (PS.ex rr ex) e fun σ2 H2 H'' am2 ex2 mo2 eo2 => k σ2 H2 H'' am2 (ex.trans ex2) mo2 eo2⟩
def gmT (h : List Sl → Rho → Mem → Option (Rho × Mem)) : Sl → Rho → Mem → Option (Rho × Mem) := fun s ρ m => match s with
  | .dat (.tup ds) => h (ds.map Sl.dat) ρ m
  | _ => none
theorem pgm_tup {es : List Expr} {k n : Nat} {h : List Sl → Rho → Mem → Option (Rho × Mem)} (hc : X.calm = true) (hp : PGMs X T es h)
    (hl : ∀ ss ρ m r, h ss ρ m = some r → ss.length = n) (hn : (assignEach es X.env).length = n := by rfl) (hst : (assignEach es X.env).findIdx? (·.1) = none := by rfl) : PGM X T (.Tuple es k pos) (gmT h) := by
  obtain ⟨t, p, s⟩ := hp
  refine ⟨_, pg_tup hc p hn hst, fun H0 am H ρ ρ' m m' σ v sl Q mo eo q e k => ?_⟩
  unfold gmT at e
  split at e
  · rename_i ds
    cases q with
    | dat q => cases q with
      | tup hq t2 =>
        have z := hl _ _ _ _ e
        rw [List.length_map] at z
        exact ⟨_, _, rfl, sameT mo.sub hq.sq, by rw [t2.len]; exact z, s H0 am H ρ ρ' m m' σ _ _ Q mo eo (IsAll.sl t2) e k⟩
  · cases e
theorem gml_nil : ∀ ss ρ m r, gmNil ss ρ m = some r → ss.length = 0 := fun ss ρ m r e => by
  cases ss with
  | nil => rfl
  | cons _ _ => cases e
theorem gml_cons {g : Sl → Rho → Mem → Option (Rho × Mem)} {h : List Sl → Rho → Mem → Option (Rho × Mem)} {n : Nat} (hl : ∀ ss ρ m r, h ss ρ m = some r → ss.length = n) : ∀ ss ρ m r, gmCons g h ss ρ m = some r → ss.length = n + 1 := fun ss ρ m r e => by
  cases ss with
  | nil => cases e
  | cons s rr =>
    simp only [gmCons] at e
    cases hg : g s ρ m with
    | none => rw [hg] at e; cases e
    | some z => obtain ⟨ρ1, m1⟩ := z; rw [hg] at e; rw [List.length_cons, hl _ _ _ _ e]
def fAsgM (f : Rho → Mem → Re Sl) (g : Sl → Rho → Mem → Option (Rho × Mem)) : Rho → Mem → RS := fun ρ m => bindS (f ρ m) fun s m' => match g s ρ m' with
  | some (ρ', m2) => some (.nx ρ', m2)
  | none => none
theorem psx_asgM {tg : Expr} {g : Sl → Rho → Mem → Option (Rho × Mem)} (he : PX X T E e f) (hg : PGM X T tg g) (hs : swapsWithSole [tg] e pos.line X.env = pure false := by rfl) (hw : swappedStores [tg] e X.env = pure none := by rfl)
    (h1 : (assignEach [tg] X.env).map (·.2) = [assign tg X.env] := by rfl) : PSX X T E (.Assign [tg] e pos) (fAsgM f g) := by
  obtain ⟨t, p, s⟩ := he
  obtain ⟨u, p2, s2⟩ := hg
  refine ⟨_, ps_asg p p2 hs hw h1, s.toS (u := fun v D σ H => u v σ H D.nx) (g := fun s ρ m' => match g s ρ m' with | some (ρ', m2) => some (.nx ρ', m2) | none => none) fun H0 H am x a q ρ m σ o m' D mo eo e gl => ?_⟩
  dsimp only at e
  cases hg : g a ρ m with
  | none => rw [hg] at e; cases e
  | some z =>
    obtain ⟨ρ', m2⟩ := z
    rw [hg] at e
    cases e
    exact s2 H0 am H ρ ρ' m _ σ x a _ mo eo q hg fun σ' H1 H' am' ex mo' eo' => gl σ' H1 H' am' ex mo' eo'
/-! a field is set -/
def putFD (n : Str) (v : D) : List (Str × D) → List (Str × D)
  | [] => [(n, v)]
  | (k, w) :: r => if k = n then (k, v) :: r else (k, w) :: putFD n v r
theorem IsFs.put {H : Hp} {n : Str} {v : V} {d : D} (q : Is K H v d) : ∀ {vs : List (Str × V)} {ds : List (Str × D)}, IsFs K H vs ds → IsFs K H (putF n v vs) (putFD n d ds)
  | _, _, .nil => .cons q .nil
  | _, _, .cons (k := j) q' t => by
    unfold putF putFD
    split
    · exact .cons q t
    · exact .cons q' (IsFs.put q t)
theorem IsFs.len {H : Hp} : ∀ {vs : List (Str × V)} {ds : List (Str × D)}, IsFs K H vs ds → vs.length = ds.length
  | _, _, .nil => rfl
  | _, _, .cons _ t => congrArg Nat.succ (IsFs.len t)
theorem mo_ins {H0 H : Hp} {am : List Addr} {m : Mem} {x : V} {i : Nat} {C : Addr} {gs : List (Str × D)} (mo : MOk K T H0 am H m) (q : IsS K H0 am x (.opq i)) (hm : m[i]? = some (.ins C gs)) : ∃ l dx fs, x = .ref l ∧ am[i]? = some l ∧ H0 l = none ∧ H l = some (.ins C dx fs) ∧ IsFs K H0 fs gs := by
  cases q with
  | opq q =>
    obtain ⟨l, e1, ⟨u, e0, e3, dx, vs, rfl, t⟩ | ⟨_, z, _⟩⟩ := mo.is i _ hm
    · rw [q] at e1; cases e1; exact ⟨_, dx, vs, rfl, q, e0, e3, t⟩
    · cases z
def fFld (C : Addr) (n : Str) (fo fv : Rho → Mem → Re Sl) : Rho → Mem → RS := fun ρ m => bindS (fv ρ m) fun v m1 => bindS (fo ρ m1) fun s m2 => match s, v with
  | .opq i, .dat d => match m2[i]? with
    | some (.ins C' gs) => if C' = C ∧ gs.length < 1000 then some (.nx ρ, m2.set i (.ins C (putFD n d gs))) else none
    | _ => none
  | _, _ => none
theorem psx_fld {o value : Expr} {n : Str} {pos' : Pos} {C : Addr} {fo fv : Rho → Mem → Re Sl} (hc : Cls X.K C) (hn : NoAttr X.K C n) (ho : PX X T E o fo) (hv : PX X T E value fv) (hs : swapsWith value (some (.Attribute o n pos')) pos.line X.env = pure false := by rfl) :
    PSX X T E (.Assign [.Attribute o n pos'] value pos) (fFld C n fo fv) := by
  obtain ⟨t1, p1, s1⟩ := ho
  obtain ⟨t3, p3, s3⟩ := hv
  refine ⟨_, ps_fld p1 p3 hs, fun H0 am H ρ m σ oo m' Dd mo eo e gl => ?_⟩
  unfold fFld bindS at e
  dsimp only at e
  cases h1 : fv ρ m with
  | none => rw [h1] at e; cases e
  | some z =>
    obtain ⟨z, m1⟩ := z
    rw [h1] at e
    cases z with
    | error r => cases e; exact s3 H0 am H ρ m σ (.error r) _ _ mo eo h1 gl
    | ok w =>
      refine s3 H0 am H ρ m σ (.ok w) _ _ mo eo h1 fun y H1 H' am' ex mo1 qy => ?_
      dsimp only at e
      cases h2 : fo ρ m1 with
      | none => rw [h2] at e; cases e
      | some z =>
        obtain ⟨z, m2⟩ := z
        rw [h2] at e
        cases z with
        | error r => cases e; exact s1 H1 am' H' ρ m1 σ (.error r) _ _ mo1 (eo.ex ex) h2 (Glo.ex (K := X.K) (T := T) (E := E) (Rel := fun _ _ (_ : Unit) (_ : Unit) => True) (r := .error r) (Q := fun _ _ => True) gl ex)
        | ok s =>
          refine s1 H1 am' H' ρ m1 σ (.ok s) _ _ mo1 (eo.ex ex) h2 fun x H2 H'' am2 ex2 mo2 qx => ?_
          dsimp only at e
          split at e
          · rename_i i d
            split at e
            · rename_i C' gs hm
              split at e
              · rename_i hz
                cases e
                obtain ⟨rfl, hz⟩ := hz
                obtain ⟨l, dx, fs, rfl, ha, h0, hH, t⟩ := mo_ins mo2 qx hm
                cases qy with
                | dat qy =>
                  obtain ⟨ex3, mo3⟩ := mo2.put (u := .ins _ dx fs) (u' := .ins _ dx (putF n y fs)) (o' := .ins _ gs) (o := .ins _ (putFD n d gs)) ha h0 hH ⟨dx, fs, rfl, t⟩ ⟨dx, _, rfl, t.put (qy.same ex2.s0)⟩
                  exact ⟨l, _, dx, fs, rfl, hH, hc, hn, by rw [t.len]; exact hz, gl _ _ _ _ (ex.trans (ex2.trans ex3)) mo3 (((eo.ex ex).ex ex2).ex ex3)⟩
              · cases e
            · cases e
          · cases e
/-! a new instance -/
theorem MOk.aside {H0 H : Hp} {am : List Addr} {m : Mem} (mo : MOk K T H0 am H m) {p : Addr} {u : HO} (hp : H p = none) (nt : ∀ ps, u ≠ .tbl ps) : Ex H0 H H0 (upd H p u) am am ∧ MOk K T H0 am (upd H p u) m := by
  have s := Same.new (o := u) hp
  refine ⟨⟨.refl _, ⟨[], by simp, by simp⟩, fun a o h _ _ => s _ _ h, fun a h => fre_upd nt h (Fre.none hp), fun _ _ h _ => h⟩, mo.len, mo.nd, fun j w h => ?_, mo.sub.trans s, fun b h z => mo.tr b h (fun o e => z o (s _ _ e)), mo.nt, mo.tb.ext s⟩
  obtain ⟨b, e1, ⟨w2, e2, e3, z⟩ | q⟩ := mo.is j w h
  · exact ⟨b, e1, .inl ⟨w2, e2, s _ _ e3, z⟩⟩
  · exact ⟨b, e1, .inr q⟩
/-- the store without what was made last -/
def cutM (n : Nat) (m : Mem) : Option Mem := if m.length = n + 1 ∧ (m.take n).all (okMO n) = true then some (m.take n) else none
def fMake (C : Addr) (F : List Sl → Mem → Re Sl) (dds : List D) (fa : Rho → Mem → Re (List Sl)) : Rho → Mem → Re Sl := bindD fa fun ss _ m => match F (.opq m.length :: (ss ++ dds.map Sl.dat)) (m ++ [.ins C []]) with
  | some (.ok (.dat .non), m') => match m'[m.length]?, cutM m.length m' with
    | some (.ins C' gs), some m2 => if C' = C then some (.ok (.dat (.ins C gs)), m2) else none
    | _, _ => none
  | some (.error e, m') => (cutM m.length m').map fun m2 => (.error e, m2)
  | _ => none
/-- the store cut down to what was there -/
theorem cut_ok {H0 H H1 H' : Hp} {am am' : List Addr} {m m' m2 : Mem} (mo : MOk K T H0 am H m) (ex : Ex H0 H H1 H' am am') (mo' : MOk K T H1 am' H' m') (e : cutM m.length m' = some m2) : am'.take m.length = am ∧ Ex H0 H H1 H' am am ∧ MOk K T H1 am H' m2 := by
  unfold cutM at e
  split at e
  · rename_i hc
    cases e
    obtain ⟨hl, hall⟩ := hc
    obtain ⟨rr, e1, h1⟩ := ex.pre
    have ht : am'.take m.length = am := by rw [e1, ← mo.len, List.take_left']; rfl
    refine ⟨ht, ⟨ex.s0, ⟨[], by simp, by simp⟩, ex.fr, ex.kp, ex.nw⟩, ?_, ?_, fun i o h => ?_, mo'.sub, fun a h => mo'.tr a (by rw [e1]; exact List.mem_append_left _ h), mo'.nt, mo'.tb⟩
    · rw [List.length_take, ← mo'.len, e1, List.length_append, ← mo.len]; omega
    · rw [← ht]; exact mo'.nd.sublist (List.take_sublist _ _)
    · have hi : i < m.length := by
        have := (List.getElem?_eq_some_iff.mp h).1
        rw [List.length_take] at this
        omega
      have hok : okMO m.length o = true := List.all_eq_true.mp hall o (List.mem_of_getElem? h)
      rw [List.getElem?_take_of_lt hi] at h
      obtain ⟨a, e2, q⟩ := mo'.is i o h
      refine ⟨a, by rw [← ht, List.getElem?_take_of_lt hi]; exact e2, ?_⟩
      rcases q with ⟨u, h2, h3, q⟩ | q
      · exact .inl ⟨u, h2, h3, by rw [← ht]; exact okMO_is q hok⟩
      · exact .inr q
  · cases e
theorem px_make {x : Str} {C f' : Addr} {k : Nat} {fd : FuncData} {ps : List Str} {F : List Sl → Mem → Re Sl} {ds : List Value} {dvs : List V} {dds : List D} {fa : Rho → Mem → Re (List Sl)} {es : List Expr} {p : Pos} (M : Mk X.K C f') (G : FnX X.prog X.w X.K X.mg X.base T k f' fd ps F) (hr : Room (k + 1) X.A) (hg : Gl X x) (hm : X.mg x = some (.ref C)) (hb : Binds X.K fd ps ds) (hd : Vals dvs ds) (hdd : ∀ H, IsAll X.K H dvs dds)
    (hx : Passes (L2.CX X.prog X.w) X E) (ha : PAX X T E (e :: es) fa) (hn : (e :: es).length + dds.length + 1 = ps.length := by rfl) (hdb : (x == ("__debug__" : Str)) = false := by decide) (he : starEach (e :: es) X.env = (false, eval e X.env) :: starEach es X.env := by rfl) (hpl : (backTo pos (starEach es X.env)).any (·.1) = false := by rfl) :
    PX X T E (.Call (.Name x p) (e :: es) [] pos) (fMake C F dds fa) := by
  obtain ⟨⟨t, pa, s⟩, hlen⟩ := ha
  refine ⟨_, pe_make M G.ok hr hg hm hb hd hx pa hdb he hpl, fun H0 am H ρ m σ r m' Q mo eo e gl => ?_⟩
  unfold fMake bindD bindR at e
  cases hf : fa ρ m with
  | none => simp only [hf] at e; cases e
  | some z =>
    obtain ⟨z, m1⟩ := z
    simp only [hf] at e
    cases z with
    | error w => cases e; exact s H0 am H ρ m σ (.error w) _ _ mo eo hf gl
    | ok ss =>
      refine s H0 am H ρ m σ (.ok ss) m1 _ mo eo hf fun vs H1 H' am' ex mo1 q => ?_
      intro x dx hx1 hdx1 hne
      obtain ⟨ex2, mo2⟩ := mo1.aside (u := .own x) hdx1 (fun _ z => nomatch z)
      have hx2 : (upd H' dx (.own x)) x = none := by rw [upd_ne (Ne.symm hne)]; exact hx1
      obtain ⟨ex3, mo3⟩ := mo2.push (u := .ins C dx []) (o := .ins C []) hx2 ⟨dx, [], rfl, .nil⟩
      have ex23 := ex2.trans ex3
      have hxa : (am' ++ [x])[m1.length]? = some x := by rw [← mo1.len]; simp
      have q2 : Paired (IsS X.K H1 (am' ++ [x])) (.ref x :: (vs ++ dvs)) (.opq m1.length :: (ss ++ dds.map Sl.dat)) := by
        refine .cons (.opq hxa) ?_
        have q1 := PS.ex q ex23
        have app : ∀ {vs : List V} {ss : List Sl}, Paired (IsS X.K H1 (am' ++ [x])) vs ss → Paired (IsS X.K H1 (am' ++ [x])) (vs ++ dvs) (ss ++ dds.map Sl.dat) := by
          intro vs ss q
          induction q with
          | nil => exact IsAll.sl (hdd H1)
          | cons r t ih => exact .cons r ih
        exact app q1
      have hl2 := prd_len q2
      cases hF : F (.opq m1.length :: (ss ++ dds.map Sl.dat)) (m1 ++ [.ins C []]) with
      | none => simp only [hF] at e; cases e
      | some z =>
        obtain ⟨z, m4⟩ := z
        simp only [hF] at e
        refine ⟨by rw [hl2, List.length_cons, List.length_append, List.length_map, hlen _ _ _ _ hf]; exact hn, H1, _, _, _, z, m4, mo3, q2, hF, ?_⟩
        cases z with
        | error er =>
          dsimp only at e
          cases hc : cutM m1.length m4 with
          | none => rw [hc] at e; cases e
          | some m5 =>
            rw [hc] at e
            cases e
            intro H2 H3 am2 ex4 mo4
            obtain ⟨_, ex5, mo5⟩ := cut_ok mo1 (ex23.trans ex4) mo4 hc
            exact gl H2 H3 am' (ex.trans ex5) mo5
        | ok s2 =>
          cases s2 with
          | opq i => cases e
          | dat d =>
            cases d <;> first | (cases e; done) | skip
            dsimp only at e
            intro v H2 H3 am2 ex4 mo4 qv
            cases qv with
            | dat qv =>
            cases qv
            refine ⟨rfl, ?_⟩
            split at e
            · rename_i C' gs m5 hm9 hc
              split at e
              · rename_i hC
                subst hC
                cases e
                obtain ⟨_, ex5, mo5⟩ := cut_ok mo1 (ex23.trans ex4) mo4 hc
                have hxa2 := ex4.get hxa
                obtain ⟨l, e1, ⟨u, e0, e3, dx', fs, rfl, t⟩ | ⟨_, z, _⟩⟩ := mo4.is _ _ hm9
                · rw [hxa2] at e1
                  cases e1
                  have hxn : x ∉ am' := fun z => mo1.tr x z (Fre.none hx1)
                  obtain ⟨s0, mo6⟩ := mo5.grow hxn e0 e3 (fun _ z => nomatch z)
                  refine gl (.ref x) _ H3 am' (ex.trans ⟨ex5.s0.trans s0, ex5.pre, ex5.fr, ex5.kp, fun a h1 h2 h3 => ?_⟩) mo6 (.dat (.ins upd_same (t.same s0)))
                  rw [upd_ne (by rintro rfl; exact h3.nf (Fre.none hx1))]
                  exact ex5.nw a h1 h2 h3
                · cases z
              · cases e
            · cases e
/-! a method of an instance -/
def fMeth (n : Str) (F : List Sl → Mem → Re Sl) (f : Rho → Mem → Re Sl) (dds : List D) (fa : Rho → Mem → Re (List Sl)) : Rho → Mem → Re Sl := bindD f fun s ρ m => match vw m s with
  | some (.ins _ gs) => if (gs.lookup n).isNone = true then bindR (fa ρ m) fun ss m2 => F (s :: (ss ++ dds.map Sl.dat)) m2 else none
  | _ => none
end
end Pu
namespace Pu
open PySem PySem.Spec PyProof.Rows L2
open LamX (Tabs)
/-- what a def gives that hands on a new thing of the store -/
def runK (g : Rho → Mem → RS) (n : Nat) (ss : List Sl) (m : Mem) : Re Sl :=
  match g (ss.map some ++ List.replicate (n - ss.length) none) m with
  | some (.nx _, m') => some (.ok (.dat .non), m')
  | some (.rt s, m') => some (.ok s, m')
  | some (.er e, m') => some (.error e, m')
  | _ => none
section
variable {P : Program} {w : World} {K : PySem.W.Frag} {T : List (Addr × Str)} {mg : Str → Option Value} {base : Heap}
theorem FnX.ofK {x qual : Str} {st : Stmt} {f : Addr} {fd : FuncData} {N ps : List Str} {k : Nat} {g : Rho → Mem → RS} (F : Fun K x qual st f fd) (S : FnScope N ps (defScope st))
    (hbody : ∀ (cdv : Value) (A : Around) (outer : List Env) (s : Shared) (H : Hp) (E : XK), Room k (A.deeper (envOfC qual (defScope st) s.heap.objs.size f cdv)) →
      PSsX (cxOf (L2.CX P w) P w K mg base N qual (defScope st) f cdv A outer s H E) T E (defBody st) g) : FnX P w K mg base T (k + 1) f fd ps (runK g N.length) := by
  refine ⟨F.okX S (fun vs H Q E h => h.1) fun cdv A outer s H vs Q E hr h => ?_⟩
  obtain ⟨hl, H0, am, m, ss, r, m', mo, q, e, gl⟩ := h
  obtain ⟨t, p, sd⟩ := hbody cdv A outer s H E hr
  refine ⟨t, p, ?_⟩
  unfold runK at e
  cases hg : g (ss.map some ++ List.replicate (N.length - ss.length) none) m with
  | none => rw [hg] at e; cases e
  | some z =>
    obtain ⟨o, m1⟩ := z
    rw [hg] at e
    have eo : EnvOk K H0 am (ss.map some ++ List.replicate (N.length - ss.length) none) (L2.start N vs) := env_start q
    refine sd H0 am H _ m _ o m1 _ mo eo hg ?_
    cases o with
    | nx ρ => cases e; exact fun σ H1 H' am' ex mo' eo' => gl .non H1 H' am' ex mo' (.dat .non)
    | rt s => cases e; exact fun v H1 H' am' ex mo' q' => gl v H1 H' am' ex mo' q'
    | er x => cases e; exact gl
    | bk ρ => cases e
    | ct ρ => cases e
end
/-! evaluation -/
section
variable {α β : Type} {ρ : Rho} {m : Mem} {f g : Rho → Mem → Re Sl}
theorem ev_seq {a b : Rho → Mem → RS} {ρ2 : Rho} {m2 : Mem} (h : a ρ m = some (.nx ρ2, m2)) : fSeq a b ρ m = b ρ2 m2 := by
  unfold fSeq; rw [h]
theorem ev_ret {s : Sl} {m2 : Mem} (h : f ρ m = some (.ok s, m2)) : fRet f ρ m = some (.rt s, m2) := by
  unfold fRet; rw [h]; rfl
theorem ev_bind {a : Rho → Mem → Re α} {b : α → Rho → Mem → Re β} {x : α} {m2 : Mem} (h : a ρ m = some (.ok x, m2)) : bindD a b ρ m = b x ρ m2 := by
  unfold bindD; rw [h]; rfl
theorem ev_call {F : List Sl → Mem → Re Sl} {dds : List D} {fa : Rho → Mem → Re (List Sl)} {ss : List Sl} {m2 : Mem} (h : fa ρ m = some (.ok ss, m2)) : fCall F dds fa ρ m = F (ss ++ dds.map Sl.dat) m2 := by
  unfold fCall; rw [ev_bind h]
end
end Pu
namespace Pu
open PySem PySem.Spec PyProof.Rows L2
theorem mulX_of {i j : Int} {a b : Nat} (hi : i.natAbs < 2 ^ a) (hj : j.natAbs < 2 ^ b) (h : a + b ≤ 1000000) : CMulX i j := by
  have h1 := PyProof.Rows.intBits_le hi
  have h2 := PyProof.Rows.intBits_le hj
  unfold CMulX
  omega
theorem oMulI_eq {i j : Int} (h : CMulX i j) : oMulI (.int i) (.int j) = some (.int (i * j)) := by
  show (if decide (CMulX i j) = true then _ else _) = _
  rw [if_pos (decide_eq_true h)]
theorem oDiv_eq {i j : Int} (h0 : 0 < j) (h : j.natAbs.log2 < 9000) : oDiv (.int i) (.int j) = some (.int (i / j)) := by
  show (if cDiv i j = true then _ else _) = _
  rw [if_pos]
  unfold cDiv
  rw [decide_eq_true h0, decide_eq_true h]
  rfl
theorem oMod_eq {i j : Int} (h0 : 0 < j) : oMod (.int i) (.int j) = some (.int (i % j)) := by
  show (if decide (0 < j) = true then _ else _) = _
  rw [if_pos (decide_eq_true h0)]
theorem oPow_eq {i j : Int} (h0 : 0 ≤ j) (h1 : j ≤ 1000000) (h : i.natAbs < 2 ^ 64) : oPow (.int i) (.int j) = some (.int (i ^ j.toNat)) := by
  show (if (decide (0 ≤ j) && decide (j ≤ 1000000) && decide (i.natAbs < 2 ^ 64)) = true then _ else _) = _
  rw [if_pos]
  rw [decide_eq_true h0, decide_eq_true h1, decide_eq_true h]
  rfl
theorem oAdd_int {i j : Int} : oAdd (.int i) (.int j) = some (.int (i + j)) := rfl
theorem oSub_int {i j : Int} : oSub (.int i) (.int j) = some (.int (i - j)) := rfl
theorem oC_int {g : Int → Int → Bool} {i j : Int} : oC g (.int i) (.int j) = some (.bl (g i j)) := rfl
theorem oInt_int {i : Int} : oInt [.int i] = some (.int i) := rfl
theorem oGet_str {kvs : List (Key × D)} {z : Str} : oGet (.dic kvs) (.str z) = valD kvs (.inr z) := rfl
theorem oLen_lst {xs : List D} : oLen [.lst xs] = some (.int xs.length) := rfl
theorem oLen_tup {xs : List D} : oLen [.tup xs] = some (.int xs.length) := rfl
theorem oIx_lst {xs : List D} {i : Int} : oIx (.lst xs) (.int i) = L2.atI xs i := rfl
theorem oIx_tup {xs : List D} {i : Int} : oIx (.tup xs) (.int i) = L2.atI xs i := rfl
theorem lo_some {m : Mem} {c : D} : liftO m (some c) = some (.ok (.dat c), m) := rfl
theorem f2_dat {o : D → D → Option D} {d e : D} {m : Mem} : f2 o (.dat d) (.dat e) m = liftO m (o d e) := rfl
theorem vw_opq {m : Mem} {i : Nat} {k : List (Key × D)} (h : m[i]? = some (.dic k)) : vw m (.opq i) = some (.dic k) := by
  simp only [vw, h]
theorem f2_dic {o : D → D → Option D} {i : Nat} {e : D} {m : Mem} {k : List (Key × D)} (h : m[i]? = some (.dic k)) : f2 o (.opq i) (.dat e) m = liftO m (o (.dic k) e) := by
  unfold f2
  rw [vw_opq h, vw_dat]
end Pu
namespace Pu
open PySem PySem.Spec PyProof.Rows L2
open LamX (Tabs)
/-! ### defs that were read in the old way -/
theorem FnOk.up {P : Program} {w : World} {K : PySem.W.Frag} {mg : Str → Option Value} {base : Heap} {CX : CXT} {k : Nat} {f : Addr} {fd : FuncData} {ps : List Str} {sp : Sp} (F : FnOk P w K mg base CX0 k f fd ps sp) : FnOk P w K mg base CX k f fd ps sp :=
  ⟨F.len, fun A outer s H args us vs Q E h1 h2 h3 h4 h5 => codeAny_mono (F.run A outer s H args us vs Q E h1 h2 h3 h4 h5) fun r s' z => by
    cases r with
    | ok v => cases v <;> exact z
    | error e => exact False.elim z⟩
/-- the tuples of a heap stand in another one -/
def TupSub (H H1 : Hp) : Prop := ∀ a xs, H a = some (.tup xs) → H1 a = some (.tup xs)
section
variable {K : PySem.W.Frag} {T : List (Addr × Str)} {H0 H H' : Hp} {am : List Addr} {m : Mem}
def join (H0 H' : Hp) : Hp := fun a => match H0 a with
  | some o => some o
  | none => match H' a with
    | some (.tup xs) => some (.tup xs)
    | _ => none
theorem join_in {a : Addr} {o : HO} (h : H0 a = some o) : join H0 H' a = some o := by unfold join; rw [h]
theorem join_no {a : Addr} (h : H0 a = none) (n : ∀ xs, H' a ≠ some (.tup xs)) : join H0 H' a = none := by
  unfold join
  rw [h]
  cases e : H' a with
  | none => rfl
  | some o => cases o with
    | tup xs => exact absurd e (n xs)
    | _ => rfl
theorem join_tup {a : Addr} {xs : List V} (h : H' a = some (.tup xs)) (s : Same H0 H') : join H0 H' a = some (.tup xs) := by
  unfold join
  cases e : H0 a with
  | none => simp only [h]
  | some o =>
    have z := s _ _ e
    rw [h] at z
    cases z
    rfl
theorem join_sub (s : Same H0 H') : Same (join H0 H') H' := fun a o h => by
  unfold join at h
  cases e : H0 a with
  | some u => rw [e] at h; cases h; exact s _ _ e
  | none =>
    rw [e] at h
    cases e2 : H' a with
    | none => rw [e2] at h; cases h
    | some u => rw [e2] at h; cases u with
      | tup xs => cases h; rfl
      | _ => cases h
theorem mis_ntup {u : HO} {o : MO} (q : MIs K H0 am u o) : ∀ xs, u ≠ .tup xs := fun xs e => by
  subst e
  cases o with
  | lst xs => obtain ⟨_, z, _⟩ := q; cases z
  | dic ds => obtain ⟨_, z, _⟩ := q; cases z
  | ins C gs => obtain ⟨_, _, z, _⟩ := q; cases z
  | fz d => exact q
theorem absorb (mo : MOk K T H0 am H m) (s : Same H H') : Ex H0 H (join H0 H') H' am am ∧ MOk K T (join H0 H') am H' m ∧ TupSub H' (join H0 H') := by
  have s2 : Same H0 H' := mo.sub.trans s
  have ex : Ex H0 H (join H0 H') H' am am := ⟨fun a o h => join_in h, ⟨[], by simp, by simp⟩, fun a o h _ _ => s _ _ h, fun a h o e => h o (s _ _ e), fun a _ h0 ⟨o, e, _, n, _⟩ => join_no h0 fun xs z => by
    rw [s _ _ e] at z; exact n xs (Option.some.inj z)⟩
  refine ⟨ex, ⟨mo.len, mo.nd, fun i o h => ?_, join_sub s2, fun a h z => mo.tr a h (ex.kp a z), fun a ps h => ?_, mo.tb.ext s⟩, fun a xs h => join_tup h s2⟩
  · obtain ⟨b, e1, ⟨u, e2, e3, q⟩ | ⟨d, e2, q⟩⟩ := mo.is i o h
    · exact ⟨b, e1, .inl ⟨u, join_no e2 fun xs z => by rw [s _ _ e3] at z; exact mis_ntup q xs (Option.some.inj z), s _ _ e3, q.ex ex⟩⟩
    · exact ⟨b, e1, .inr ⟨d, e2, q.same ex.s0⟩⟩
  · unfold join at h
    cases e : H0 a with
    | some u => rw [e] at h; cases h; exact mo.nt a ps e
    | none =>
      rw [e] at h
      cases e2 : H' a with
      | none => rw [e2] at h; cases h
      | some u => rw [e2] at h; cases u with
        | tup xs => cases h
        | _ => cases h
end
section
variable {P : Program} {w : World} {K : PySem.W.Frag} {mg : Str → Option Value} {base : Heap} {T : List (Addr × Str)}
theorem FnX.ofSp {k : Nat} {f : Addr} {fd : FuncData} {ps : List Str} {sp : Sp} {o : List D → Option D} (G : FnOk P w K mg base CX0 k f fd ps sp) (hl : ∀ ds c, o ds = some c → ds.length = ps.length)
    (h : ∀ (ds : List D) (c : D) (vs : List V) (H : Hp) (Q : VK) (E : XK), o ds = some c → IsAll K H vs ds → (∀ v H', Same H H' → (∀ H1, TupSub H' H1 → Is K H1 v c) → Q v H') → sp vs H Q E) :
    FnX P w K mg base T k f fd ps (pureF fun ds => (o ds).map .ok) := by
  refine ⟨(FnOk.up G).imp fun vs H Q E ⟨hn, H0, am, m, ss, r, m', mo, q, e, gl⟩ => ?_⟩
  unfold pureF at e
  cases ha : allD ss with
  | none => rw [ha] at e; cases e
  | some ds =>
    rw [ha] at e
    simp only at e
    cases ho : o ds with
    | none => rw [ho] at e; cases e
    | some c =>
      rw [ho] at e
      cases e
      have t : IsAll K H0 vs ds := allD_all q ha
      refine h ds c vs H Q E ho (t.same mo.sub) fun v H' s hv => ?_
      obtain ⟨ex, mo2, ts⟩ := absorb mo s
      exact gl v _ H' am ex mo2 (.dat (hv _ ts))
theorem pureO {o : List D → Option D} {ds : List D} {c : D} {m : Mem} (h : o ds = some c) : pureF (fun ds => (o ds).map .ok) (ds.map Sl.dat) m = some (.ok (.dat c), m) := by
  refine pure_ok ?_
  simp only [h]
  rfl
end
end Pu
namespace Pu
open PySem PySem.Spec PyProof.Rows L2
open LamX (Tabs)
/-! ### all things are looked at, none is changed -/
def seqO {α : Type} : List (Option α) → Option (List α)
  | [] => some []
  | none :: _ => none
  | some x :: r => (seqO r).map (x :: ·)
/-- a thing with all that is in it -/
def dv (m : Mem) : Nat → Sl → Option D
  | _, .dat d => some d
  | 0, .opq _ => none
  | n + 1, .opq i => match m[i]? with
    | some (.lst xs) => (seqO (xs.map (dv m n))).map D.lst
    | some (.fz d) => some d
    | _ => none
def frzH (H : Hp) : Hp := fun a => match H a with
  | some (.tbl _) => none
  | o => o
section
variable {K : PySem.W.Frag} {T : List (Addr × Str)} {H0 H H' H1 : Hp} {am : List Addr} {m : Mem}
theorem frz_some {a : Addr} {o : HO} (h : H a = some o) (n : ∀ ps, o ≠ .tbl ps) : frzH H a = some o := by
  unfold frzH
  rw [h]
  cases o with
  | tbl ps => exact absurd rfl (n ps)
  | _ => rfl
theorem frz_sub : Same (frzH H) H := fun a o h => by
  unfold frzH at h
  cases e : H a with
  | none => rw [e] at h; cases h
  | some u => rw [e] at h; cases u with
    | tbl ps => cases h
    | _ => exact h
theorem frz_nt {a : Addr} {ps : Array Value} : frzH H a ≠ some (.tbl ps) := fun h => by
  unfold frzH at h
  cases e : H a with
  | none => rw [e] at h; cases h
  | some u => rw [e] at h; cases u <;> cases h
theorem frz_same (s : Same H0 H) (nt : ∀ a ps, H0 a ≠ some (.tbl ps)) : Same H0 (frzH H) := fun a o h => frz_some (s _ _ h) fun ps e => nt a ps (by rw [h, e])
theorem frz_mo (mo : MOk K T H0 am H m) : MOk K T (frzH H) [] H [] := ⟨rfl, List.nodup_nil, fun i o h => by simp at h, frz_sub, fun a h => absurd h (by simp), fun _ _ => frz_nt, mo.tb⟩
theorem dv_ok (mo : MOk K T H0 am H m) : ∀ (n : Nat) {v : V} {s : Sl} {d : D}, IsS K H0 am v s → dv m n s = some d → Is K (frzH H) v d
  | n, v, .dat d, _, h, e => by
    cases h with
    | dat h => unfold dv at e; cases e; exact h.same (frz_same mo.sub mo.nt)
  | 0, v, .opq i, _, h, e => by unfold dv at e; cases e
  | n + 1, v, .opq i, d, h, e => by
    cases h with
    | opq h =>
      rename_i a
      unfold dv at e
      cases hm : m[i]? with
      | none => rw [hm] at e; cases e
      | some o =>
        rw [hm] at e
        obtain ⟨b, e1, q⟩ := mo.is i o hm
        rw [h] at e1
        cases e1
        cases o with
        | ins C fs => cases e
        | fz d2 =>
          cases e
          rcases q with ⟨u, _, _, q⟩ | ⟨d3, z, q⟩
          · exact q.elim
          · cases z; exact q.same (frz_same mo.sub mo.nt)
        | dic k => cases e
        | lst xs =>
          rcases q with ⟨u, _, e3, vs, rfl, t⟩ | ⟨d3, z, _⟩
          · dsimp only at e
            have key : ∀ {vs : List V} {xs : List Sl} {ds : List D}, Paired (IsS K H0 am) vs xs → seqO (xs.map (dv m n)) = some ds → IsAll K (frzH H) vs ds := by
              intro vs xs ds t
              induction t generalizing ds with
              | nil => intro e; cases e; exact .nil
              | cons r t ih =>
                intro e
                rename_i x s l1 l2
                rw [List.map_cons] at e
                cases h1 : dv m n s with
                | none => rw [h1] at e; cases e
                | some d1 =>
                  rw [h1] at e
                  unfold seqO at e
                  cases h2 : seqO (l2.map (dv m n)) with
                  | none => rw [h2] at e; cases e
                  | some ds2 => rw [h2] at e; cases e; exact .cons (dv_ok mo n r h1) (ih h2)
            cases h2 : seqO (xs.map (dv m n)) with
            | none => rw [h2] at e; cases e
            | some ds => rw [h2] at e; cases e; exact .lst (frz_some e3 (fun _ z => nomatch z)) (key t h2)
          · cases z
/-- data without lists and dicts -/
def to1 : Nat → D → Bool
  | _, .non => true | _, .bl _ => true | _, .int _ => true | _, .str _ => true | _, .ty _ => true | _, .fn _ => true
  | n + 1, .tup xs => xs.all (to1 n)
  | n + 1, .ins _ fs => fs.all fun f => to1 n f.2
  | _, _ => false
def joinI (H0 H' : Hp) : Hp := fun a => match H0 a with
  | some o => some o
  | none => match H' a with
    | some (.tup xs) => some (.tup xs)
    | some (.ins C dx fs) => some (.ins C dx fs)
    | _ => none
theorem ji_in {a : Addr} {o : HO} (h : H0 a = some o) : joinI H0 H' a = some o := by unfold joinI; rw [h]
theorem ji_no {a : Addr} (h : H0 a = none) (n : ∀ xs, H' a ≠ some (.tup xs)) (n2 : ∀ C dx fs, H' a ≠ some (.ins C dx fs)) : joinI H0 H' a = none := by
  unfold joinI
  rw [h]
  cases e : H' a with
  | none => rfl
  | some o => cases o with
    | tup xs => exact absurd e (n xs)
    | ins C dx fs => exact absurd e (n2 C dx fs)
    | _ => rfl
theorem ji_new {a : Addr} {o : HO} (h : H' a = some o) (s : Same H0 H') (k : (∃ xs, o = .tup xs) ∨ ∃ C dx fs, o = .ins C dx fs) : joinI H0 H' a = some o := by
  unfold joinI
  cases e : H0 a with
  | none => rcases k with ⟨xs, rfl⟩ | ⟨C, dx, fs, rfl⟩ <;> simp only [h]
  | some u =>
    have z := s _ _ e
    rw [h] at z
    cases z
    rfl
theorem ji_sub (s : Same H0 H') : Same (joinI H0 H') H' := fun a o h => by
  unfold joinI at h
  cases e : H0 a with
  | some u => rw [e] at h; cases h; exact s _ _ e
  | none =>
    rw [e] at h
    cases e2 : H' a with
    | none => rw [e2] at h; cases h
    | some u => rw [e2] at h; cases u with
      | tup xs => cases h; rfl
      | ins C dx fs => cases h; rfl
      | _ => cases h
def notI : MO → Bool
  | .ins _ _ => false
  | _ => true
def okF (m : Mem) : Bool := m.all notI
theorem mis_lk {u : HO} {o : MO} (q : MIs K H0 am u o) (h : notI o = true) : (∀ xs, u ≠ .tup xs) ∧ ∀ C dx fs, u ≠ .ins C dx fs := by
  cases o with
  | lst xs => obtain ⟨_, rfl, _⟩ := q; exact ⟨fun _ z => (nomatch z), fun _ _ _ z => (nomatch z)⟩
  | dic ds => obtain ⟨_, rfl, _⟩ := q; exact ⟨fun _ z => (nomatch z), fun _ _ _ z => (nomatch z)⟩
  | ins C gs => cases h
  | fz d => exact q.elim
/-- back from the look -/
theorem unfrz (mo : MOk K T H0 am H m) (hf : okF m = true) (fr : ∀ a o, H a = some o → (∀ ps, o ≠ .tbl ps) → H' a = some o) (kp : ∀ a, Fre H' a → Fre H a) (tb : Tabs T H') :
    Ex H0 H (joinI H0 H') H' am am ∧ MOk K T (joinI H0 H') am H' m := by
  have s2 : Same H0 H' := fun a o h => fr a o (mo.sub _ _ h) fun ps e => mo.nt a ps (by rw [h, e])
  have ex : Ex H0 H (joinI H0 H') H' am am := ⟨fun a o h => ji_in h, ⟨[], by simp, by simp⟩, fun a o h t _ => fr a o h t, kp, fun a _ h0 ⟨o, e, t, n, n2⟩ => ji_no h0 (fun xs z => by
    rw [fr _ _ e t] at z; exact n xs (Option.some.inj z)) fun C dx fs z => by rw [fr _ _ e t] at z; exact n2 C dx fs (Option.some.inj z)⟩
  refine ⟨ex, mo.len, mo.nd, fun i o h => ?_, ji_sub s2, fun a h z => mo.tr a h (ex.kp a z), fun a ps h => ?_, tb⟩
  · obtain ⟨b, e1, ⟨u, e2, e3, q⟩ | ⟨d, e2, q⟩⟩ := mo.is i o h
    · have k := mis_lk q (List.all_eq_true.mp hf o (List.mem_of_getElem? h))
      have e4 := fr _ _ e3 q.ntb
      exact ⟨b, e1, .inl ⟨u, ji_no e2 (fun xs z => by rw [e4] at z; exact k.1 xs (Option.some.inj z)) (fun C dx fs z => by rw [e4] at z; exact k.2 C dx fs (Option.some.inj z)), e4, q.ex ex⟩⟩
    · exact ⟨b, e1, .inr ⟨d, e2, q.same ex.s0⟩⟩
  · unfold joinI at h
    cases e : H0 a with
    | some u => rw [e] at h; cases h; exact mo.nt a ps e
    | none =>
      rw [e] at h
      cases e2 : H' a with
      | none => rw [e2] at h; cases h
      | some u => rw [e2] at h; cases u with
        | tup xs => cases h
        | ins C dx fs => cases h
        | _ => cases h
theorem to_back (s : Same H0 H') (s1 : Same H1 H') : ∀ (n : Nat) {v : V} {d : D}, Is K H1 v d → to1 n d = true → Is K (joinI H0 H') v d
  | n, _, _, .non, _ => .non
  | n, _, _, .bl b, _ => .bl b
  | n, _, _, .int i, _ => .int i
  | n, _, _, .str z, _ => .str z
  | n, _, _, .ty z, _ => .ty z
  | n, _, _, .fn a, _ => .fn a
  | n, _, _, .lst _ _, e => by cases n <;> (unfold to1 at e; cases e)
  | n, _, _, .dic _ _, e => by cases n <;> (unfold to1 at e; cases e)
  | n, _, _, .frl _ _, e => by cases n <;> (unfold to1 at e; cases e)
  | 0, _, _, .tup _ _, e => by unfold to1 at e; cases e
  | 0, _, _, .ins _ _, e => by unfold to1 at e; cases e
  | n + 1, _, _, .tup (xs := xs) h t, e => by
    unfold to1 at e
    have key : ∀ {vs : List V} {ds : List D}, IsAll K H1 vs ds → ds.all (to1 n) = true → IsAll K (joinI H0 H') vs ds := by
      intro vs ds
      induction ds generalizing vs with
      | nil => intro t _; cases t; exact .nil
      | cons d ds ih =>
        intro t e
        rw [List.all_cons, Bool.and_eq_true] at e
        cases t with
        | cons r t => exact .cons (to_back s s1 n r e.1) (ih t e.2)
    exact .tup (ji_new (s1 _ _ h) s (.inl ⟨_, rfl⟩)) (key t e)
  | n + 1, _, _, .ins (gs := gs) h t, e => by
    unfold to1 at e
    have key : ∀ {vs : List (Str × V)} {ds : List (Str × D)}, IsFs K H1 vs ds → (ds.all fun f => to1 n f.2) = true → IsFs K (joinI H0 H') vs ds := by
      intro vs ds
      induction ds generalizing vs with
      | nil => intro t _; cases t; exact .nil
      | cons d ds ih =>
        intro t e
        rw [List.all_cons, Bool.and_eq_true] at e
        cases t with
        | cons r t => exact .cons (to_back s s1 n r e.1) (ih t e.2)
    exact .ins (ji_new (s1 _ _ h) s (.inr ⟨_, _, _, rfl⟩)) (key t e)
end
def frzR (m : Mem) (ρ : Rho) : Rho := ρ.map fun o => o.bind fun s => (dv m 3 s).map Sl.dat
def fFrz (f : Rho → Mem → Re Sl) : Rho → Mem → Re Sl := fun ρ m => match f (frzR m ρ) [] with
  | some (.ok (.dat c), []) => if okF m = true ∧ to1 6 c = true then some (.ok (.dat c), m) else none
  | _ => none
section
variable {X : Cx} {T : List (Addr × Str)} {E : XK} {a : Expr} {f : Rho → Mem → Re Sl}
theorem px_frz (h : PX X T E a f) : PX X T E a (fFrz f) := by
  obtain ⟨t, p, s⟩ := h
  refine ⟨t, p, fun H0 am H ρ m σ r m' Q mo eo e gl => ?_⟩
  unfold fFrz at e
  split at e
  · rename_i c hf
    split at e
    · rename_i hc
      cases e
      have eo' : EnvOk X.K (frzH H) [] (frzR m ρ) σ := by
        refine ⟨by unfold frzR; rw [List.length_map]; exact eo.1, fun i sl hi => ?_⟩
        unfold frzR at hi
        rw [List.getElem?_map] at hi
        cases hr : ρ[i]? with
        | none => rw [hr] at hi; cases hi
        | some o =>
          rw [hr] at hi
          cases o with
          | none => cases hi
          | some s0 =>
            obtain ⟨v, e1, q⟩ := eo.2 i s0 hr
            have hi : (dv m 3 s0).map Sl.dat = some sl := Option.some.inj hi
            cases hd : dv m 3 s0 with
            | none => rw [hd] at hi; cases hi
            | some d => rw [hd] at hi; cases hi; exact ⟨v, e1, .dat (dv_ok mo 3 q hd)⟩
      refine s (frzH H) [] H (frzR m ρ) [] σ (.ok (.dat c)) [] Q (frz_mo mo) eo' hf fun v H1 H' am' ex mo' q => ?_
      have ham : am' = [] := List.length_eq_zero_iff.mp mo'.len
      subst ham
      obtain ⟨ex2, mo2⟩ := unfrz mo hc.1 (fun a o h t => ex.fr a o h t (by simp)) ex.kp mo'.tb
      cases q with
      | dat q => exact gl v _ H' am ex2 mo2 (.dat (to_back (fun a o h => ex.fr a o (mo.sub _ _ h) (fun ps e => mo.nt a ps (by rw [h, e])) (by simp)) mo'.sub 6 q hc.2))
    · cases e
  · cases e
end
end Pu
namespace Pu
open PySem PySem.Spec PyProof.Rows L2
open LamX (Tabs)
/-! ### what a denotation gives, step by step -/
def WR {α : Type} (x : Re α) (G : α → Mem → Prop) : Prop := ∃ a m', x = some (.ok a, m') ∧ G a m'
def WS (x : RS) (G : Out → Mem → Prop) : Prop := ∃ o m', x = some (o, m') ∧ G o m'
def Sq (b : Rho → Mem → RS) (G : Out → Mem → Prop) (o : Out) (m : Mem) : Prop := match o with
  | .nx ρ => WS (b ρ m) G
  | o => G o m
section
variable {α β : Type} {ρ : Rho} {m : Mem} {G : Out → Mem → Prop} {a b : Rho → Mem → RS} {f g : Rho → Mem → Re Sl} {H : Sl → Mem → Prop}
theorem wr_ok {x : α} {G : α → Mem → Prop} (h : G x m) : WR (some (.ok x, m)) G := ⟨x, m, rfl, h⟩
theorem ws_ok {o : Out} (h : G o m) : WS (some (o, m)) G := ⟨o, m, rfl, h⟩
theorem ws_nx (h : WS (b ρ m) G) : WS (some (.nx ρ, m)) (Sq b G) := ⟨_, _, rfl, h⟩
theorem ws_rt {s : Sl} (h : G (.rt s) m) : WS (some (.rt s, m)) (Sq b G) := ⟨_, _, rfl, h⟩
theorem ws_seq (h : WS (a ρ m) (Sq b G)) : WS (fSeq a b ρ m) G := by
  obtain ⟨o, m', e, q⟩ := h
  unfold fSeq
  rw [e]
  cases o with
  | nx ρ' => exact q
  | rt s => exact ⟨_, _, rfl, q⟩
  | bk s => exact ⟨_, _, rfl, q⟩
  | ct s => exact ⟨_, _, rfl, q⟩
  | er s => exact ⟨_, _, rfl, q⟩
theorem ws_seqN {ρ2 : Rho} {m2 : Mem} (e : a ρ m = some (.nx ρ2, m2)) (h : WS (b ρ2 m2) G) : WS (fSeq a b ρ m) G := by
  unfold fSeq
  rw [e]
  exact h
theorem wr_eq {x : Re α} {y : α} {m2 : Mem} {G : α → Mem → Prop} (e : x = some (.ok y, m2)) (h : G y m2) : WR x G := ⟨_, _, e, h⟩
theorem sq_nx (h : WS (b ρ m) G) : Sq b G (.nx ρ) m := h
theorem sq_rt {s : Sl} (h : G (.rt s) m) : Sq b G (.rt s) m := h
theorem ws_mono {x : RS} {P Q : Out → Mem → Prop} (h : WS x P) (k : ∀ o m, P o m → Q o m) : WS x Q := by
  obtain ⟨o, m', e, q⟩ := h
  exact ⟨o, m', e, k _ _ q⟩
theorem ws_next (h : G (.nx ρ) m) : WS (fNext ρ m) G := ⟨_, _, rfl, h⟩
theorem wr_append {j : Nat} {xs0 : List Sl} (hs : f ρ m = some (.ok (.opq j), m)) (hl : m[j]? = some (.lst xs0)) (h : WR (g ρ m) fun t m2 => ∃ xs, m2[j]? = some (.lst xs) ∧ xs.length < sizeLine ∧ H (.dat .non) (m2.set j (.lst (xs ++ [t])))) : WR (fAppend f g ρ m) H := by
  obtain ⟨t, m2, e, xs, e2, hz, q⟩ := h
  refine ⟨.dat .non, _, ?_, q⟩
  unfold fAppend bindD bindR
  rw [hs]
  dsimp only
  have e0 : isLst m (.opq j) = true := by unfold isLst; simp only [hl]
  rw [if_pos e0, e]
  dsimp only [oAppend]
  rw [e2]
  dsimp only
  rw [if_pos hz]
theorem ws_set {i : Nat} (h : WR (f ρ m) fun s m' => G (.nx (ρ.set i (some s))) m') : WS (fSet i f ρ m) G := by
  obtain ⟨s, m', e, q⟩ := h
  unfold fSet
  rw [e]
  exact ⟨_, _, rfl, q⟩
theorem ws_ret (h : WR (f ρ m) fun s m' => G (.rt s) m') : WS (fRet f ρ m) G := by
  obtain ⟨s, m', e, q⟩ := h
  unfold fRet
  rw [e]
  exact ⟨_, _, rfl, q⟩
theorem ws_do (h : WR (f ρ m) fun _ m' => G (.nx ρ) m') : WS (fDo f ρ m) G := by
  obtain ⟨s, m', e, q⟩ := h
  unfold fDo
  rw [e]
  exact ⟨_, _, rfl, q⟩
theorem ws_if {p : Rho → Mem → Re Bool} (h : WR (p ρ m) fun c m' => if c = true then WS (a ρ m') G else WS (b ρ m') G) : WS (fIfS p a b ρ m) G := by
  obtain ⟨s, m', e, q⟩ := h
  unfold fIfS
  rw [e]
  cases s with
  | true => exact q
  | false => exact q
theorem ws_for {it : Rho → Mem → Re (List D)} {g : Sl → Rho → Option Rho} (h : WR (it ρ m) fun ds m' => WS (fFor g b ds ρ m') G) : WS (fForS it g b ρ m) G := by
  obtain ⟨s, m', e, q⟩ := h
  unfold fForS
  rw [e]
  exact q
theorem wr_bind {f : Rho → Mem → Re α} {g : α → Rho → Mem → Re β} {G : β → Mem → Prop} (h : WR (f ρ m) fun a m' => WR (g a ρ m') G) : WR (bindD f g ρ m) G := by
  obtain ⟨s, m', e, q⟩ := h
  unfold bindD
  rw [e]
  exact q
theorem wr_lcE {it : Rho → Mem → Re (List D)} {g : Sl → Rho → Option Rho} {p : Rho → Mem → Re Bool} {vs : List Nat} (h : WR (it ρ m) fun ds m' => WR (fLcD g p f vs ds ρ m') H) : WR (fLcE it g p f vs ρ m) H := wr_bind h
theorem wr_call {F : List Sl → Mem → Re Sl} {dds : List D} {fa : Rho → Mem → Re (List Sl)} (h : WR (fa ρ m) fun ss m' => WR (F (ss ++ dds.map Sl.dat) m') H) : WR (fCall F dds fa ρ m) H := wr_bind h
theorem wr_cons {fs : Rho → Mem → Re (List Sl)} {G : List Sl → Mem → Prop} (h : WR (f ρ m) fun s m' => WR (fs ρ m') fun r m2 => G (s :: r) m2) : WR (fCons f fs ρ m) G := by
  refine wr_bind ?_
  obtain ⟨s, m', e, s2, m2, e2, q⟩ := h
  exact ⟨s, m', e, s :: s2, m2, by show bindR (fs ρ m') _ = _; rw [e2]; rfl, q⟩
theorem wr_nil {G : List Sl → Mem → Prop} (h : G [] m) : WR (retD [] ρ m) G := ⟨_, _, rfl, h⟩
theorem wr_lc {g : Sl → Rho → Option Rho} {p : Rho → Mem → Re Bool} {vs : List Nat} {ds : List D} (I : Nat → Mem → Prop) (R : D → D → Prop) (hz : ds.length < sizeLine) (h : I 0 m)
    (k : ∀ j m d, j < ds.length → ds[j]? = some d → I j m → ∃ ρ1, g (.dat d) (wipeR ρ vs) = some ρ1 ∧ p ρ1 m = some (.ok true, m) ∧ WR (f ρ1 m) fun s m2 => ∃ x, s = .dat x ∧ R d x ∧ I (j + 1) m2)
    (fin : ∀ xs m', Paired R ds xs → I ds.length m' → H (.dat (.lst xs)) m') : WR (fLcD g p f vs ds ρ m) H := by
  have go : ∀ {ds : List D} {I : Nat → Mem → Prop} {m : Mem}, I 0 m → (∀ j m d, j < ds.length → ds[j]? = some d → I j m → ∃ ρ1, g (.dat d) (wipeR ρ vs) = some ρ1 ∧ p ρ1 m = some (.ok true, m) ∧ WR (f ρ1 m) fun s m2 => ∃ x, s = .dat x ∧ R d x ∧ I (j + 1) m2) →
      ∃ xs m', fLc g p f (wipeR ρ vs) ds m = some (xs, m') ∧ Paired R ds xs ∧ I ds.length m' := by
    intro ds
    induction ds with
    | nil => intro I m h _; exact ⟨[], m, rfl, .nil, h⟩
    | cons d ds ih =>
      intro I m h k
      obtain ⟨ρ1, e1, e2, s, m2, e3, x, rfl, r, h2⟩ := k 0 m d (by simp) rfl h
      obtain ⟨xs, m', e4, q, h3⟩ := ih (I := fun j => I (j + 1)) h2 fun j m d' hj hd => k (j + 1) m d' (by rw [List.length_cons]; omega) (by rw [List.getElem?_cons_succ]; exact hd)
      refine ⟨x :: xs, m', ?_, .cons r q, h3⟩
      unfold fLc
      simp only [e1, e2, e3, e4]
  obtain ⟨xs, m', e, q, i⟩ := go h k
  refine ⟨.dat (.lst xs), m', ?_, fin xs m' q i⟩
  unfold fLcD
  rw [if_pos hz, e]
theorem ws_forN {g : Sl → Rho → Option Rho} (I : Nat → Rho → Mem → Prop) {N : Nat} (h : I 0 ρ m) (st : ∀ n ρ m, n < N → I n ρ m → ∃ ρ1, g (.dat (.int ((n : Nat) : Int))) ρ = some ρ1 ∧ WS (b ρ1 m) fun o m2 => ∃ ρ2, o = .nx ρ2 ∧ I (n + 1) ρ2 m2)
    (fin : ∀ ρ' m', I N ρ' m' → G (.nx ρ') m') : WS (fFor g b ((List.range N).map fun i => D.int ((i : Nat) : Int)) ρ m) G := by
  have go : ∀ (M k : Nat) {ρ : Rho} {m : Mem}, k + M = N → I k ρ m → ∃ ρ' m', fFor g b ((List.range' k M).map fun i => D.int ((i : Nat) : Int)) ρ m = some (.nx ρ', m') ∧ I (k + M) ρ' m' := by
    intro M
    induction M with
    | zero => intro k ρ m _ h; exact ⟨ρ, m, rfl, h⟩
    | succ M ih =>
      intro k ρ m hk h
      obtain ⟨ρ1, e1, o, m2, e2, ρ2, rfl, h2⟩ := st k ρ m (by omega) h
      obtain ⟨ρ', m', e3, h3⟩ := ih (k + 1) (by omega) h2
      refine ⟨ρ', m', ?_, by rw [show k + (M + 1) = k + 1 + M by omega]; exact h3⟩
      rw [List.range'_succ, List.map_cons]
      unfold fFor
      simp only [e1, e2]
      exact e3
  rw [List.range_eq_range']
  obtain ⟨ρ', m', e, i⟩ := go N 0 (by omega) h
  rw [Nat.zero_add] at i
  exact ⟨_, _, e, fin _ _ i⟩
/-- a def's end -/
theorem ws_run {gg : Rho → Mem → RS} {n : Nat} {ss : List Sl} {G : Sl → Mem → Prop} (h : WS (gg (ss.map some ++ List.replicate (n - ss.length) none) m) fun o m' => ∃ s, (o = .rt s ∨ (∃ ρ, o = .nx ρ ∧ s = .dat .non)) ∧ ∃ s2 m2, trim m.length (.ok s) m' = some (.ok s2, m2) ∧ G s2 m2) :
    ∃ s m', runF gg n ss m = some (.ok s, m') ∧ G s m' := by
  obtain ⟨o, m', e, s, ho, s2, m2, e2, q⟩ := h
  refine ⟨s2, m2, ?_, q⟩
  unfold runF
  rw [e]
  rcases ho with rfl | ⟨ρ, rfl, rfl⟩
  · exact e2
  · exact e2
end
end Pu
namespace Pu
open PySem PySem.Spec PyProof.Rows L2
open LamX (Tabs)
def oRev : D → Option D
  | .lst xs => some (.lst xs.reverse)
  | _ => none
def rRev (K : PySem.W.Frag) : V → Hp → VK → Prop := fun x H Q => ∃ a xs, x = .ref a ∧ SqL K H a xs ∧ ∀ p, H p = none → Q (.ref p) (upd H p (.lst xs.reverse))
theorem ud_rev {K : PySem.W.Frag} : UnD K (rRev K) oRev := by
  intro H0 H x d c Q s hx ho k
  unfold oRev at ho
  split at ho
  · cases ho
    obtain ⟨a, vs, rfl, h1, t1⟩ := hx.lstI s
    refine ⟨a, vs, rfl, SqL.of h1, fun p hp => ?_⟩
    have nw := Nw.alloc s (o := .lst vs.reverse) hp
    exact k _ _ _ nw (.lst upd_same (t1.rev.same nw.s0))
  · cases ho
section
variable {X : Cx} {T : List (Addr × Str)} {E : XK} {a : Expr} {f : Rho → Mem → Re Sl} {k : Nat} {p1 p2 p3 pos : Pos}
theorem px_rev (h : PX X T E a f) : PX X T E (.Subscript a (.Slice none none (some (.UnaryOp .USub (.Constant (.int 1) k p1) p2)) p3) pos) (bindD f fun s _ m => f1 oRev s m) := by
  obtain ⟨t, p, s⟩ := h
  exact ⟨_, pe_revL p, s.bind (u := fun x _ H1 Q => rRev X.K x H1 Q) fun H0 H am x s q => ud_rev.at q⟩
end
/-! xs[i] = v, xs a list of the store -/
def oLput (s kd v : Sl) (m : Mem) : Option Mem := match s, kd with
  | .opq i, .dat (.int k) => match m[i]? with
    | some (.lst xs) => (ixN xs.length k).map fun j => m.set i (.lst (xs.set j v))
    | _ => none
  | _, _ => none
theorem paired_set {α β : Type} {F : α → β → Prop} {x : α} {y : β} (h : F x y) : ∀ {xs : List α} {ys : List β} (j : Nat), Paired F xs ys → Paired F (xs.set j x) (ys.set j y)
  | _, _, _, .nil => .nil
  | _, _, 0, .cons _ t => .cons h t
  | _, _, j + 1, .cons r t => .cons r (paired_set h j t)
theorem lput_ok {K : PySem.W.Frag} {T : List (Addr × Str)} {H0 H : Hp} {am : List Addr} {m m' : Mem} {x y v : V} {s kd w : Sl} {Q : Hp → Prop} (mo : MOk K T H0 am H m) (q : IsS K H0 am x s) (q2 : IsS K H0 am y kd) (q3 : IsS K H0 am v w) (e : oLput s kd w m = some m')
    (k : ∀ H', Ex H0 H H0 H' am am → MOk K T H0 am H' m' → Q H') : rSetL x y v H Q := by
  unfold oLput at e
  split at e
  · rename_i i z
    split at e
    · rename_i xs hm
      cases hj : ixN xs.length z with
      | none => rw [hj] at e; cases e
      | some j =>
        rw [hj] at e
        cases e
        cases q with
        | opq q =>
          rename_i l
          obtain ⟨l2, e1, ⟨u, e0, e3, vs, rfl, t⟩ | ⟨_, z2, _⟩⟩ := mo.is i _ hm
          · rw [q] at e1
            cases e1
            cases q2 with
            | dat q2 =>
              cases q2
              obtain ⟨ex, mo'⟩ := mo.put (u := .lst vs) (u' := .lst (vs.set j v)) (o' := .lst xs) (o := .lst (xs.set j w)) q e0 e3 ⟨vs, rfl, t⟩ ⟨_, rfl, paired_set q3 j t⟩
              exact ⟨_, vs, _, j, rfl, rfl, e3, by rw [prd_len t]; exact hj, k _ ex mo'⟩
          · cases z2
    · cases e
  · cases e
def gmSubL (fd fk : Rho → Mem → Re Sl) : Sl → Rho → Mem → Option (Rho × Mem) := fun v ρ m => match fd ρ m with
  | some (.ok s, m1) => match fk ρ m1 with
    | some (.ok k, m2) => (oLput s k v m2).map fun m3 => (ρ, m3)
    | _ => none
  | _ => none
section
variable {X : Cx} {T : List (Addr × Str)} {E : XK} {pos : Pos}
theorem pgm_subL {o i : Expr} {fd fk : Rho → Mem → Re Sl} (ho : PX X T E o fd) (hi : PX X T E i fk)
    (ha : ∀ v, assign (.Subscript o i pos) X.env v = (do
      let ov ← holding [v] (eval o X.env)
      let iv ← holding [v, ov] (eval i X.env)
      standAt pos
      holding [v, ov, iv] (setItem ov iv v)
      release [v, ov, iv] []) := by intro _; rfl) : PGM X T (.Subscript o i pos) (gmSubL fd fk) := by
  obtain ⟨t1, p1, s1⟩ := ho
  obtain ⟨t2, p2, s2⟩ := hi
  refine ⟨_, pg_sub p1 p2 set_list ha, fun H0 am H ρ ρ' m m' σ v w Q mo eo q e k => ?_⟩
  unfold gmSubL at e
  cases h1 : fd ρ m with
  | none => rw [h1] at e; cases e
  | some z =>
    obtain ⟨z, m1⟩ := z
    rw [h1] at e
    cases z with
    | error r => cases e
    | ok s =>
      dsimp only at e
      refine s1 H0 am H ρ m σ (.ok s) _ _ mo eo h1 fun x H1 H' am' ex mo1 qx => ?_
      cases h2 : fk ρ m1 with
      | none => rw [h2] at e; cases e
      | some z =>
        obtain ⟨z, m2⟩ := z
        rw [h2] at e
        cases z with
        | error r => cases e
        | ok kd =>
          dsimp only at e
          refine s2 H1 am' H' ρ m1 σ (.ok kd) _ _ mo1 (eo.ex ex) h2 fun y H2 H'' am2 ex2 mo2 qy => ?_
          cases h3 : oLput s kd w m2 with
          | none => rw [h3] at e; cases e
          | some m3 =>
            rw [h3] at e
            cases e
            exact lput_ok mo2 (qx.ex ex2) qy ((q.ex ex).ex ex2) h3 fun H4 ex3 mo3 => k _ _ _ _ (ex.trans (ex2.trans ex3)) mo3 (((eo.ex ex).ex ex2).ex ex3)
end
/-! list(xs), a list of the store -/
def elemsM (m : Mem) (s : Sl) : Option (List D) := match vw m s with
  | some (.lst xs) => some xs
  | some (.tup xs) => some xs
  | _ => none
def fListM (fa : Rho → Mem → Re (List Sl)) : Rho → Mem → Re Sl := bindD fa fun ss _ m => match ss with
  | [s] => match elemsM m s with
    | some xs => some (.ok (.opq m.length), m ++ [.lst (xs.map Sl.dat)])
    | none => none
  | _ => none
theorem px_listM {X : Cx} {T : List (Addr × Str)} {E : XK} {e : Expr} {p pos : Pos} {fa : Rho → Mem → Re (List Sl)} (hg : Gl X "list") (hm : X.mg "list" = none) (hv : bootBuiltins "list" = some (.type "list")) (ha : PAX X T E [e] fa)
    (he : starEach [e] X.env = (false, eval e X.env) :: starEach [] X.env := by rfl) (hpl : (backTo pos (starEach [] X.env)).any (·.1) = false := by rfl) : PX X T E (.Call (.Name "list" p) [e] [] pos) (fListM fa) := by
  obtain ⟨⟨t, pa, s⟩, _⟩ := ha
  refine ⟨_, pe_callTy call_list_of hg hm hv pa (by decide) (by decide) he hpl, s.bind (u := fun vs _ H1 Q => rListU X.K vs H1 Q) fun H0 H am vs ss q ρ m σ r m' Q mo eo e gl => ?_⟩
  try dsimp only at e
  split at e
  · rename_i s0
    split at e
    · rename_i xs hx
      cases e
      cases q with
      | cons q1 q2 =>
        cases q2
        unfold elemsM at hx
        have go : ∀ {a : Addr} {us : List V}, IsAll X.K H0 us xs → ∀ l, H l = none → Q (.ref l) (upd H l (.lst us)) := fun {a us} t l hl => by
          obtain ⟨ex, mo'⟩ := mo.push (u := .lst us) (o := .lst (xs.map Sl.dat)) hl ⟨us, rfl, IsAll.sl t⟩
          exact gl _ _ _ _ ex mo' (.opq (by rw [← mo.len]; simp))
        split at hx
        · rename_i ys hv2
          cases hx
          obtain ⟨a, us, rfl, h1, t1⟩ := (vw_ok mo q1 hv2).lstI mo.sub
          exact ⟨a, us, rfl, .inl (SqL.of h1), go (a := a) t1⟩
        · rename_i ys hv2
          cases hx
          obtain ⟨a, us, rfl, h1, t1⟩ := (vw_ok mo q1 hv2).tupI mo.sub
          exact ⟨a, us, rfl, .inr h1.sq, go (a := a) t1⟩
        · cases hx
    · cases e
  · cases e
end Pu
namespace Pu
open PySem PySem.Spec PyProof.Rows L2
open LamX (Tabs)
/-! a comprehension whose list is of the store -/
def fLcM (g : Sl → Rho → Option Rho) (p : Rho → Mem → Re Bool) (f : Rho → Mem → Re Sl) (ρ : Rho) : List D → Mem → Option (List Sl × Mem)
  | [], m => some ([], m)
  | d :: ds, m => match g (.dat d) ρ with
    | none => none
    | some ρ1 => match p ρ1 m with
      | some (.ok true, m1) => match f ρ1 m1 with
        | some (.ok x, m2) => match fLcM g p f ρ ds m2 with
          | some (xs, m3) => some (x :: xs, m3)
          | none => none
        | _ => none
      | some (.ok false, m1) => fLcM g p f ρ ds m1
      | _ => none
/-- one turn and the rest of a comprehension over data -/
theorem lcM_sound {K : PySem.W.Frag} {T : List (Addr × Str)} {J : It} {ds : List D} {H0 H : Hp} {am : List Addr} {g : Sl → Rho → Option Rho} {p : Rho → Mem → Re Bool} {f : Rho → Mem → Re Sl} {vs sl : List Nat} {ρ : Rho} {σ : L2.St} {m m' : Mem} {xs : List Sl} {D : Addr} {Qd : Hp → Prop}
    (wk : Wk K H0 am J ds) (mo : MOk K T H0 am H m) (eo : EnvOk K H0 am ρ σ) (hsl : ∀ i ∈ sl, i ∈ vs) (hz : ds.length < sizeLine) (e : fLcM g p f (wipeR ρ vs) ds m = some (xs, m')) (hD : H D = none)
    (fin : ∀ H0' H' am', Ex H0 H H0' H' am am' → MOk K T H0' am' H' m' → D ∉ am' → H0' D = none → (∃ ws, H' D = some (.lst ws) ∧ Paired (IsS K H0' am') ws xs) → Qd H') :
    ∃ W : Nat → Nat → Hp → Prop, (∃ m, W 0 m (upd H D (.lst []))) ∧ ∀ i m H, W i m H →
      (J.stop i H ∧ Qd H) ∨ (J.go i H ∧ ∃ Nx : Hp → Prop, (∀ H', Nx H' → ∃ m', m' < m ∧ W (i + 1) m' H') ∧ ∀ x H', J.yld i H x H' → tOfG K sl g x (wipe σ vs) H' fun σ2 H2 => wipe σ2 vs = wipe σ vs ∧ tOf K T E0 IsT p σ2 H2 fun b H3 =>
        if b = true then tOf K T E0 (IsS K) f σ2 H3 fun y H4 => ∃ acc, H4 D = some (.lst acc) ∧ acc.length < sizeLine ∧ Nx (upd H4 D (.lst (acc ++ [y]))) else Nx H3) := by
  have nD : D ∉ am := fun z => mo.tr D z (Fre.none hD)
  have h0D : H0 D = none := mo.sub.free hD
  refine lc_it wk (fun i H' => ∃ H0' am' mm acc ws rs, Ex H0 H H0' H' am am' ∧ MOk K T H0' am' H' mm ∧ D ∉ am' ∧ H0' D = none ∧ H' D = some (.lst ws) ∧ Paired (IsS K H0' am') ws acc ∧ ws.length ≤ i ∧ fLcM g p f (wipeR ρ vs) (ds.drop i) mm = some (rs, m') ∧ acc ++ rs = xs) ?_ ?_ ?_ ?_
  · refine ⟨H0, am, m, [], [], xs, ⟨.refl _, ⟨[], by simp, by simp⟩, fun a o h _ n => by rw [upd_ne (ne_of_none h hD)]; exact h, fun a h => fre_upd (u := .lst []) (fun _ z => nomatch z) h (Fre.none hD), fun _ _ h _ => h⟩, mo.beside nD h0D (.inl hD), nD, h0D, upd_same, .nil, Nat.zero_le _, e, rfl⟩
  · rintro i H' _ ⟨H0', am', mm, acc, ws, rs, ex, mo', _⟩
    exact ex.s0.trans mo'.sub
  · rintro i x H' H'' hi ⟨H0', am', mm, acc, ws, rs, ex, mo', hDa, hD0, hDl, hacc, hwl, e', eq⟩ hy
    obtain ⟨H1, d, nw, hd, q⟩ := hy H0' ex.s0 mo'.sub
    have hdrop : ds.drop i = d :: ds.drop (i + 1) := by
      rw [List.drop_eq_getElem_cons hi]
      congr 1
      rw [List.getElem?_eq_getElem hi] at hd
      exact Option.some.inj hd
    rw [hdrop] at e'
    simp only [fLcM] at e'
    cases hg : g (.dat d) (wipeR ρ vs) with
    | none => rw [hg] at e'; cases e'
    | some ρ1 =>
      rw [hg] at e'
      dsimp only at e'
      have mo1 := mo'.nw nw
      have ex1 : Ex H0 H H1 H'' am am' := ex.trans nw.ex
      have hD1 : H1 D = none := nw.new D hD0 (by rw [hDl]; exact fun z => nomatch z)
      have hDl1 : H'' D = some (.lst ws) := nw.s _ _ hDl
      refine ⟨H1, am', wipeR ρ vs, ρ1, .dat d, mo1.sub, (eo.ex ex1).wipe vs, .dat q, hg, fun σ2 eo2 hw => ⟨by rw [hw vs hsl, wipe_wipe], ?_⟩⟩
      -- what holds behind the test and the element
      have stay : ∀ {H0a Ha H0b Hb : Hp} {ama amb : List Addr}, Ex H0a Ha H0b Hb ama amb → D ∉ ama → H0a D = none → Ha D = some (.lst ws) → D ∉ amb ∧ H0b D = none ∧ Hb D = some (.lst ws) := fun {H0a Ha H0b Hb ama amb} exx h1 h2 h3 => by
        refine ⟨?_, exx.nw D h1 h2 ⟨HO.lst ws, h3, ⟨(fun _ z => nomatch z), (fun _ z => nomatch z), (fun _ _ _ z => nomatch z)⟩⟩, exx.fr D _ h3 (fun _ z => nomatch z) h1⟩
        obtain ⟨r, e1, h4⟩ := exx.pre
        rw [e1, List.mem_append]
        rintro (z | z)
        · exact h1 z
        · exact not_fre h3 (fun _ z => nomatch z) (h4 D z)
      cases hp : p ρ1 mm with
      | none => rw [hp] at e'; cases e'
      | some z =>
        obtain ⟨z, m1⟩ := z
        rw [hp] at e'
        cases z with
        | error w => cases e'
        | ok b =>
          refine ⟨ρ1, mm, H1, am', .ok b, m1, mo1, eo2, hp, fun b2 H2 H3 am2 ex2 mo2 z => ?_⟩
          cases z
          obtain ⟨hDa2, hD02, hDl2⟩ := stay ex2 hDa hD1 hDl1
          cases b with
          | false => exact iteF ⟨H2, am2, m1, acc, ws, rs, ex1.trans ex2, mo2, hDa2, hD02, hDl2, PS.ex (PS.ex hacc nw.ex) ex2, by omega, e', eq⟩
          | true =>
            refine iteT ?_
            dsimp only at e'
            cases hf : f ρ1 m1 with
            | none => rw [hf] at e'; cases e'
            | some z =>
              obtain ⟨z, m2⟩ := z
              rw [hf] at e'
              cases z with
              | error w => cases e'
              | ok s =>
                dsimp only at e'
                cases hr : fLcM g p f (wipeR ρ vs) (ds.drop (i + 1)) m2 with
                | none => rw [hr] at e'; cases e'
                | some z =>
                  obtain ⟨rs2, m3⟩ := z
                  rw [hr] at e'
                  cases e'
                  refine ⟨ρ1, m1, H2, am2, .ok s, m2, mo2, eo2.ex ex2, hf, fun y H4 H5 am3 ex3 mo3 qy => ?_⟩
                  obtain ⟨hDa3, hD03, hDl3⟩ := stay ex3 hDa2 hD02 hDl2
                  refine ⟨ws, hDl3, by omega, H4, am3, m2, acc ++ [s], ws ++ [y], rs2, ?_, mo3.beside hDa3 hD03 (.inr ⟨_, hDl3⟩), hDa3, hD03, upd_same, Paired.snoc qy (PS.ex (PS.ex (PS.ex hacc nw.ex) ex2) ex3), by rw [List.length_append]; simpa using hwl, hr, by rw [← eq]; simp⟩
                  have exx := ex1.trans (ex2.trans ex3)
                  refine ⟨exx.s0, exx.pre, fun a o h t n => ?_, fun a h => ?_, exx.nw⟩
                  · rw [upd_ne (ne_of_none h hD)]
                    exact exx.fr a o h t n
                  · by_cases c : a = D
                    · rw [c]; exact Fre.none hD
                    · exact exx.kp a (fun o e => h o (by rw [upd_ne c]; exact e))
  · rintro H' ⟨H0', am', mm, acc, ws, rs, ex, mo', hDa, hD0, hDl, hacc, hwl, e', eq⟩
    rw [List.drop_length] at e'
    cases e'
    rw [List.append_nil] at eq
    subst eq
    exact fin H0' H' am' ex mo' hDa hD0 ⟨ws, hDl, hacc⟩

theorem MOk.adopt {K : PySem.W.Frag} {T : List (Addr × Str)} {H0 H : Hp} {am : List Addr} {m : Mem} (mo : MOk K T H0 am H m) {p : Addr} {u : HO} {o : MO} (hp : p ∉ am) (h0 : H0 p = none) (hu : H p = some u) (q : MIs K H0 am u o) : MOk K T H0 (am ++ [p]) H (m ++ [o]) := by
  have up : ∀ {v : HO} {w : MO}, MIs K H0 am v w → MIs K H0 (am ++ [p]) v w := fun {v w} z => by
    cases w with
    | lst xs =>
      obtain ⟨vs, e, t⟩ := z
      exact ⟨vs, e, L2.Paired.mapP t fun _ _ r => by
        cases r with
        | dat r => exact .dat r
        | opq r => exact .opq (by rw [List.getElem?_append_left (List.getElem?_eq_some_iff.mp r).1]; exact r)⟩
    | dic ds => exact z
    | ins C gs => exact z
    | fz d => exact z.elim
  refine ⟨by rw [List.length_append, List.length_append, mo.len]; rfl, ?_, fun i w h => ?_, mo.sub, fun a h z => ?_, mo.nt, mo.tb⟩
  · rw [List.nodup_append]
    exact ⟨mo.nd, by simp, fun a ha b hb => by rw [List.mem_singleton.mp hb]; rintro rfl; exact hp ha⟩
  · by_cases c : i < m.length
    · rw [List.getElem?_append_left c] at h
      obtain ⟨a, e1, z⟩ := mo.is i w h
      refine ⟨a, by rw [List.getElem?_append_left (List.getElem?_eq_some_iff.mp e1).1]; exact e1, ?_⟩
      rcases z with ⟨v, e2, e3, z⟩ | z
      · exact .inl ⟨v, e2, e3, up z⟩
      · exact .inr z
    · rw [List.getElem?_append_right (by omega)] at h
      have c2 : i - m.length = 0 := by
        have := (List.getElem?_eq_some_iff.mp h).1
        simp at this
        omega
      rw [c2] at h
      cases h
      refine ⟨p, ?_, .inl ⟨u, h0, hu, up q⟩⟩
      rw [List.getElem?_append_right (by rw [mo.len]; omega), mo.len, c2]
      rfl
  · rcases List.mem_append.mp h with h | h
    · exact mo.tr a h z
    · rw [List.mem_singleton.mp h] at z
      exact not_fre hu q.ntb z
def fLcDM (g : Sl → Rho → Option Rho) (p : Rho → Mem → Re Bool) (f : Rho → Mem → Re Sl) (vs : List Nat) (ds : List D) : Rho → Mem → Re Sl := fun ρ m => if ds.length < sizeLine then match fLcM g p f (wipeR ρ vs) ds m with
  | some (xs, m') => some (.ok (.opq m'.length), m' ++ [.lst xs])
  | none => none
  else none
def fLcEM (it : Rho → Mem → Re (List D)) (g : Sl → Rho → Option Rho) (p : Rho → Mem → Re Bool) (f : Rho → Mem → Re Sl) (vs : List Nat) : Rho → Mem → Re Sl := bindD it fun ds => fLcDM g p f vs ds
section
variable {X : Cx} {T : List (Addr × Str)} {E : XK} {tg iter elt : Expr} {ifs : List Expr} {pos : Pos}
theorem sd_lcM {K : PySem.W.Frag} {T : List (Addr × Str)} {E : XK} {wi : TI} {it : Rho → Mem → Re (List D)} {g : Sl → Rho → Option Rho} {p : Rho → Mem → Re Bool} {f : Rho → Mem → Re Sl} {vs sl : List Nat} (s1 : Sd K T E (Wk K) wi it) (hsl : ∀ i ∈ sl, i ∈ vs) :
    Sd K T E (IsS K) (tLc wi (tOfG K sl g) (tOf K T E0 IsT p) (tOf K T E0 (IsS K) f) vs) (fLcEM it g p f vs) := by
  refine s1.bind (R2 := IsS K) (u := fun (J : It) σ H1 (Q : VK) => ∀ D, H1 D = none → ∃ W : Nat → Nat → Hp → Prop, (∃ m, W 0 m (upd H1 D (.lst []))) ∧ ∀ i m H, W i m H →
      (J.stop i H ∧ Q (V.ref D) H) ∨ (J.go i H ∧ ∃ Nx : Hp → Prop, (∀ H', Nx H' → ∃ m', m' < m ∧ W (i + 1) m' H') ∧ ∀ x H', J.yld i H x H' → tOfG K sl g x (wipe σ vs) H' fun σ2 H2 => wipe σ2 vs = wipe σ vs ∧ tOf K T E0 IsT p σ2 H2 fun b H3 =>
        if b = true then tOf K T E0 (IsS K) f σ2 H3 fun y H4 => ∃ acc, H4 D = some (.lst acc) ∧ acc.length < sizeLine ∧ Nx (upd H4 D (.lst (acc ++ [y]))) else Nx H3))
    (g := fLcDM g p f vs) fun H0 H am J ds wk ρ m σ r m' Q mo eo e gl => ?_
  intro D hD
  unfold fLcDM at e
  split at e
  · rename_i hz
    cases hr : fLcM g p f (wipeR ρ vs) ds m with
    | none => rw [hr] at e; cases e
    | some z =>
      obtain ⟨xs, m1⟩ := z
      rw [hr] at e
      cases e
      exact lcM_sound wk mo eo hsl hz hr hD fun H0' H' am' ex mo' hDa hD0 ⟨ws, hDl, hacc⟩ => by
        refine gl (.ref D) H0' H' (am' ++ [D]) ⟨ex.s0, ?_, ex.fr, ex.kp, ex.nw⟩ (mo'.adopt hDa hD0 hDl ⟨ws, rfl, hacc⟩) (.opq (by rw [← mo'.len]; simp))
        obtain ⟨rr, e1, h1⟩ := ex.pre
        refine ⟨rr ++ [D], by rw [e1, List.append_assoc], fun a ha => ?_⟩
        rcases List.mem_append.mp ha with h | h
        · exact h1 a h
        · rw [List.mem_singleton.mp h]; exact Fre.none hD
  · cases e
theorem px_lcM {scope : Scope} {own : List (Str × Nat)} {it : Rho → Mem → Re (List D)} {g : Sl → Rho → Option Rho} {p : Rho → Mem → Re Bool} {f : Rho → Mem → Re Sl} {sl : List Nat} (hc : X.calm = true) (hN : X.N.Nodup) (hi : PIX X T E tg iter it) (ok : BlkOk X.N X.env.scope scope own)
    (hg : ∀ (s : Shared) (H : Hp) (C : Addr) (cl : List (Str × Addr)) (fp : List Addr), PGX (X.blk s H scope (compEnvC scope cl C X.env) fp) tg sl g) (hsl : ∀ i ∈ sl, i ∈ own.map (·.2))
    (ht : ∀ (s : Shared) (H : Hp) (C : Addr) (cl : List (Str × Addr)) (fp : List Addr), PTsX (X.blk s H scope (compEnvC scope cl C X.env) fp) T ifs p)
    (he : ∀ (s : Shared) (H : Hp) (C : Addr) (cl : List (Str × Addr)) (fp : List Addr), PX (X.blk s H scope (compEnvC scope cl C X.env) fp) T E0 elt f) (hs : ∀ x, foldedSetIterable iter X.env x = pure x := by intro _; rfl) :
    PX X T E (.ListComp elt [⟨tg, iter, ifs, 0⟩] scope pos) (fLcEM it g p f (own.map (·.2))) := by
  obtain ⟨wi, p1, s1⟩ := hi
  refine ⟨_, pe_lc (g := tOfG X.K sl g) (tt := tOf X.K T E0 IsT p) (te := tOf X.K T E0 (IsS X.K) f) hc hN p1 ok (fun s H C cl fp => (hg s H C cl fp).can) (fun s H C cl fp => (ht s H C cl fp).ex) (fun s H C cl fp => (he s H C cl fp).can) hs, ?_⟩
  exact sd_lcM s1 hsl
theorem psx_setLcM {i : Nat} {y : Str} {py : Pos} {spos : Pos} {scope : Scope} {own : List (Str × Nat)} {it : Rho → Mem → Re (List D)} {g : Sl → Rho → Option Rho} {p : Rho → Mem → Re Bool} {f : Rho → Mem → Re Sl} {sl : List Nat} (hc : X.calm = true) (hN : X.N.Nodup) (hy : X.N[i]? = some y) (hyl : X.env.scope.names.lookup y = some .local)
    (hsw : swapsWith (.ListComp elt [⟨tg, iter, ifs, 0⟩] scope pos) (some (.Name y py)) spos.line X.env = pure true) (hi : PIX X T E tg iter it) (ok : BlkOk X.N X.env.scope scope own)
    (hg : ∀ (s : Shared) (H : Hp) (C : Addr) (cl : List (Str × Addr)) (fp : List Addr), PGX (X.blk s H scope (compEnvC scope cl C X.env) fp) tg sl g) (hsl : ∀ i ∈ sl, i ∈ own.map (·.2))
    (ht : ∀ (s : Shared) (H : Hp) (C : Addr) (cl : List (Str × Addr)) (fp : List Addr), PTsX (X.blk s H scope (compEnvC scope cl C X.env) fp) T ifs p)
    (he : ∀ (s : Shared) (H : Hp) (C : Addr) (cl : List (Str × Addr)) (fp : List Addr), PX (X.blk s H scope (compEnvC scope cl C X.env) fp) T E0 elt f) (hs : ∀ x, foldedSetIterable iter X.env x = pure x := by intro _; rfl) :
    PSX X T E (.Assign [.Name y py] (.ListComp elt [⟨tg, iter, ifs, 0⟩] scope pos) spos) (fSet i (fLcEM it g p f (own.map (·.2)))) := by
  obtain ⟨wi, p1, s1⟩ := hi
  refine ⟨_, ps_setLc (g := tOfG X.K sl g) (tt := tOf X.K T E0 IsT p) (te := tOf X.K T E0 (IsS X.K) f) hc hN hy hyl hsw p1 ok (fun s H C cl fp => (hg s H C cl fp).can) (fun s H C cl fp => (ht s H C cl fp).ex) (fun s H C cl fp => (he s H C cl fp).can) hs, ?_⟩
  exact (sd_lcM s1 hsl).toS (u := fun v D σ H => D.nx (σ.set i (some v)) H) (g := fun s ρ m' => some (.nx (ρ.set i (some s)), m')) fun H0 H am x a q ρ m σ o m' D mo eo e gl => by
    cases e
    exact gl _ H0 H am Ex.refl mo (eo.set q)
end
/-! xs[i], xs a list of the store: what stands there may be of the store, too -/
def oIxM (s t : Sl) (m : Mem) : Re Sl := match s, t with
  | .opq i, .dat (.int k) => match m[i]? with
    | some (.lst xs) => match L2.atI xs k with
      | some x => some (.ok x, m)
      | none => none
    | _ => none
  | _, _ => none
theorem paired_atI {α β : Type} {F : α → β → Prop} {xs : List α} {ys : List β} (h : Paired F xs ys) {i : Int} {y : β} (e : L2.atI ys i = some y) : ∃ x, L2.atI xs i = some x ∧ F x y := by
  have key : ∀ {xs : List α} {ys : List β} {j : Nat} {y : β}, Paired F xs ys → ys[j]? = some y → ∃ x, xs[j]? = some x ∧ F x y := by
    intro xs ys j y h
    induction h generalizing j with
    | nil => intro e; simp at e
    | cons r t ih =>
      intro e
      cases j with
      | zero => simp at e; subst e; exact ⟨_, rfl, r⟩
      | succ j => simp only [List.getElem?_cons_succ] at e ⊢; exact ih e
  unfold L2.atI at e ⊢
  rw [prd_len h]
  cases hj : ixN ys.length i with
  | none => rw [hj] at e; cases e
  | some j => rw [hj] at e; exact key h e
theorem px_ixM {X : Cx} {T : List (Addr × Str)} {E : XK} {a b : Expr} {f g : Rho → Mem → Re Sl} {pos : Pos} (ha : PX X T E a f) (hb : PX X T E b g) (hs : PlainIx b := by exact fun _ _ => rfl) : PX X T E (.Subscript a b pos) (bindD f fun s => bindD g fun t _ m => oIxM s t m) := by
  obtain ⟨ta, pa, sa⟩ := ha
  obtain ⟨tb, pb, sb⟩ := hb
  refine ⟨_, pe_ix ix_list pa pb hs, sa.bind fun H0 H am x s q => (sb H0 am H).bind fun H1 H' am' y t ex q2 ρ m σ r m' Q mo eo e gl => ?_⟩
  unfold oIxM at e
  split at e
  · rename_i i k
    split at e
    · rename_i xs hm
      split at e
      · rename_i z hz
        cases e
        have q' := q.ex ex
        cases q' with
        | opq q' =>
          rename_i l
          obtain ⟨l2, e1, ⟨u, e0, e3, vs, rfl, t2⟩ | ⟨_, z2, _⟩⟩ := mo.is i _ hm
          · rw [q'] at e1
            cases e1
            cases q2 with
            | dat q2 =>
              cases q2
              obtain ⟨v, hv, qv⟩ := paired_atI t2 hz
              exact ⟨_, vs, k, v, rfl, rfl, SqL.of e3, hv, gl v H1 H' am' Ex.refl mo qv⟩
          · cases z2
      · cases e
    · cases e
  · cases e
end Pu
/-! Rows by stretches: the mathematics, in plain Lean. -/
namespace RwM
abbrev PS := List (List Int × Int)
/-- a word written t times -/
def rep (w : List Int) (t : Int) : List Int := (List.replicate t.toNat w).flatten
def flat (ps : PS) : List Int := ps.flatMap fun p => rep p.1 p.2
theorem repN_length (w : List Int) : ∀ n : Nat, (List.replicate n w).flatten.length = n * w.length
  | 0 => by simp
  | n + 1 => by rw [List.replicate_succ, List.flatten_cons, List.length_append, repN_length w n, Nat.succ_mul, Nat.add_comm]
theorem rep_length (w : List Int) (t : Int) : (rep w t).length = t.toNat * w.length := repN_length w _
theorem rep_zero (w : List Int) {t : Int} (h : t ≤ 0) : rep w t = [] := by
  have e : t.toNat = 0 := by omega
  unfold rep
  rw [e]
  rfl
theorem rep_nil (t : Int) : rep [] t = [] := by
  apply List.eq_nil_of_length_eq_zero
  rw [rep_length]
  simp
theorem repN_add (w : List Int) (m n : Nat) : (List.replicate (m + n) w).flatten = (List.replicate m w).flatten ++ (List.replicate n w).flatten := by
  rw [← List.replicate_append_replicate, List.flatten_append]
theorem rep_add (w : List Int) {s t : Int} (hs : 0 ≤ s) (ht : 0 ≤ t) : rep w (s + t) = rep w s ++ rep w t := by
  unfold rep
  have e : (s + t).toNat = s.toNat + t.toNat := by omega
  rw [e, repN_add]
theorem rep_one (w : List Int) : rep w 1 = w := by
  unfold rep
  simp
theorem flat_nil : flat [] = [] := rfl
theorem flat_cons (p : List Int × Int) (ps : PS) : flat (p :: ps) = rep p.1 p.2 ++ flat ps := by
  unfold flat
  rw [List.flatMap_cons]
theorem flat_append (ps qs : PS) : flat (ps ++ qs) = flat ps ++ flat qs := by
  unfold flat
  rw [List.flatMap_append]
theorem flat_one (p : List Int × Int) : flat [p] = rep p.1 p.2 := by
  rw [flat_cons, flat_nil, List.append_nil]
/-- a number of a word written again and again -/
theorem repN_get (w : List Int) : ∀ (n i : Nat), i < n * w.length → (List.replicate n w).flatten[i]? = w[i % w.length]?
  | 0, i, h => by simp at h
  | n + 1, i, h => by
    rw [List.replicate_succ, List.flatten_cons]
    by_cases c : i < w.length
    · rw [List.getElem?_append_left c, Nat.mod_eq_of_lt c]
    · have c2 : w.length ≤ i := Nat.le_of_not_lt c
      rw [List.getElem?_append_right c2, repN_get w n (i - w.length) (by rw [Nat.succ_mul] at h; omega)]
      rw [Nat.mod_eq_sub_mod c2]
theorem rep_get (w : List Int) (t : Int) (i : Nat) (h : i < t.toNat * w.length) : (rep w t)[i]? = w[i % w.length]? := repN_get w _ i h
theorem takeApp {A B : List Int} {m r : Nat} (h : m = A.length + r) : (A ++ B).take m = A ++ B.take r := by
  subst h
  rw [List.take_append, List.take_of_length_le (Nat.le_add_right _ _), Nat.add_sub_cancel_left]
theorem dropApp {A B : List Int} {m r : Nat} (h : m = A.length + r) : (A ++ B).drop m = B.drop r := by
  subst h
  rw [List.drop_append, List.drop_of_length_le (Nat.le_add_right _ _), List.nil_append, Nat.add_sub_cancel_left]
/-- the first numbers of a repeated word -/
theorem rep_take (w : List Int) (t : Int) (m : Nat) (hw : 0 < w.length) (h : m < t.toNat * w.length) : (rep w t).take m = rep w ((m / w.length : Nat) : Int) ++ rep (w.take (m % w.length)) 1 := by
  rw [rep_one]
  have hq : m / w.length < t.toNat := Nat.div_lt_of_lt_mul (by rw [Nat.mul_comm]; exact h)
  have e : t.toNat = m / w.length + (t.toNat - m / w.length) := by omega
  have e2 : rep w t = rep w ((m / w.length : Nat) : Int) ++ (List.replicate (t.toNat - m / w.length) w).flatten := by
    unfold rep
    rw [Int.toNat_natCast, ← repN_add, ← e]
  have l : (rep w ((m / w.length : Nat) : Int)).length = m / w.length * w.length := by rw [rep_length, Int.toNat_natCast]
  have dm := Nat.div_add_mod m w.length
  have hm : m = (rep w ((m / w.length : Nat) : Int)).length + m % w.length := by rw [l, Nat.mul_comm]; omega
  have e3 : t.toNat - m / w.length = (t.toNat - m / w.length - 1) + 1 := by omega
  rw [e2, takeApp hm, e3, List.replicate_succ, List.flatten_cons]
  rw [List.take_append_of_le_length (Nat.le_of_lt (Nat.mod_lt _ hw))]
/-- the numbers behind the first ones -/
theorem rep_drop (w : List Int) (t : Int) (m : Nat) (hw : 0 < w.length) (h : m < t.toNat * w.length) :
    (rep w t).drop m = (if m % w.length = 0 then [] else w.drop (m % w.length)) ++ rep w (t - (((m + w.length - 1) / w.length : Nat) : Int)) := by
  have hq : m / w.length < t.toNat := Nat.div_lt_of_lt_mul (by rw [Nat.mul_comm]; exact h)
  have e : t.toNat = m / w.length + (t.toNat - m / w.length) := by omega
  have e2 : rep w t = rep w ((m / w.length : Nat) : Int) ++ (List.replicate (t.toNat - m / w.length) w).flatten := by
    unfold rep
    rw [Int.toNat_natCast, ← repN_add, ← e]
  have l : (rep w ((m / w.length : Nat) : Int)).length = m / w.length * w.length := by rw [rep_length, Int.toNat_natCast]
  have dm := Nat.div_add_mod m w.length
  have hm : m = (rep w ((m / w.length : Nat) : Int)).length + m % w.length := by rw [l, Nat.mul_comm]; omega
  have hlt := Nat.mod_lt m hw
  rw [e2, dropApp hm]
  have sub : ∀ q : Nat, q < t.toNat → t.toNat - q = (t - (q : Int)).toNat := fun q _ => by omega
  by_cases c : m % w.length = 0
  · rw [if_pos c, c, List.drop_zero, List.nil_append]
    have e4 : (m + w.length - 1) / w.length = m / w.length := by
      have z : m + w.length - 1 = w.length * (m / w.length) + (w.length - 1) := by omega
      rw [z, Nat.mul_add_div hw, Nat.div_eq_of_lt (show w.length - 1 < w.length by omega), Nat.add_zero]
    rw [e4]
    unfold rep
    rw [sub _ hq]
  · rw [if_neg c]
    have e3 : t.toNat - m / w.length = (t.toNat - (m / w.length + 1)) + 1 := by omega
    have e4 : (m + w.length - 1) / w.length = m / w.length + 1 := by
      have z : m + w.length - 1 = w.length * (m / w.length + 1) + (m % w.length - 1) := by
        rw [Nat.mul_add, Nat.mul_one]
        omega
      rw [z, Nat.mul_add_div hw, Nat.div_eq_of_lt (show m % w.length - 1 < w.length by omega), Nat.add_zero]
    rw [e3, List.replicate_succ, List.flatten_cons, List.drop_append_of_le_length (Nat.le_of_lt hlt), e4]
    unfold rep
    have e5 : t.toNat - (m / w.length + 1) = (t - ((m / w.length + 1 : Nat) : Int)).toNat := by
      generalize m / w.length + 1 = q
      omega
    rw [e5]
end RwM
namespace RwM
/-- how many numbers of both are the same, from the first one on -/
def cp : List Int → List Int → Nat
  | a :: as, b :: bs => if a = b then cp as bs + 1 else 0
  | _, _ => 0
theorem cp_nil_left (v : List Int) : cp [] v = 0 := by cases v <;> rfl
theorem cp_nil_right (u : List Int) : cp u [] = 0 := by cases u <;> rfl
theorem cp_cons (a b : Int) (as bs : List Int) : cp (a :: as) (b :: bs) = if a = b then cp as bs + 1 else 0 := rfl
/-- two rows that are the same for k numbers -/
theorem cp_go : ∀ (k : Nat) (u v : List Int), k ≤ u.length → k ≤ v.length → (∀ i, i < k → u[i]? = v[i]?) → cp u v = k + cp (u.drop k) (v.drop k)
  | 0, u, v, _, _, _ => by simp
  | k + 1, [], v, h, _, _ => by simp at h
  | k + 1, a :: as, [], _, h, _ => by simp at h
  | k + 1, a :: as, b :: bs, h1, h2, e => by
    have e0 := e 0 (Nat.succ_pos _)
    simp only [List.getElem?_cons_zero, Option.some.injEq] at e0
    rw [cp_cons, if_pos e0, List.drop_succ_cons, List.drop_succ_cons]
    rw [cp_go k as bs (by simpa using h1) (by simpa using h2) fun i hi => by
      have z := e (i + 1) (by omega)
      simpa using z]
    omega
/-- .. and part there -/
theorem cp_at (k : Nat) (u v : List Int) (x y : Int) (hu : u[k]? = some x) (hv : v[k]? = some y) (hne : x ≠ y) (e : ∀ i, i < k → u[i]? = v[i]?) : cp u v = k := by
  have l1 := (List.getElem?_eq_some_iff.mp hu).1
  have l2 := (List.getElem?_eq_some_iff.mp hv).1
  rw [cp_go k u v (Nat.le_of_lt l1) (Nat.le_of_lt l2) e]
  have d1 : u.drop k = x :: u.drop (k + 1) := by
    rw [List.drop_eq_getElem_cons l1]
    rw [List.getElem?_eq_getElem l1] at hu
    rw [Option.some.inj hu]
  have d2 : v.drop k = y :: v.drop (k + 1) := by
    rw [List.drop_eq_getElem_cons l2]
    rw [List.getElem?_eq_getElem l2] at hv
    rw [Option.some.inj hv]
  rw [d1, d2, cp_cons, if_neg hne]
  rfl
theorem cp_le_left : ∀ u v : List Int, cp u v ≤ u.length
  | [], v => by rw [cp_nil_left]; exact Nat.zero_le _
  | a :: as, [] => by rw [cp_nil_right]; exact Nat.zero_le _
  | a :: as, b :: bs => by
    rw [cp_cons, List.length_cons]
    split
    · have := cp_le_left as bs; omega
    · omega
theorem cp_le_right : ∀ u v : List Int, cp u v ≤ v.length
  | [], v => by rw [cp_nil_left]; exact Nat.zero_le _
  | a :: as, [] => by rw [cp_nil_right]; exact Nat.zero_le _
  | a :: as, b :: bs => by
    rw [cp_cons, List.length_cons]
    split
    · have := cp_le_right as bs; omega
    · omega
theorem cp_same : ∀ (u v : List Int) (i : Nat), i < cp u v → u[i]? = v[i]?
  | [], v, i, h => by rw [cp_nil_left] at h; omega
  | a :: as, [], i, h => by rw [cp_nil_right] at h; omega
  | a :: as, b :: bs, i, h => by
    rw [cp_cons] at h
    split at h
    · rename_i e
      cases i with
      | zero => simp [e]
      | succ i => simpa using cp_same as bs i (by omega)
    · omega
theorem cp_self : ∀ u : List Int, cp u u = u.length
  | [] => rfl
  | a :: as => by rw [cp_cons, if_pos rfl, cp_self as, List.length_cons]
/-- rows as long as what they have in common are the same -/
theorem cp_full {u v : List Int} (h1 : cp u v = u.length) (h2 : u.length = v.length) : u = v := by
  apply List.ext_getElem?
  intro i
  by_cases c : i < cp u v
  · exact cp_same u v i c
  · rw [List.getElem?_eq_none (by omega), List.getElem?_eq_none (by omega)]
/-- two periodic sequences that are alike for as long as both periods together are alike for ever -/
theorem periods (f g : Nat → Int) (p q : Nat) (hp : 0 < p) (hq : 0 < q) (pf : ∀ i, f (i + p) = f i) (pg : ∀ i, g (i + q) = g i) (h : ∀ i, i < p + q → f i = g i) : ∀ i, f i = g i := by
  intro i
  induction i using Nat.strongRecOn with
  | _ i ih =>
    by_cases c : i < p + q
    · exact h i c
    · have e1 : f i = f (i - p) := by
        have z := pf (i - p)
        rwa [show i - p + p = i by omega] at z
      have e2 : g i = g (i - q) := by
        have z := pg (i - q)
        rwa [show i - q + q = i by omega] at z
      have e3 : g (i - p) = g (i - p - q) := by
        have z := pg (i - p - q)
        rwa [show i - p - q + q = i - p by omega] at z
      have e4 : f (i - q) = f (i - p - q) := by
        have z := pf (i - p - q)
        rwa [show i - p - q + p = i - q by omega] at z
      rw [e1, ih (i - p) (by omega), e3, e2, ← ih (i - q) (by omega), e4, ih (i - p - q) (by omega)]
/-- the number with the index i of a word again and again, begun at b -/
def per (w : List Int) (b i : Nat) : Int := w.getD ((b + i) % w.length) 0
theorem per_period (w : List Int) (b i : Nat) : per w b (i + w.length) = per w b i := by
  unfold per
  rw [← Nat.add_assoc, Nat.add_mod_right]
theorem rep_drop_get (w : List Int) (t : Int) (b i : Nat) (hw : 0 < w.length) (h : b + i < t.toNat * w.length) : ((rep w t).drop b)[i]? = some (per w b i) := by
  rw [List.getElem?_drop, rep_get w t (b + i) h]
  unfold per
  have hl : (b + i) % w.length < w.length := Nat.mod_lt _ hw
  rw [List.getElem?_eq_getElem hl]
  congr 1
  rw [List.getD_eq_getElem?_getD, List.getElem?_eq_getElem hl]
  rfl
/-- near numbers that are alike: all are -/
theorem per_all (w o : List Int) (b c span : Nat) (hw : 0 < w.length) (ho : 0 < o.length) (h : ∀ i, i < min span (w.length + o.length) → per w b i = per o c i) : ∀ i, i < span → per w b i = per o c i := by
  intro i hi
  by_cases k : span ≤ w.length + o.length
  · exact h i (by omega)
  · exact periods (per w b) (per o c) w.length o.length hw ho (per_period w b) (per_period o c) (fun j hj => h j (by omega)) i
end RwM
namespace Rw
open PySem PySem.Spec PyProof.Rows L2 RwM
/-- a list or a tuple of these values, tracked -/
def SqA (H : Hp) (a : Addr) (vs : List V) : Prop := H a = some (.lst vs) ∨ H a = some (.tup vs)
theorem SqA.same {H H' : Hp} {a : Addr} {vs : List V} (h : SqA H a vs) (s : ∀ o, H a = some o → H' a = some o) : SqA H' a vs := by
  rcases h with h | h
  · exact .inl (s _ h)
  · exact .inr (s _ h)
/-- v: a pair of a word and a number, as tuples -/
def PairAt (H : Hp) (v : V) (p : List Int × Int) : Prop := ∃ q a : Addr, v = .ref q ∧ H q = some (.tup [.ref a, .int p.2]) ∧ H a = some (.tup (p.1.map V.int))
/-- a row of pairs -/
def Prs (H : Hp) (vs : List V) (ps : PS) : Prop := Paired (PairAt H) vs ps
/-- only what is a list at k may change -/
def But (k : Addr) (H H' : Hp) : Prop := ∀ b o, b ≠ k → H b = some o → H' b = some o
theorem But.refl (k : Addr) (H : Hp) : But k H H := fun _ _ _ e => e
theorem But.trans {k : Addr} {H H1 H2 : Hp} (a : But k H H1) (b : But k H1 H2) : But k H H2 := fun c o n e => b c o n (a c o n e)
theorem But.of {k : Addr} {H H' : Hp} (s : Same H H') : But k H H' := fun b o _ e => s b o e
theorem But.put {k : Addr} {H : Hp} {o : HO} : But k H (upd H k o) := fun b u n e => by
  rw [upd_ne n]
  exact e
theorem sameNew {H : Hp} {t : Addr} {o : HO} (h : H t = none) : Same H (upd H t o) := fun b u e => by
  rw [upd_ne (ne_of_none e h)]
  exact e
theorem PairAt.but {k : Addr} {xs : List V} {H H' : Hp} {v : V} {p : List Int × Int} (h : PairAt H v p) (hk : H k = some (.lst xs)) (s : But k H H') : PairAt H' v p := by
  obtain ⟨q, a, e, h1, h2⟩ := h
  exact ⟨q, a, e, s _ _ (ne_of h1 hk (by intro z; cases z)) h1, s _ _ (ne_of h2 hk (by intro z; cases z)) h2⟩
theorem PairAt.same {H H' : Hp} {v : V} {p : List Int × Int} (h : PairAt H v p) (s : Same H H') : PairAt H' v p := by
  obtain ⟨q, a, e, h1, h2⟩ := h
  exact ⟨q, a, e, s _ _ h1, s _ _ h2⟩
theorem Prs.but {k : Addr} {xs : List V} {H H' : Hp} {vs : List V} {ps : PS} (h : Prs H vs ps) (hk : H k = some (.lst xs)) (s : But k H H') : Prs H' vs ps := L2.Paired.mapP h fun _ _ z => z.but hk s
theorem Prs.same {H H' : Hp} {vs : List V} {ps : PS} (h : Prs H vs ps) (s : Same H H') : Prs H' vs ps := L2.Paired.mapP h fun _ _ z => z.same s
theorem Prs.len : ∀ {H : Hp} {vs : List V} {ps : PS}, Prs H vs ps → vs.length = ps.length
  | _, _, _, .nil => rfl
  | _, _, _, .cons _ t => congrArg Nat.succ (Prs.len t)
theorem Prs.get : ∀ {H : Hp} {vs : List V} {ps : PS} {j : Nat} {v : V}, Prs H vs ps → vs[j]? = some v → ∃ p, ps[j]? = some p ∧ PairAt H v p
  | _, _, _, _, _, .nil, e => by simp at e
  | _, _, _, 0, _, .cons r _, e => by simp at e; subst e; exact ⟨_, rfl, r⟩
  | _, _, _, j + 1, _, .cons _ t, e => by
    simp only [List.getElem?_cons_succ] at e ⊢
    exact Prs.get t e
theorem Prs.get' : ∀ {H : Hp} {vs : List V} {ps : PS} {j : Nat} {p : List Int × Int}, Prs H vs ps → ps[j]? = some p → ∃ v, vs[j]? = some v ∧ PairAt H v p
  | _, _, _, _, _, .nil, e => by simp at e
  | _, _, _, 0, _, .cons r _, e => by simp at e; subst e; exact ⟨_, rfl, r⟩
  | _, _, _, j + 1, _, .cons _ t, e => by
    simp only [List.getElem?_cons_succ] at e ⊢
    exact Prs.get' t e
theorem Prs.snoc {H : Hp} {v : V} {p : List Int × Int} : ∀ {vs : List V} {ps : PS}, Prs H vs ps → PairAt H v p → Prs H (vs ++ [v]) (ps ++ [p])
  | _, _, .nil, h => .cons h .nil
  | _, _, .cons r t, h => .cons r (Prs.snoc t h)
theorem Prs.append {H : Hp} : ∀ {vs ws : List V} {ps qs : PS}, Prs H vs ps → Prs H ws qs → Prs H (vs ++ ws) (ps ++ qs)
  | _, _, _, _, .nil, h => h
  | _, _, _, _, .cons r t, h => .cons r (Prs.append t h)
/-- a for over a name that holds a list or a tuple -/
def iSeqV (i : Nat) : TI := fun σ H R => ∃ (a : Addr) (vs : List V), σ[i]? = some (some (.ref a)) ∧ SqA H a vs ∧ ∀ J, Walk J vs.length (fun H' => ∀ o, H a = some o → H' a = some o) (YAt vs) → R J H
theorem pi_seqV {X : Cx} {tg l : Expr} {i : Nat} (hl : PE X l (tVar i)) : PI X tg l (iSeqV i) := by
  refine ⟨fun pins s σ H R I ⟨a, vs, hi, hq, k⟩ => ?_⟩
  rcases hq with h | h
  · have w : Walk (Itl X.K a) vs.length (fun H' => ∀ o, H a = some o → H' a = some o) (YAt vs) :=
      have q : ∀ H' : Hp, (∀ o, H a = some o → H' a = some o) → SqL X.K H' a vs := fun H' z => SqL.of (z _ h)
      ⟨fun i H' hi z => walk_list.goes i H' hi (q H' z), fun H' z => walk_list.stops H' (q H' z), fun i H' x H'' hi z y => walk_list.yields i H' x H'' hi (q H' z) y⟩
    exact (pi_list hl).run pins s σ H R I ⟨_, hi, a, rfl, ⟨vs, SqL.of h⟩, k _ w⟩
  · have w : Walk (Itt X.K a) vs.length (fun H' => ∀ o, H a = some o → H' a = some o) (YAt vs) :=
      have q : ∀ H' : Hp, (∀ o, H a = some o → H' a = some o) → SqT X.K H' a vs := fun H' z => SqT.of (z _ h)
      ⟨fun i H' hi z => walk_tup.goes i H' hi (q H' z), fun H' z => walk_tup.stops H' (q H' z), fun i H' x H'' hi z y => walk_tup.yields i H' x H'' hi (q H' z) y⟩
    exact (pi_tup hl).run pins s σ H R I ⟨_, hi, a, rfl, ⟨vs, SqT.of h⟩, k _ w⟩
end Rw
namespace Rw
open PySem PySem.Spec PyProof.Rows L2 RwM
def rSlN : V → Option Int → Option Int → Hp → VK → Prop := fun x lo hi H Q => ∃ a xs, x = .ref a ∧ H a = some (.tup xs) ∧ ∀ (q : Addr) (H' : Hp), Same H H' → H' q = some (.tup (cutV xs lo hi)) → Q (.ref q) H'
theorem sl_tupN {X : Cx} : SlR X rSlN := by
  intro pins s σ H x v vl vu lo hi sl Q I rx hs pl pu ⟨a, xs, e, ha, k⟩
  refine sl_tupA pins s σ H x v vl vu lo hi sl Q I rx hs pl pu ⟨a, xs, e, SqT.of ha, fun hz => ?_, fun hz p hp => k p _ (sameNew hp) upd_same⟩
  refine k a H (Same.refl H) ?_
  have e1 : cutV xs lo hi = xs := by
    unfold cutV
    rw [hz.1, hz.2, List.drop_zero, Nat.sub_zero, List.take_length]
  rw [e1]
  exact ha
theorem cut_take (ns : List Int) (k : Nat) : cutV (ns.map V.int) none (some (k : Int)) = (ns.take k).map V.int := by
  unfold cutV
  rw [HT.sIx_nat, HT.sIx_none, List.drop_zero, Nat.sub_zero, List.map_take]
  by_cases c : k ≤ (ns.map V.int).length
  · rw [Nat.min_eq_left c]
  · rw [Nat.min_eq_right (by omega), List.take_length, List.take_of_length_le (by omega)]
theorem cut_drop (ns : List Int) (k : Nat) : cutV (ns.map V.int) (some (k : Int)) none = (ns.drop k).map V.int := by
  unfold cutV
  rw [HT.sIx_nat, HT.sIx_none, List.map_drop]
  by_cases c : k ≤ (ns.map V.int).length
  · rw [Nat.min_eq_left c, List.take_of_length_le (by rw [List.length_drop]; omega)]
  · rw [Nat.min_eq_right (by omega), List.drop_of_length_le (by omega), List.drop_of_length_le (by omega), List.take_nil]
theorem cut_both (ns : List Int) (j k : Nat) (h : j ≤ k) : cutV (ns.map V.int) (some (j : Int)) (some (k : Int)) = ((ns.drop j).take (k - j)).map V.int := by
  unfold cutV
  rw [HT.sIx_nat, HT.sIx_nat, List.map_take, List.map_drop]
  by_cases c : k ≤ (ns.map V.int).length
  · rw [Nat.min_eq_left c, Nat.min_eq_left (by omega)]
  · rw [Nat.min_eq_right (show (ns.map V.int).length ≤ k by omega)]
    by_cases d : j ≤ (ns.map V.int).length
    · rw [Nat.min_eq_left d, List.take_of_length_le (by rw [List.length_drop]; omega), List.take_of_length_le (by rw [List.length_drop]; omega)]
    · rw [Nat.min_eq_right (by omega), List.drop_of_length_le (by omega), List.drop_of_length_le (by omega), List.take_nil, List.take_nil]
/-- len of a tuple or list, the part of the top said -/
def rLenS (K : PySem.W.Frag) : List V → Hp → VK → Prop := fun xs H Q => ∃ p ys, xs = [.ref p] ∧ (SqL K H p ys ∨ SqT K H p ys) ∧ Q (.int ys.length) H
theorem call_lenS {X : Cx} : CallR X (.builtin "len") (rLenS X.K) := call_len_seq
end Rw
/-! a try with several clauses «except X as n:», all with one name n -/
namespace TryN
open PySem PySem.Spec PyProof.Rows L2
/-- what the suite of a clause does: told by where the exception stands, its class and its dict -/
abbrev Sui := Addr → Value → Option Addr → TS
/-- behind a suite the name in slot i is gone -/
def gone (i : Nat) (D : Ends) : Ends where
  nx σ G := D.nx (σ.set i none) G
  rt := D.rt
  bk σ G := D.bk (σ.set i none) G
  ct σ G := D.ct (σ.set i none) G
def wants (K : PySem.W.Frag) (i : Nat) (Wo : WX) (D : Ends) : List (Value × Sui) → WX
  | [] => Wo
  | (k, t) :: r => fun cls d σ G => ∃ b, PySem.W.exmOne K cls k = some b ∧
      (b = true → ∀ a, G a = none → t a cls d (gone i D) (σ.set i (some (.ref a))) G) ∧ (b = false → wants K i Wo D r cls d σ G)
inductive Cls (X : Cx) (n : Str) : List ExceptHandler → List (Value × Sui) → Prop
  | nil : Cls X n [] []
  | cons {x : Str} {k : Value} {t : Sui} {b1 : Stmt} {bs : List Stmt} {q1 q2 : Pos} {hds : List ExceptHandler} {l : List (Value × Sui)} (hc : Names X x k)
      (ht : ∀ (a : Addr) (oe : Obj) (cls : Value) (d : Option Addr) (pp : List (Addr × Obj)), Zc cls d oe → (∃ vs, oe.data = .fields vs) → PSs (X.suite a ((a, oe) :: pp)) (b1 :: bs) (t a cls d)) (rest : Cls X n hds l) :
      Cls X n (.ExceptHandler (some (.Name x q1)) (some n) (b1 :: bs) q2 :: hds) ((k, t) :: l)
section
variable {X : Cx} {n : Str} {i : Nat} {body : List Stmt} {h1 : ExceptHandler} {hds : List ExceptHandler} {l : List (Value × Sui)} {pos : Pos} {tb : WX → TS} {Wo : WX}
theorem ps_tryN (hs : X.stack = X.env :: X.outer) (hf : X.env.frame = some X.env.locals) (hN : X.N.Nodup) (hi : X.N[i]? = some n) (hln : X.env.kindOf n = some .local) (tk : Takes X Wo)
    (hb : ∀ (W : WX) (pp : List (Addr × Obj)) (xe : Value → Shared → Prop), Takes (X.tr pp xe) W → PassesOwn (model X.prog X.w) X.A X.env xe → PSs (X.tr pp xe) body (tb W))
    (hh : Cls X n (h1 :: hds) l) : PS X (.Try body (h1 :: hds) [] [] pos) (fun D σ G => tb (wants X.K i Wo D l) D σ G) := by
  refine ⟨fun pins s0 σ G D I hyp => ?_⟩
  have good := I.ok
  have fr0 : X.A.frames = some (X.env :: X.outer) := by rw [good.frames, hs]
  have locn : Loc X.env.scope n := .inl hln
  refine wpAny_Try_except ?_
  refine wpAny_mono ((hb (wants X.K i Wo D l) (X.pn ++ pins) (fun z s1 => wpAny (model X.prog X.w) X.A (noteFrame z X.env) (fun _ s2 => wpAny (model X.prog X.w) X.A (setFlight z none) (fun _ s3 =>
    wpAny (model X.prog X.w) X.A (handleBy z X.env (h1 :: hds)) (SP X pins D) X.xe s3) X.xe s2) X.xe s1) (fun u sA xx => ?_) PassesOwn.looking).run [] s0 σ G D (I.toTry _) hyp) (fun fl s1 out => ?_) (fun z s1 hz => hz)
  · obtain ⟨a, B, sI, pinsI, σI, GI, cls, d, rfl, JI, nb, up, sky, na, os, ag, want⟩ := xx
    have J0 : Inv X pins σI GI sI := JI.ofTry good
    have sky0 : Sky B (X.env :: X.outer) a (Zc cls d) X.env.locals sA.heap := by rw [← hs]; exact sky
    show wpAny (model X.prog X.w) X.A (noteFrame (.ref a) X.env) _ _ _
    refine Sky.land Zc.steady fr0 hf sky0 fun hA flA upA => ?_
    have JA : Inv X pins σI GI { sA with heap := hA } := J0.landed nb flA.1 (up.trans upA) os ag
    obtain ⟨oA, vA, gA, zA, dA⟩ := flA.there
    have offF : ∀ {h : Heap} {o : Obj} {vs : Array Value}, h.FunFrames B (X.env :: X.outer) → h.get? a = some o → o.data = .fields vs → a ∉ frs (X.env :: X.outer) := fun {h o vs} ff e dd mem => by
      obtain ⟨_, o2, e2, isnt⟩ := ff.mem mem
      rw [e] at e2; cases e2
      exact isnt _ dd
    have out0 := offF flA.2.2.1 gA dA
    have noL : a ≠ X.env.locals := fun z => out0 (List.mem_filterMap.mpr ⟨X.env, List.mem_cons_self, by rw [hf, z]⟩)
    have noF : a ∉ X.fs := fun mem => by
      obtain ⟨e, he, q⟩ := List.mem_filterMap.mp mem
      exact out0 (List.mem_filterMap.mpr ⟨e, List.mem_cons_of_mem _ he, q⟩)
    have SA := JA.suite gA dA na noL noF
    have go : ∀ {hds2 : List ExceptHandler} {l2 : List (Value × Sui)}, Cls X n hds2 l2 → wants X.K i Wo D l2 cls d σI GI →
        wpAny (model X.prog X.w) X.A (handleBy (.ref a) X.env hds2) (SP X pins D) X.xe { sA with heap := hA } := by
      intro hds2 l2 hk
      induction hk with
      | nil =>
        intro w
        refine wpAny_handleBy_nil ?_
        obtain ⟨k1, k2, k3, oe, vs, T, oT, tz, e1, e2, e3, e4, e5⟩ := id flA
        unfold PySem.passOn
        refine wpAny_bind (wpAny_field e1 e3 e4 ?_)
        rw [if_neg (show ¬ ((Value.ref T == Value.none) = true) from by simp)]
        have last : wpAny (model X.prog X.w) X.A (setFlight (.ref a) X.env.frame) (fun _ sB => wpAny (model X.prog X.w) X.A (throw (.ref a) : Sem Flow) (SP X pins D) X.xe sB) X.xe { sA with heap := hA } := by
          rw [hf]
          refine HandSPX.setFlight_upZ flA fun hB skyB upB => wpAny_throw (tk _ _ ?_)
          exact ⟨a, B, sI, pins, σI, GI, cls, d, rfl, J0, nb, (up.trans upA).trans upB, .inr (.inr (by rw [hs]; exact skyB)), na, os, ag, w⟩
        first
          | exact wpAny_bind (wpAny_pure (wpAny_bind last))
          | exact wpAny_bind last
      | @cons x k t b1 bs q1 q2 hds3 l3 hc ht rest ih =>
        intro w
        obtain ⟨b, eb, yes, no⟩ := w
        refine wpAny_handleBy_cons (codeAny_handlers_test ?_) (by intro q; cases q)
        have LT : PySem.W.Looks (model X.prog X.w) hA (typeOf (.ref a)) cls := fun A Q E s kk q => wpAny_typeOf_ref (kk _ _ gA) (by rw [zA.1]; exact q)
        have LM := PySem.W.exm_one (M := model X.prog X.w) (JA.kIn) LT eb
        have test : ∀ {Q : Value → Shared → Prop} {E : Value → Shared → Prop}, Q k { sA with heap := hA } → wpAny (model X.prog X.w) (X.A.mark (some (.ref a))) (eval (.Name x q1) X.env) Q E { sA with heap := hA } := fun {Q E} q => by
          obtain ⟨hg, hdbg, hm | ⟨hm, hv, hnn⟩⟩ := hc
          · exact ld_glob (X := X.suite a ((a, oA) :: (X.pn ++ pins))) SA hg hm q hdbg
          · exact ld_blt (X := X.suite a ((a, oA) :: (X.pn ++ pins))) SA hg hm hv q hnn hdbg
        refine test (LM.here ?_)
        cases b with
        | true =>
          refine codeAny_handlers_suite_as ?_
          refine HandSPX.lands_againZ flA fun hB flB upB => ?_
          have JB : Inv X pins σI GI { sA with heap := hB } := J0.landed nb flB.1 ((up.trans upA).trans upB) os ag
          obtain ⟨oB, vB, gB, zB, dB⟩ := flB.there
          have SB := JB.suite gB dB na noL noF
          refine store_ok (X := X.suite a ((a, oB) :: (X.pn ++ pins))) (v := .ref a) SB hN hi locn rfl (fun sC SC => ?_) (.inr hln)
          refine wpAny_mono ((ht a oB cls d (X.pn ++ pins) zB ⟨_, dB⟩).run [] sC _ GI _ SC (yes rfl a na)) (fun fl sD out => ?_) (fun _ _ z => False.elim z)
          have fin : ∀ {σD : L2.St} {GD : Hp} {Q : Shared → Prop}, Inv (X.suite a ((a, oB) :: (X.pn ++ pins))) [] σD GD sD → (∀ sE, Inv X pins (σD.set i none) GD sE → Q sE) →
              wpAny (model X.prog X.w) X.A (do bindName X.env n .none; unbindBehindTheSuite X.env n q2) (fun _ sE => Q sE) X.xe sD := fun {σD GD Q} SD hq => gone_ok (SD.unsuite good) hN hi hln hq
          cases fl with
          | next =>
            obtain ⟨σD, GD, SD, qD⟩ := out
            exact fin SD fun sE JE => ⟨_, _, JE, qD⟩
          | brk =>
            obtain ⟨σD, GD, SD, qD⟩ := out
            exact fin SD fun sE JE => ⟨_, _, JE, qD⟩
          | cont =>
            obtain ⟨σD, GD, SD, qD⟩ := out
            exact fin SD fun sE JE => ⟨_, _, JE, qD⟩
          | ret u =>
            obtain ⟨vD, σD, GD, SD, rD, qD⟩ := out
            exact fin SD fun sE JE => ⟨_, _, _, JE, rD, qD⟩
        | false =>
          show wpAny _ X.A (handleBy (.ref a) X.env hds3) _ _ _
          exact ih (no rfl)
    exact go hh want
  · cases fl with
    | next =>
      obtain ⟨σD, GD, JD, q⟩ := out
      exact wpAny_execs_nil ⟨σD, GD, JD.ofTry good, q⟩
    | brk =>
      obtain ⟨σD, GD, JD, q⟩ := out
      exact ⟨σD, GD, JD.ofTry good, q⟩
    | cont =>
      obtain ⟨σD, GD, JD, q⟩ := out
      exact ⟨σD, GD, JD.ofTry good, q⟩
    | ret u =>
      obtain ⟨vD, σD, GD, JD, r, q⟩ := out
      exact ⟨vD, σD, GD, JD.ofTry good, r, q⟩
end
end TryN
namespace K23
open PySem PySem.Spec PyProof.Rows L2 RwM Rw EV TryN
/-- isinstance(e, c), e the caught exception with its dict -/
def rIsP (K : PySem.W.Frag) (a : Addr) (cls : Value) (d : Option Addr) : List V → Hp → VK → Prop := fun xs H Q =>
  ∃ (C dd : Addr) (fs : List (Str × V)) (c : V) (u : Value) (b : Bool), xs = [.ref a, c] ∧ cls = .ref C ∧ d = some dd ∧ H dd = some (.xd fs) ∧ ExcC K C ∧ ClsV c u ∧ PySem.W.kitOne K (.ref C) u = some b ∧ Q (.bl b) H
theorem call_isP {X : Cx} {a : Addr} {cls : Value} {d : Option Addr} {oe : Obj} {pn : List (Addr × Obj)} (hz : Zc cls d oe) (hf : ∃ vs, oe.data = .fields vs) :
    CallR (X.suite a ((a, oe) :: pn)) (.builtin "isinstance") (rIsP X.K a cls d) := by
  intro pins s σ H xs us Q I r ⟨C, dd, fs, c, u, b, ex, ec, ed, hdd, T, k, e, q⟩
  subst ex ec ed
  obtain ⟨u1, u2, rfl, r1, r2⟩ := vals2 r
  cases (show u1 = Value.ref a from r1)
  have e2 := k.eq r2
  subst e2
  obtain ⟨ha, _⟩ := I.pin (a, oe) (List.mem_append_left _ List.mem_cons_self)
  obtain ⟨vs, hd⟩ := hf
  obtain ⟨mA, hns, hr⟩ : ObjOk X.prog X.w H s.heap dd (.xd fs) := I.hok dd _ hdd
  obtain ⟨od, ho, hl⟩ := lookIn_ns hns
  have J : PySem.W.InstAt s.heap a oe C (some od) := ⟨ha, hz.1, by unfold PySem.W.notCls; rw [hd] <;> rfl, by rw [hz.2]; exact ho⟩
  exact PySem.W.kia_one (kit_er T) I.kIn J e (fun z => nomatch z) fun tk => ⟨.bl b, H, I.tok tk, rfl, q⟩
/-- what repr shows -/
def Shown (H : Hp) (v : V) (z : Str) : Prop :=
  (∃ i, v = .int i ∧ i.natAbs.log2 < 1920 ∧ z = toString i) ∨ (v = .bl true ∧ z = "True") ∨ (v = .non ∧ z = "None") ∨ (v = .str "0" ∧ z = "'0'") ∨ (∃ a, v = .ref a ∧ H a = some (.lst [.int 0]) ∧ z = "[0]")
theorem Shown.same {H H' : Hp} {v : V} {z : Str} (h : Shown H v z) (s : Same H H') : Shown H' v z := by
  rcases h with h | h | h | h | ⟨a, h1, h2, h3⟩
  · exact .inl h
  · exact .inr (.inl h)
  · exact .inr (.inr (.inl h))
  · exact .inr (.inr (.inr (.inl h)))
  · exact .inr (.inr (.inr (.inr ⟨a, h1, s _ _ h2, h3⟩)))
theorem call_shown {X : Cx} (hg : X.A.guards = some []) (hu : X.A.units + 64 < cLine) : CallR X (.builtin "repr") (fun xs H Q => ∃ v z, xs = [v] ∧ Shown H v z ∧ Q (.str z) H) := by
  intro pins s σ H xs us Q I r ⟨v, z, ex, h, q⟩
  subst ex
  rcases h with ⟨i, rfl, hi, rfl⟩ | ⟨rfl, rfl⟩ | ⟨rfl, rfl⟩ | ⟨rfl, rfl⟩ | ⟨a, rfl, ha, rfl⟩
  · obtain ⟨u, rfl, t, rfl⟩ := vals1 r
    exact PySem.P.repr_of_int hi ⟨.str _, H, I.tok _, ⟨_, rfl⟩, q⟩
  · obtain ⟨u, rfl, rfl⟩ := vals1 r
    exact PySem.P.repr_of_bool ⟨.str _, H, I.tok _, ⟨_, rfl⟩, q⟩
  · obtain ⟨u, rfl, rfl⟩ := vals1 r
    exact PySem.P.repr_of_none ⟨.str _, H, I.tok _, ⟨_, rfl⟩, q⟩
  · obtain ⟨u, rfl, t, rfl⟩ := vals1 r
    have e : reprText "0" = "'0'" := by decide +kernel
    refine PySem.P.repr_of_str ⟨.str _, H, I.tok _, ⟨_, rfl⟩, by rw [e]; exact q⟩ ?_
    rw [e, sizeLine_eq]
    decide +kernel
  · obtain ⟨u, rfl, rfl⟩ := vals1 r
    obtain ⟨_, its, n, rv, hget⟩ : ObjOk X.prog X.w H s.heap a (.lst [.int 0]) := I.hok a _ ha
    obtain ⟨u, rfl, t, rfl⟩ := vals1 rv
    have rd : Reads s.heap (.ref a) (.list [.int 0]) [a] := reads_list_at hget rfl rfl (.cons (.int 0 t) .nil)
    have e : (PyData.list [.int 0]).shown = "[0]" := by decide +kernel
    have h9 : (PyData.list [.int 0]).depth ≤ 60 := by decide +kernel
    refine repr_of_reads' rd (by decide +kernel) (fun z => absurd z (by decide +kernel)) hg (by omega) (fun _ _ z => z) (fun h' u tk k => ⟨.str _, H, I.kept k, ⟨_, rfl⟩, by rw [e]; exact q⟩) ?_
    rw [e, sizeLine_eq]
    decide +kernel
end K23
namespace Pu
open PySem PySem.Spec PyProof.Rows L2 EV
open LamX (Tabs ExtN)
/-! ### lambdas that are handed to a def and called there -/
section
variable {K : PySem.W.Frag} {T : List (Addr × Str)} {H0 H H1 H' : Hp} {am am' : List Addr} {m : Mem}
theorem MOk.extN (mo : MOk K T H0 am H m) (e : ExtN H H1) (t : Tabs T H1) : MOk K T H0 am H1 m ∧ Ex H0 H H0 H1 am am := by
  have ex : Ex H0 H H0 H1 am am := ⟨.refl _, ⟨[], by simp, by simp⟩, fun a o h n _ => e a o h n, fun a h o ho => Classical.byContradiction fun n => n (h o (e a o ho fun ps z => n ⟨ps, z⟩)), fun a _ h _ => h⟩
  refine ⟨⟨mo.len, mo.nd, fun i o h => ?_, fun a o h => e a o (mo.sub _ _ h) fun ps z => mo.nt a ps (by rw [h, z]), fun a h z => mo.tr a h (ex.kp a z), mo.nt, t⟩, ex⟩
  obtain ⟨a, e1, ⟨u, e2, e3, q⟩ | q⟩ := mo.is i o h
  · exact ⟨a, e1, .inl ⟨u, e2, e a u e3 q.ntb, q⟩⟩
  · exact ⟨a, e1, .inr q⟩
end
def fLam (R : Except Er Sl → Option D) (f : Rho → Mem → Re Sl) : Rho → Mem → Re Sl := fun ρ m => match f ρ m with
  | some (r, m') => match R r with
    | some d => some (.ok (.dat d), m')
    | none => none
  | none => none
/-- the def that calls the lambda does with what it gives as R tells -/
def LamR (K : PySem.W.Frag) (T : List (Addr × Str)) (TT : (XK → Hp → VK → Prop) → Hp → VK → Prop) (R : Except Er Sl → Option D) : Prop :=
  ∀ (r : Except Er Sl) (d : D) (H0 H : Hp) (am : List Addr) (m' : Mem) (Q : VK) (tl : XK → Hp → VK → Prop), R r = some d →
    (∀ v H1 H' am', Ex H0 H H1 H' am am' → MOk K T H1 am' H' m' → IsS K H1 am' v (.dat d) → Q v H') → (∀ E Q', Glo K T E (IsS K) H0 H am r m' Q' → tl E H Q') → TT tl H Q
section
variable {X : Cx} {T : List (Addr × Str)} {E : XK} {e : Expr} {f : Rho → Mem → Re Sl} {TT : (XK → Hp → VK → Prop) → Hp → VK → Prop} {R : Except Er Sl → Option D}
theorem px_lam (hR : LamR X.K T TT R) (hp : PE X e (LamX.tLam T TT fun E => tOf X.K T E (IsS X.K) f)) : PX X T E e (fLam R f) := by
  refine ⟨_, hp, fun H0 am H ρ m σ r m' Q mo eo e gl => ⟨mo.tb, fun H1 eN t1 => ?_⟩⟩
  obtain ⟨mo1, ex1⟩ := mo.extN eN t1
  unfold fLam at e
  cases hf : f ρ m with
  | none => rw [hf] at e; cases e
  | some z =>
    obtain ⟨r0, m0⟩ := z
    rw [hf] at e
    dsimp only at e
    cases hr : R r0 with
    | none => rw [hr] at e; cases e
    | some d =>
      rw [hr] at e
      cases e
      exact hR r0 d H0 H1 am _ Q _ hr (fun v H2 H' am' ex mo' q => gl v H2 H' am' (ex1.trans ex) mo' q) fun E' Q' g => ⟨ρ, m, H0, am, r0, _, mo1, eo.ex ex1, hf, g⟩
end
/-! ### repr, where nothing is being shown -/
def showD : D → Option Str
  | .int i => if i.natAbs.log2 < 1920 then some (toString i) else none
  | .bl b => some (if b then "True" else "False")
  | .non => some "None"
  | .str z => if (reprText z).length ≤ sizeLine then some (reprText z) else none
  | .lst [.int 0] => some "[0]"
  | _ => none
def oRepr : List D → Option D
  | [d] => (showD d).map .str
  | _ => none
def rShow (K : PySem.W.Frag) : List V → Hp → VK → Prop := fun xs H Q => ∃ v d z, xs = [v] ∧ Is K H v d ∧ showD d = some z ∧ Q (.str z) H
theorem cd_repr {K : PySem.W.Frag} : CallD K (rShow K) oRepr := by
  intro H0 H xs ds c Q s hx ho k
  unfold oRepr at ho
  split at ho
  · rename_i d
    obtain ⟨v, rfl, h⟩ := vw1 hx
    cases hz : showD d with
    | none => rw [hz] at ho; cases ho
    | some z => rw [hz] at ho; cases ho; exact ⟨v, d, z, rfl, h.is s (fun k e => by subst e; cases hz), hz, k _ _ _ (Nw.refl s) (.str z)⟩
  · cases ho
theorem call_show {X : Cx} (hg : X.A.guards = some []) (hu : X.A.units + 64 < cLine) : CallR X (.builtin "repr") (rShow X.K) := by
  intro pins s σ H xs us Q I r ⟨v, d, z, ex, h, hz, q⟩
  subst ex
  unfold showD at hz
  split at hz
  · rename_i i
    split at hz
    · rename_i hi
      cases hz
      cases h
      obtain ⟨u, rfl, t, rfl⟩ := vals1 r
      exact PySem.P.repr_of_int hi ⟨.str _, H, I.tok _, ⟨_, rfl⟩, q⟩
    · cases hz
  · rename_i b
    cases hz
    cases h
    obtain ⟨u, rfl, rfl⟩ := vals1 r
    cases b <;> exact PySem.P.repr_of_bool ⟨.str _, H, I.tok _, ⟨_, rfl⟩, q⟩
  · cases hz
    cases h
    obtain ⟨u, rfl, rfl⟩ := vals1 r
    exact PySem.P.repr_of_none ⟨.str _, H, I.tok _, ⟨_, rfl⟩, q⟩
  · rename_i x
    split at hz
    · rename_i hl
      cases hz
      cases h
      obtain ⟨u, rfl, t, rfl⟩ := vals1 r
      exact PySem.P.repr_of_str ⟨.str _, H, I.tok _, ⟨_, rfl⟩, q⟩ hl
    · cases hz
  · cases hz
    cases h with
    | @lst a vs xs ha t =>
      cases t with
      | cons r0 t =>
        cases t
        cases r0
        obtain ⟨u, rfl, rfl⟩ := vals1 r
        obtain ⟨_, its, n, rv, hget⟩ : ObjOk X.prog X.w H s.heap a (.lst [.int 0]) := I.hok a _ ha
        obtain ⟨u, rfl, t, rfl⟩ := vals1 rv
        have rd : Reads s.heap (.ref a) (.list [.int 0]) [a] := reads_list_at hget rfl rfl (.cons (.int 0 t) .nil)
        have e : (PyData.list [.int 0]).shown = "[0]" := by decide +kernel
        have h9 : (PyData.list [.int 0]).depth ≤ 60 := by decide +kernel
        refine repr_of_reads' rd (by decide +kernel) (fun z => absurd z (by decide +kernel)) hg (by omega) (fun _ _ z => z) (fun h' u tk k => ⟨.str _, H, I.kept k, ⟨_, rfl⟩, by rw [e]; exact q⟩) ?_
        rw [e, sizeLine_eq]
        decide +kernel
  · cases hz
/-! ### defs that run where nothing is being shown -/
structure FnG (P : Program) (w : World) (K : PySem.W.Frag) (mg : Str → Option Value) (base : Heap) (k : Nat) (f : Addr) (fd : FuncData) (ps : List Str) (sp : Sp) : Prop where
  size : ∀ vs G Q E, sp vs G Q E → vs.length = ps.length
  goes : ∀ (A : Around) (outer : List Env) (s : Shared) (G : Hp) (args : Args) (us : List Value) (vs : List V) (Q : VK) (E : XK),
    A.guards = some [] → Room k A → Env0 P w K mg base A outer s G → BindsTo s fd args (ps.zip us) → Vals vs us → sp vs G Q E → codeAny (model P w) A (.call (.ref f) args) (CR CX0 outer P w G s Q E) s
/-- a def with its code object -/
structure FunC (K : PySem.W.Frag) (x : Str) (st : Stmt) (f : Addr) (fd : FuncData) (c : Addr) : Prop where
  is : ∃ (oc : Value) (od : Option Addr) (kV doc pm : Value) (an : Option Addr) (ct : Value) (osl : Array (Option Value)),
    fd = PySem.W.fnOf x x (defArgs st) (defBody st) (defScope st) .none kV doc pm an (.ref c) ct ∧ K.lookup f = some ⟨oc, od, .func fd, osl⟩ ∧ PySem.W.codeIn K (.ref c) x = true
theorem FunC.okG {P : Program} {w : World} {K : PySem.W.Frag} {mg : Str → Option Value} {base : Heap} {x : Str} {st : Stmt} {f c : Addr} {fd : FuncData} {N ps : List Str} {k : Nat} {sp : Sp} (F : FunC K x st f fd c) (S : FnScope N ps (defScope st)) (hl : ∀ vs G Q E, sp vs G Q E → vs.length = ps.length)
    (hb : ∀ (A : Around) (outer : List Env) (s : Shared) (G : Hp) (vs : List V) (Q : VK) (E : XK), A.guards = some [] → Room k (A.deeper (envOfC x (defScope st) s.heap.objs.size f (.ref c))) → sp vs G Q E →
      ∃ t, PSs (cxOf CX0 P w K mg base N x (defScope st) f (.ref c) A outer s G E).nox (defBody st) t ∧ t { nx := fun _ G' => Q .non G', rt := Q } (L2.start N vs) G) : FnG P w K mg base (k + 1) f fd ps sp := by
  obtain ⟨oc, od, kV, doc, pm, an, ct, osl, rfl, lk, hcd⟩ := F.is
  refine ⟨hl, fun A outer s G args us vs Q E gd hr e0 hbs r h => LamX.run_ofS lk hcd S hr e0 hbs r (hl _ _ _ _ h) fun hr2 => ?_⟩
  obtain ⟨t, ht, hq⟩ := hb A outer s G vs Q E gd hr2 h
  exact ⟨t, ht.nox, hq⟩
theorem pe_callG {X : Cx} {k : Nat} {f : Addr} {fd : FuncData} {ps : List Str} {sp : Sp} {x : Str} {p pos : Pos} {e : Expr} {es : List Expr} {t : TA} (F : FnG X.prog X.w X.K X.mg X.base k f fd ps sp) (gd : X.A.guards = some []) (hr : Room k X.A) (hg : Gl X x) (hm : X.mg x = some (.ref f)) (hk : PySem.W.keepIn X.K (.ref f) = true) (hb : Binds X.K fd ps [])
    (ha : PA X (e :: es) t) (hdb : (x == ("__debug__" : Str)) = false := by decide) (he : starEach (e :: es) X.env = (false, eval e X.env) :: starEach es X.env := by rfl) (hpl : (backTo pos (starEach es X.env)).any (·.1) = false := by rfl) :
    PE X (.Call (.Name x p) (e :: es) [] pos) (tCall sp [] E0 t) := by
  refine ⟨fun pins s σ G Q I h => wpAny_Call_Name_kw (ld_glob I hg hm ?_ hdb)⟩
  refine PySem.W.callWith_K (h₀ := X.base) I.ok.mod.kin hk (thn (ha.run pos pins s σ G _ I h) fun us s1 ⟨vs, G1, I1, r, q⟩ => ⟨I1.kIn, ?_⟩) he hpl
  have r2 : Vals (vs ++ []) (us ++ []) := r.append .nil
  have sz : (us ++ []).length = ps.length := by rw [← r2.length]; exact F.size _ _ _ _ q
  refine wpAny_call (codeAny_mono (F.goes X.A X.stack s1 G1 ⟨us, []⟩ (us ++ []) (vs ++ []) Q E0 gd hr I1.env0 (hb s1 us I1.kIn sz) r2 q) fun r3 s2 out => ?_)
  match r3, out with
  | .error _, out => exact (show False from out).elim
  | .ok (.ret _), out => exact I1.after out
  | .ok .next, out => exact False.elim out
  | .ok .brk, out => exact False.elim out
  | .ok .cont, out => exact False.elim out
/-- what it promises: no exception leaves it -/
def spXG (K : PySem.W.Frag) (T : List (Addr × Str)) (n : Nat) (F : List Sl → Mem → Re Sl) : Sp := fun vs H Q _ => vs.length = n ∧ ∃ H0 am m ss d m', MOk K T H0 am H m ∧ Paired (IsS K H0 am) vs ss ∧ F ss m = some (.ok d, m') ∧ ∀ v H1 H' am', Ex H0 H H1 H' am am' → MOk K T H1 am' H' m' → IsS K H1 am' v d → Q v H'
structure FnXG (P : Program) (w : World) (K : PySem.W.Frag) (mg : Str → Option Value) (base : Heap) (T : List (Addr × Str)) (k : Nat) (f : Addr) (fd : FuncData) (ps : List Str) (F : List Sl → Mem → Re Sl) : Prop where
  ok : FnG P w K mg base k f fd ps (spXG K T ps.length F)
section
variable {P : Program} {w : World} {K : PySem.W.Frag} {T : List (Addr × Str)} {mg : Str → Option Value} {base : Heap}
theorem FnXG.mono {j k : Nat} {f : Addr} {fd : FuncData} {ps : List Str} {F : List Sl → Mem → Re Sl} (h : FnXG P w K mg base T j f fd ps F) (l : j ≤ k) : FnXG P w K mg base T k f fd ps F := ⟨h.ok.size, fun A outer s G args us vs Q E gd hr => h.ok.goes A outer s G args us vs Q E gd (hr.mono l)⟩
theorem FnXG.of {x : Str} {st : Stmt} {f c : Addr} {fd : FuncData} {N ps : List Str} {k : Nat} {g : Rho → Mem → RS} (F : FunC K x st f fd c) (S : FnScope N ps (defScope st))
    (hbody : ∀ (A : Around) (outer : List Env) (s : Shared) (H : Hp) (E : XK), A.guards = some [] → Room k (A.deeper (envOfC x (defScope st) s.heap.objs.size f (.ref c))) →
      PSsX (cxOf CX0 P w K mg base N x (defScope st) f (.ref c) A outer s H E).nox T E0 (defBody st) g) : FnXG P w K mg base T (k + 1) f fd ps (runF g N.length) := by
  refine ⟨F.okG S (fun vs H Q E h => h.1) fun A outer s H vs Q E gd hr h => ?_⟩
  obtain ⟨hl, H0, am, m, ss, d, m', mo, q, e, gl⟩ := h
  obtain ⟨t, p, sd⟩ := hbody A outer s H E gd hr
  refine ⟨t, p, ?_⟩
  unfold runF at e
  have gl' : Glo K T E0 (IsS K) H0 H am (.ok d) m' Q := gl
  cases hg : g (ss.map some ++ List.replicate (N.length - ss.length) none) m with
  | none => rw [hg] at e; cases e
  | some z =>
    obtain ⟨o, m1⟩ := z
    rw [hg] at e
    have eo : EnvOk K H0 am (ss.map some ++ List.replicate (N.length - ss.length) none) (L2.start N vs) := env_start q
    refine sd H0 am H _ m _ o m1 _ mo eo hg ?_
    cases o with
    | nx ρ =>
      have g2 := trim_ok mo.len e gl'
      exact fun σ H1 H' am' ex mo' eo' => g2 .non H1 H' am' ex mo' (.dat .non)
    | rt s =>
      have g2 := trim_ok mo.len e gl'
      exact fun v H1 H' am' ex mo' q' => g2 v H1 H' am' ex mo' q'
    | er x =>
      have g2 := trim_ok mo.len e gl'
      exact g2
    | bk ρ => cases e
    | ct ρ => cases e
end
def okR (x : Re Sl) : Re Sl := match x with
  | some (.ok s, m) => some (.ok s, m)
  | _ => none
def fCallG (F : List Sl → Mem → Re Sl) (fa : Rho → Mem → Re (List Sl)) : Rho → Mem → Re Sl := bindD fa fun ss _ m => okR (F ss m)
section
variable {X : Cx} {T : List (Addr × Str)} {x : Str} {p pos : Pos} {e : Expr} {es : List Expr} {k : Nat} {f : Addr} {fd : FuncData} {ps : List Str} {F : List Sl → Mem → Re Sl} {fa : Rho → Mem → Re (List Sl)}
theorem px_callG {E : XK} (G : FnXG X.prog X.w X.K X.mg X.base T k f fd ps F) (gd : X.A.guards = some []) (hr : Room k X.A) (hg : Gl X x) (hm : X.mg x = some (.ref f)) (hk : PySem.W.keepIn X.K (.ref f) = true) (hb : Binds X.K fd ps [])
    (ha : PAX X T E (e :: es) fa) (hn : (e :: es).length = ps.length := by rfl) (hdb : (x == ("__debug__" : Str)) = false := by decide) (he : starEach (e :: es) X.env = (false, eval e X.env) :: starEach es X.env := by rfl) (hpl : (backTo pos (starEach es X.env)).any (·.1) = false := by rfl) :
    PX X T E (.Call (.Name x p) (e :: es) [] pos) (fCallG F fa) := by
  obtain ⟨⟨t, pa, s⟩, hlen⟩ := ha
  refine ⟨_, pe_callG G.ok gd hr hg hm hk hb pa hdb he hpl, ?_⟩
  intro H0 am H ρ m σ r m' Q mo eo e gl
  unfold fCallG bindD bindR at e
  cases hf : fa ρ m with
  | none => rw [hf] at e; cases e
  | some z =>
    obtain ⟨z, m1⟩ := z
    rw [hf] at e
    cases z with
    | error w => cases e; exact s H0 am H ρ m σ (.error w) _ _ mo eo hf gl
    | ok ss =>
      refine s H0 am H ρ m σ (.ok ss) m1 _ mo eo hf fun vs H1 H' am' ex mo' q => ?_
      have e2 : okR (F ss m1) = some (r, m') := e
      cases hF : F ss m1 with
      | none => rw [hF] at e2; cases e2
      | some z =>
        obtain ⟨z, m2⟩ := z
        rw [hF] at e2
        cases z with
        | error w => cases e2
        | ok sl =>
          cases e2
          rw [List.append_nil]
          exact ⟨by rw [q.length, hlen _ _ _ _ hf]; exact hn, H1, am', m1, ss, sl, _, mo', q, hF, fun v H2 H'' am2 ex2 mo2 q2 => gl v H2 H'' am2 (ex.trans ex2) mo2 q2⟩
end
end Pu
namespace Pu
open PySem PySem.Spec PyProof.Rows L2 EV
open LamX (Tabs ExtN)
theorem passX {X : Cx} {E : XK} (tk : Takes X (fun cls d _ H => E cls d H)) : Passes (L2.CX X.prog X.w) X E := fun pins σ H s e s' I c => passes_call tk (fun _ _ _ _ h => h) pins σ H s e s' I c
section
variable {X : Cx} {T : List (Addr × Str)} {E : XK} {e : Expr} {f : Rho → Mem → Re Sl}
/-- list(range(n)) -/
def fListRg (f : Rho → Mem → Re Sl) : Rho → Mem → Re Sl := bindD f fun s _ m => match s with
  | .dat (.int n) => if 0 ≤ n ∧ n ≤ 100000 then some (.ok (.dat (.lst ((List.range n.toNat).map fun i => D.int ((i : Nat) : Int)))), m) else none
  | _ => none
theorem rg_all {K : PySem.W.Frag} {H : Hp} : ∀ xs : List Nat, IsAll K H (xs.map fun i => V.int (0 + ((i : Nat) : Int))) (xs.map fun i => D.int ((i : Nat) : Int))
  | [] => .nil
  | x :: xs => by
    rw [List.map_cons, List.map_cons, Int.zero_add]
    exact .cons (.int _) (rg_all xs)
theorem px_listRg {p p2 pos pos2 : Pos} (hc : X.calm = true) (hg : Gl X "list") (hm : X.mg "list" = none) (hg2 : Gl X "range") (hm2 : X.mg "range" = none) (ha : PX X T E e f) (na : starEach [e] X.env = (false, eval e X.env) :: starEach [] X.env := by rfl)
    (na2 : starEach [.Call (.Name "range" p2) [e] [] pos2] X.env = (false, eval (.Call (.Name "range" p2) [e] [] pos2) X.env) :: starEach [] X.env := by rfl) :
    PX X T E (.Call (.Name "list" p) [.Call (.Name "range" p2) [e] [] pos2] [] pos) (fListRg f) := by
  obtain ⟨t, pa, s⟩ := ha
  refine ⟨_, pe_listRg hc hg hm (prg_1 hg2 hm2 pa na) na2, s.bind (R2 := IsS X.K) (u := fun x _ H1 (Q : VK) => ∃ n, x = V.int n ∧ (RgOk 0 n ∧ ∀ q, H1 q = none → Q (V.ref q) (upd H1 q (.lst (rgV 0 n))))) fun H0 H am x s q ρ m σ r m' Q mo eo e gl => ?_⟩
  try dsimp only at e
  split at e
  · rename_i n
    split at e
    · rename_i hn
      cases e
      cases q with
      | dat q =>
        cases q
        refine ⟨n, rfl, RgOk.of_le (by decide) (by omega) (by decide) hn.1, fun p hp => ?_⟩
        have nw := Nw.alloc mo.sub (o := .lst (rgV 0 n)) hp
        refine gl _ _ _ am nw.ex (mo.nw nw) (.dat (.lst upd_same ?_))
        unfold rgV
        rw [Int.sub_zero]
        exact rg_all _
    · cases e
  · cases e
end
/-- what the lambda's call gives, told -/
theorem ev_lam {R : Except Er Sl → Option D} {f : Rho → Mem → Re Sl} {ρ : Rho} {m m' : Mem} {r : Except Er Sl} {d : D} (h : f ρ m = some (r, m')) (hr : R r = some d) : fLam R f ρ m = some (.ok (.dat d), m') := by
  unfold fLam
  rw [h]
  dsimp only
  rw [hr]
/-! a walk over data, one after the other -/
theorem ws_forD {g : Sl → Rho → Option Rho} {b : Rho → Mem → RS} {G : Out → Mem → Prop} : ∀ {ds : List D} (I : Nat → Rho → Mem → Prop) {ρ : Rho} {m : Mem}, I 0 ρ m → (∀ n d ρ m, ds[n]? = some d → I n ρ m → ∃ ρ1, g (.dat d) ρ = some ρ1 ∧ WS (b ρ1 m) fun o m2 => ∃ ρ2, o = .nx ρ2 ∧ I (n + 1) ρ2 m2) →
    (∀ ρ' m', I ds.length ρ' m' → G (.nx ρ') m') → WS (fFor g b ds ρ m) G
  | [], I, ρ, m, h, _, fin => ⟨.nx ρ, m, rfl, fin ρ m h⟩
  | d :: ds, I, ρ, m, h, st, fin => by
    obtain ⟨ρ1, e1, o, m2, e2, ρ2, rfl, h2⟩ := st 0 d ρ m rfl h
    obtain ⟨o3, m3, e3, q⟩ := ws_forD (ds := ds) (fun n => I (n + 1)) h2 (fun n d' ρ m hd => st (n + 1) d' ρ m (by rw [List.getElem?_cons_succ]; exact hd)) fin
    refine ⟨o3, m3, ?_, q⟩
    unfold fFor
    simp only [e1, e2]
    exact e3
end Pu
namespace Pu
open PySem PySem.Spec PyProof.Rows L2 EV
open LamX (Tabs ExtN)
/-! frozen, where an exception may leave: its fields hold nothing that stands in the heap -/
def immD : D → Bool
  | .non => true | .bl _ => true | .int _ => true | .str _ => true | .ty _ => true | .fn _ => true | _ => false
def immE (e : Er) : Bool := match e.fs with
  | none => true
  | some gs => gs.all fun f => immD f.2
theorem imm_is {K : PySem.W.Frag} {H H' : Hp} {v : V} {d : D} (h : Is K H v d) (i : immD d = true) : Is K H' v d := by
  cases h <;> first | (cases i; done) | (constructor; done)
theorem imm_fs {K : PySem.W.Frag} {H H' : Hp} : ∀ {fs : List (Str × V)} {gs : List (Str × D)}, IsFs K H fs gs → (gs.all fun f => immD f.2) = true → IsFs K H' fs gs
  | _, _, .nil, _ => .nil
  | _, _, .cons h t, i => by
    rw [List.all_cons, Bool.and_eq_true] at i
    exact .cons (imm_is h i.1) (imm_fs t i.2)
def fFrzE (f : Rho → Mem → Re Sl) : Rho → Mem → Re Sl := fun ρ m => match f (frzR m ρ) [] with
  | some (.ok (.dat c), []) => if okF m = true ∧ to1 6 c = true then some (.ok (.dat c), m) else none
  | some (.error e, []) => if okF m = true ∧ immE e = true then some (.error e, m) else none
  | _ => none
section
variable {X : Cx} {T : List (Addr × Str)} {E : XK} {a : Expr} {f : Rho → Mem → Re Sl}
theorem frz_env {K : PySem.W.Frag} {H0 H : Hp} {am : List Addr} {m : Mem} {ρ : Rho} {σ : L2.St} (mo : MOk K T H0 am H m) (eo : EnvOk K H0 am ρ σ) : EnvOk K (frzH H) [] (frzR m ρ) σ := by
  refine ⟨by unfold frzR; rw [List.length_map]; exact eo.1, fun i sl hi => ?_⟩
  unfold frzR at hi
  rw [List.getElem?_map] at hi
  cases hr : ρ[i]? with
  | none => rw [hr] at hi; cases hi
  | some o =>
    rw [hr] at hi
    cases o with
    | none => cases hi
    | some s0 =>
      obtain ⟨v, e1, q⟩ := eo.2 i s0 hr
      have hi : (dv m 3 s0).map Sl.dat = some sl := Option.some.inj hi
      cases hd : dv m 3 s0 with
      | none => rw [hd] at hi; cases hi
      | some d => rw [hd] at hi; cases hi; exact ⟨v, e1, .dat (dv_ok mo 3 q hd)⟩
theorem px_frzE (h : PX X T E a f) : PX X T E a (fFrzE f) := by
  obtain ⟨t, p, s⟩ := h
  refine ⟨t, p, fun H0 am H ρ m σ r m' Q mo eo e gl => ?_⟩
  have eo' := frz_env mo eo
  unfold fFrzE at e
  split at e
  · rename_i c hf
    split at e
    · rename_i hc
      cases e
      refine s (frzH H) [] H (frzR m ρ) [] σ (.ok (.dat c)) [] Q (frz_mo mo) eo' hf fun v H1 H' am' ex mo' q => ?_
      have ham : am' = [] := List.length_eq_zero_iff.mp mo'.len
      subst ham
      obtain ⟨ex2, mo2⟩ := unfrz mo hc.1 (fun a o h t => ex.fr a o h t (by simp)) ex.kp mo'.tb
      cases q with
      | dat q => exact gl v _ H' am ex2 mo2 (.dat (to_back (fun a o h => ex.fr a o (mo.sub _ _ h) (fun ps e => mo.nt a ps (by rw [h, e])) (by simp)) mo'.sub 6 q hc.2))
    · cases e
  · rename_i er hf
    split at e
    · rename_i hc
      cases e
      refine s (frzH H) [] H (frzR m ρ) [] σ (.error er) [] Q (frz_mo mo) eo' hf fun H1 H' am' ex mo' => ?_
      have ham : am' = [] := List.length_eq_zero_iff.mp mo'.len
      subst ham
      obtain ⟨ex2, mo2⟩ := unfrz mo hc.1 (fun a o h t => ex.fr a o h t (by simp)) ex.kp mo'.tb
      have g := gl (joinI H0 H') H' am ex2 mo2
      have hi := hc.2
      unfold immE at hi
      cases hfs : er.fs with
      | none => simp only [hfs] at g ⊢; exact g
      | some gs =>
        simp only [hfs] at g hi ⊢
        intro x H2 H'' fs nw hn hx q
        have sm : Same H' H'' := nw.s
        exact g x (joinI H0 H') H'' fs ⟨.refl _, sm, mo2.sub.trans sm, fun _ h _ => h, fun _ _ h => h⟩ hn hx (imm_fs q hi)
    · cases e
  · cases e
end
end Pu
namespace Pu
open PySem PySem.Spec PyProof.Rows L2
open LamX (Tabs)
/-- what a class must say of its == -/
structure EqOp (K : PySem.W.Frag) (C fE : Addr) : Prop where
  eqS : PySem.W.findIn K (.ref C) "__eq__" = some (some (.ref fE))
  eqF : PySem.W.isFn K (.ref fE) = true
  neS : PySem.W.findIn K (.ref C) "__ne__" = some (some (.builtin "object.__ne__"))
  mro : PySem.W.mroIn K C (.type "object") = some true
  suT : PySem.W.subIn K (.type "tuple") (.ref C) = some false
theorem looks_type {M : Model} {h : Heap} {a : Addr} {o : Obj} {T : Value} (ho : h.get? a = some o) (hc : o.cls = T) : PySem.W.Looks M h (typeOf (.ref a)) T := fun A Q E s k q => wpAny_typeOf_ref (k _ _ ho) (by rw [hc]; exact q)
open Builtin in
theorem objNe_own {prog : Program} {w : World} {A : Around} {E : Value → Shared → Prop} {s : Shared} {K : PySem.W.Frag} {x y C f : Addr} {ox : Obj} {od : Option Obj} {Q : Fin → Shared → Prop} (X : K.In s.heap) (I : PySem.W.InstAt s.heap x ox C od)
    (hs : PySem.W.findIn K (.ref C) "__eq__" = some (some (.ref f))) (hf : PySem.W.isFn K (.ref f) = true) (hu : A.units < cLine)
    (hcall : wpAny (model prog w) A (call (.ref f) [.ref x, .ref y]) (fun v s2 => ∃ b, v = .bool b ∧ Q (.done (.ret (.bool (!b)))) s2) E s) :
    wpAny (model prog w) A (Builtin.«object.__ne__» ⟨[.ref x, .ref y], []⟩) Q E s := by
  unfold Builtin.«object.__ne__»
  repeat (first
    | with_reducible refine wpAny_cRoomFor hu ?_
    | (refine wpAny_bind (m := callSpecialIfBound? (.ref x) (Str.ofString "__eq__") [.ref y])
        (PySem.W.ifBound_K X I hs hf (wpAny_mono hcall (fun r s2 hr => by
          obtain ⟨b, rfl, hq⟩ := hr
          repeat (first | exact hq | exact wpAny_pure hq | exact wpAny_truthy_bool hq | (refine wpAny_bind (m := truthy (.bool _)) (wpAny_truthy_bool ?_)) | wp_step)) fun _ _ e => e)))
    | wp_step)
theorem bound_objNe {M : Model} {A : Around} {E : Value → Shared → Prop} {s : Shared} {K : PySem.W.Frag} {x C : Addr} {ox : Obj} {od : Option Obj} {args : List Value} {Q : Option Value → Shared → Prop} (X : K.In s.heap) (I : PySem.W.InstAt s.heap x ox C od)
    (hs : PySem.W.findIn K (.ref C) "__ne__" = some (some (.builtin "object.__ne__"))) (h : wpAny M A (call (.builtin "object.__ne__") (.ref x :: args)) (fun v => Q (some v)) E s) : wpAny M A (callSpecialIfBound? (.ref x) "__ne__" args) Q E s := by
  simp only [callSpecialIfBound?, bindSpecialIfBound?]
  refine wpAny_holding (wpAny_bind (wpAny_bind (wpAny_bind (I.type.here ((PySem.W.looks_findIn X hs).here ?_)))))
  refine wpAny_bind (wpAny_askSetting (wpAny_ite ?_))
  have last : wpAny M A (call (.builtin "object.__ne__") ([.ref x] ++ args) >>= fun v => pure (some v)) Q E s := wpAny_bind (wpAny_mono h (fun v s2 z => wpAny_pure z) fun _ _ z => z)
  split
  · exact wpAny_bind (wpAny_of_eq (F.cmp_object.ne.bind _) (wpAny_pure (by exact last)))
  · exact wpAny_tryCatch (wpAny_bind (wpAny_of_eq (F.cmp_object.ne.bind _) (wpAny_pure (by exact last))))
section
variable {X : Cx} {CX : CXT} {C fE fA : Addr} {fd : FuncData} {ps : List Str} {sp : Sp} {k : Nat} {E : XK}
/-- an own instance on the left, anything the heap tells the type of on the right -/
def InsL (C : Addr) (x : V) (H : Hp) : Prop := ∃ r dx fs, x = .ref r ∧ H r = some (.ins C dx fs)
def TupR (y : V) (H : Hp) : Prop := ∃ t xs, y = .ref t ∧ H t = some (.tup xs)
def LstR (y : V) (H : Hp) : Prop := ∃ t xs, y = .ref t ∧ H t = some (.lst xs)
theorem tup_type {pins : List (Addr × Obj)} {σ : L2.St} {H : Hp} {s : Shared} {t : Addr} {xs : List V} (I : Inv X pins σ H s) (h : H t = some (.tup xs)) : PySem.W.Looks (model X.prog X.w) s.heap (typeOf (.ref t)) (.type "tuple") := by
  obtain ⟨its, r, ⟨o, ho, hc, _⟩, hs⟩ := I.tuple (SqT.of h)
  exact looks_type ho hc
/-- an instance == another one, or a tuple -/
theorem op_eqO (R : EqOp X.K C fE) (F : FnOk X.prog X.w X.K X.mg X.base CX k fE fd ps sp) (hr : Room k X.A) (hb : Binds X.K fd ps []) (hx : Passes CX X E) :
    OpR X (compareOp .Eq) (fun x y H Q => InsL C x H ∧ (InsL C y H ∨ TupR y H) ∧ sp [x, y] H Q E) := by
  intro pins s σ H x y v u Q I rx ry ⟨hL, hy, q⟩
  obtain ⟨r, dx, fs, rfl, hR⟩ := hL
  cases (show v = Value.ref r from rx)
  obtain ⟨mA, J, _⟩ := ins_get I.hok hR
  obtain ⟨od, J, _⟩ := J.look
  obtain ⟨m, hF⟩ := I.fr
  have go : ∀ tb, PySem.W.Looks (model X.prog X.w) s.heap (typeOf u) tb → PySem.W.notFirst X.K C tb = true → wpAny (model X.prog X.w) X.A (compareOp .Eq (.ref r) u) (EP X pins σ Q) X.xe s := fun tb L hn => by
    refine PySem.W.cmp_K (op := .Eq) (tb := tb) hr.units0 hF I.ok.mod.kin J L hn R.eqS R.eqF ?_
    refine wpAny_mono (run_fn (us := [.ref r, u]) (vs := [.ref r, y]) F hr hb .nil hx I (.cons rx (.cons ry .nil)) q) (fun w s2 z => ?_) fun _ _ z => z
    obtain ⟨z2, H2, I2, rz, qz⟩ := z
    exact SlX.cmpback rz ⟨z2, H2, I2, rz, qz⟩
  rcases hy with ⟨r2, dx2, fs2, rfl, h2⟩ | ⟨t, xs, rfl, h2⟩
  · cases (show u = Value.ref r2 from ry)
    obtain ⟨mB, J2, _⟩ := ins_get I.hok h2
    obtain ⟨od2, J2, _⟩ := J2.look
    exact go (.ref C) J2.type (by simp [PySem.W.notFirst])
  · cases (show u = Value.ref t from ry)
    exact go (.type "tuple") (tup_type I h2) (by simp [PySem.W.notFirst, R.suT])
/-- the callee runs one level further in -/
theorem run_in1 {pins : List (Addr × Obj)} {σ : L2.St} {H : Hp} {s : Shared} {Q : VK} {f : Addr} {us : List Value} {vs : List V} (F : FnOk X.prog X.w X.K X.mg X.base CX k f fd ps sp) (hr : Room k X.A.in1) (hb : Binds X.K fd ps []) (hx : Passes CX X E)
    (I : Inv X pins σ H s) (r : Vals vs us) (h : sp vs H Q E) : wpAny (model X.prog X.w) X.A.in1 (call (.ref f) us) (EP X pins σ Q) X.xe s := by
  have hl : us.length = ps.length := by rw [← r.length]; exact F.len _ _ _ _ h
  have bb := hb s us I.kIn (by rw [List.append_nil]; exact hl)
  rw [List.append_nil] at bb
  refine wpAny_call (codeAny_mono (F.run X.A.in1 X.stack s H ⟨us, []⟩ us vs Q E hr I.env0.in1 bb r h) fun res s2 out => ?_)
  match res, out with
  | .error e, out => exact hx pins σ H s e s2 I out
  | .ok (.ret _), out => exact I.after out
  | .ok .next, out => exact False.elim out
  | .ok .brk, out => exact False.elim out
  | .ok .cont, out => exact False.elim out
/-- an instance != another one -/
theorem op_neO (R : EqOp X.K C fE) (F0 : FnOk X.prog X.w X.K X.mg X.base CX k fE fd ps sp) (hr : Room (k + 1) X.A) (hb : Binds X.K fd ps []) (hx : Passes CX X E) :
    OpR X (compareOp .NotEq) (fun x y H Q => InsL C x H ∧ InsL C y H ∧ sp [x, y] H (fun v H2 => ∃ b, v = .bl b ∧ Q (.bl (!b)) H2) E) := by
  intro pins s σ H x y v u Q I rx ry ⟨hL, hM, q⟩
  obtain ⟨r, dx, fs, rfl, hR⟩ := hL
  obtain ⟨r2, dx2, fs2, rfl, h2⟩ := hM
  cases (show v = Value.ref r from rx)
  cases (show u = Value.ref r2 from ry)
  obtain ⟨mA, J, _⟩ := ins_get I.hok hR
  obtain ⟨od, J, _⟩ := J.look
  obtain ⟨mB, J2, _⟩ := ins_get I.hok h2
  obtain ⟨od2, J2, _⟩ := J2.look
  have KX := I.kIn
  have run := run_in1 (pins := pins) (σ := σ) (us := [.ref r, .ref r2]) (vs := [.ref r, .ref r2]) F0 hr.in1 hb hx I (.cons rfl (.cons rfl .nil)) q
  have one : wpAny (model X.prog X.w) X.A (tryCompare (.ref r) "__ne__" (.ref r2)) (fun a s2 => ∃ b, a = some (.bool b) ∧ EP X pins σ Q (.bool b) s2) X.xe s := by
    unfold tryCompare
    refine wpAny_bind (bound_objNe KX J R.neS (wpAny_call (codeAny_call_builtin F.cmp_object.ne.plain F.cmpEntry_ne (PySem.W.check_slot F.cmpKind_ne F.cmpSplit_ne (J.type.andThen (PySem.W.looks_mroIn KX R.mro)) (F.cmpArgs_ne _ _)
      (objNe_own KX J R.eqS R.eqF hr.in1.units0 (wpAny_mono run (fun a s2 z => ?_) fun _ _ z => z))))))
    obtain ⟨v3, H3, I3, r3, b, e3, q3⟩ := z
    subst e3
    cases (show a = Value.bool b from r3)
    exact ⟨b, rfl, wpAny_pure ⟨_, rfl, .bl _, H3, I3, rfl, q3⟩⟩
  unfold compareOp richCompare
  simp only [oneThing_ref]
  refine wpAny_holding (wpAny_bind (wpAny_cRoomFor hr.units0 ?_))
  rw [cmpInfo_NotEq]
  dsimp only
  refine wpAny_bind (J.type.here (wpAny_bind (J2.type.here ?_)))
  rw [show (Value.ref C != Value.ref C) = false from by simp]
  simp only [Bool.false_eq_true, if_false]
  refine wpAny_bind (wpAny_pure ?_)
  simp only [Bool.false_eq_true, if_false]
  refine wpAny_bind (wpAny_mono one (fun a s2 z => ?_) fun _ _ z => z)
  obtain ⟨b, rfl, hq⟩ := z
  first | exact wpAny_pure hq | exact wpAny_pure (wpAny_pure hq)
end
/-! the rules -/
section
variable {X : Cx} {T : List (Addr × Str)} {E : XK} {a b : Expr} {f g : Rho → Mem → Re Sl} {pos : Pos} {C fE : Addr} {fd : FuncData} {ps : List Str} {k : Nat} {F : List Sl → Mem → Re Sl}
def isInsD (C : Addr) : Sl → Bool
  | .dat (.ins C' _) => decide (C' = C)
  | _ => false
def isIT (C : Addr) : Sl → Bool
  | .dat (.ins C' _) => decide (C' = C)
  | .dat (.tup _) => true
  | _ => false
theorem insL_of {H0 H : Hp} {am : List Addr} {m : Mem} {v : V} {s : Sl} (mo : MOk X.K T H0 am H m) (q : IsS X.K H0 am v s) (h : isInsD C s = true) : InsL C v H := by
  unfold isInsD at h
  split at h
  · have e := of_decide_eq_true h
    subst e
    cases q with
    | dat q => cases q with
      | ins hh t => exact ⟨_, _, _, rfl, mo.sub _ _ hh⟩
  · cases h
theorem insT_of {H0 H : Hp} {am : List Addr} {m : Mem} {v : V} {s : Sl} (mo : MOk X.K T H0 am H m) (q : IsS X.K H0 am v s) (h : isIT C s = true) : InsL C v H ∨ TupR v H := by
  unfold isIT at h
  split at h
  · exact .inl (insL_of mo q h)
  · cases q with
    | dat q => cases q with
      | tup hh t => exact .inr ⟨_, _, rfl, mo.sub _ _ hh⟩
  · cases h
def fEqI (C : Addr) (F : List Sl → Mem → Re Sl) (f g : Rho → Mem → Re Sl) : Rho → Mem → Re Sl := bindD f fun s => bindD g fun t _ m => if isInsD C s = true ∧ isIT C t = true then F [s, t] m else none
theorem px_eqI (R : EqOp X.K C fE) (G : FnX X.prog X.w X.K X.mg X.base T k fE fd ps F) (hr : Room k X.A) (hb : Binds X.K fd ps []) (hx : Passes (L2.CX X.prog X.w) X E) (hn : ps.length = 2) (ha : PX X T E a f) (hb2 : PX X T E b g) (hm : behindInMarks .Eq b = false) :
    PX X T E (.Compare a [.Eq] [b] pos) (fEqI C F f g) := by
  obtain ⟨ta, pa, sa⟩ := ha
  obtain ⟨tb, pb, sb⟩ := hb2
  refine ⟨_, pe_cmpR (op_eqO R G.ok hr hb hx) pa pb hm, sa.bind fun H0 H am x s q => (sb H0 am H).bind fun H1 H' am' y t ex q2 ρ m σ r m' Q mo eo e gl => ?_⟩
  try dsimp only at e
  split at e
  · rename_i hc
    exact ⟨insL_of mo (q.ex ex) hc.1, insT_of mo q2 hc.2, by rw [hn]; rfl, H1, am', m, [s, t], r, m', mo, .cons (q.ex ex) (.cons q2 .nil), e, gl⟩
  · cases e
def fNeI (C : Addr) (F : List Sl → Mem → Re Sl) (f g : Rho → Mem → Re Sl) : Rho → Mem → Re Sl := bindD f fun s => bindD g fun t _ m => if isInsD C s = true ∧ isInsD C t = true then
  (match F [s, t] m with
  | some (.ok (.dat (.bl b)), m') => some (.ok (.dat (.bl (!b))), m')
  | _ => none) else none
theorem px_neI (R : EqOp X.K C fE) (G : FnX X.prog X.w X.K X.mg X.base T k fE fd ps F) (hr : Room (k + 1) X.A) (hb : Binds X.K fd ps []) (hx : Passes (L2.CX X.prog X.w) X E) (hn : ps.length = 2) (ha : PX X T E a f) (hb2 : PX X T E b g) (hm : behindInMarks .NotEq b = false) :
    PX X T E (.Compare a [.NotEq] [b] pos) (fNeI C F f g) := by
  obtain ⟨ta, pa, sa⟩ := ha
  obtain ⟨tb, pb, sb⟩ := hb2
  refine ⟨_, pe_cmpR (op_neO R G.ok hr hb hx) pa pb hm, sa.bind fun H0 H am x s q => (sb H0 am H).bind fun H1 H' am' y t ex q2 ρ m σ r m' Q mo eo e gl => ?_⟩
  try dsimp only at e
  split at e
  · rename_i hc
    split at e
    · rename_i b m2 hF
      cases e
      refine ⟨insL_of mo (q.ex ex) hc.1, insL_of mo q2 hc.2, by rw [hn]; rfl, H1, am', m, [s, t], .ok (.dat (.bl b)), m', mo, .cons (q.ex ex) (.cons q2 .nil), hF, fun v H2 H3 am2 ex2 mo2 qv => ?_⟩
      cases qv with
      | dat qv =>
        cases qv
        exact ⟨b, rfl, gl _ H2 H3 am2 ex2 mo2 (.dat (.bl _))⟩
    · cases e
  · cases e
def fCallI (C : Addr) (F : List Sl → Mem → Re Sl) (f : Rho → Mem → Re Sl) (fa : Rho → Mem → Re (List Sl)) : Rho → Mem → Re Sl := bindD f fun s ρ m => if isInsD C s = true then bindR (fa ρ m) fun ss m => F (s :: ss) m else none
theorem px_callI {e : Expr} {es : List Expr} {fa : Rho → Mem → Re (List Sl)} (c : StX.CallO X.K C fE) (G : FnX X.prog X.w X.K X.mg X.base T k fE fd ps F) (hr : Room k X.A) (hb : Binds X.K fd ps []) (hx : Passes (L2.CX X.prog X.w) X E) (hn : (e :: es).length + 1 = ps.length) (hf : PX X T E a f) (ha : PAX X T E (e :: es) fa)
    (ht : eval (.Call a (e :: es) [] pos) X.env = (do callWith pos (← eval a X.env) [] (backTo pos (starEach (e :: es) X.env)) (backToKw pos (keywordEach [] X.env))) := by rfl)
    (he : starEach (e :: es) X.env = (false, eval e X.env) :: starEach es X.env := by rfl) (hpl : (backTo pos (starEach es X.env)).any (·.1) = false := by rfl) : PX X T E (.Call a (e :: es) [] pos) (fCallI C F f fa) := by
  obtain ⟨ta, pa, sa⟩ := hf
  obtain ⟨⟨t, p, s⟩, hlen⟩ := ha
  refine ⟨_, StX.pe_callO pa c (FnOk.raw G.ok hb .nil) hr hx p ht he hpl, fun H0 am H ρ m σ r m' Q mo eo e gl => ?_⟩
  unfold fCallI bindD bindR at e
  cases h1 : f ρ m with
  | none => rw [h1] at e; cases e
  | some z =>
    obtain ⟨z, m1⟩ := z
    rw [h1] at e
    cases z with
    | error w => cases e; exact sa H0 am H ρ m σ (.error w) _ _ mo eo h1 gl
    | ok s0 =>
      refine sa H0 am H ρ m σ (.ok s0) m1 _ mo eo h1 fun y H1 H' am' ex mo1 q => ?_
      dsimp only at e
      split at e
      · rename_i hc
        obtain ⟨a, dx, fs, rfl, hI⟩ := insL_of mo1 q hc
        refine ⟨a, rfl, ?_⟩
        try unfold bindR at e
        cases h2 : fa ρ m1 with
        | none => rw [h2] at e; cases e
        | some z =>
          obtain ⟨z, m2⟩ := z
          rw [h2] at e
          cases z with
          | error w =>
            cases e
            exact s H1 am' H' ρ m1 σ (.error w) _ _ mo1 (eo.ex ex) h2 (Glo.ex (K := X.K) (T := T) (E := E) (Rel := fun _ _ (_ : Unit) (_ : Unit) => True) (r := .error w) (Q := fun _ _ => True) gl ex)
          | ok ss =>
            refine s H1 am' H' ρ m1 σ (.ok ss) m2 _ mo1 (eo.ex ex) h2 fun vs H2 H3 am2 ex2 mo2 q2 => ?_
            obtain ⟨a2, dx2, fs2, e2, hI2⟩ := insL_of mo2 (q.ex ex2) hc
            cases e2
            refine ⟨.inr ⟨dx2, fs2, hI2⟩, ?_⟩
            have q3 := IsS.ex q ex2
            refine ⟨?_, H2, am2, m2, s0 :: ss, r, m', mo2, by rw [List.append_nil]; exact .cons q3 q2, e, (gl.ex ex).ex ex2⟩
            rw [List.append_nil, List.length_cons, prd_len q2, hlen _ _ _ _ h2, ← hn]
      · cases e
end
end Pu
namespace Pu
open PySem PySem.Spec PyProof.Rows L2 EV
open LamX (Tabs ExtN)
theorem sd_frz {K : PySem.W.Frag} {T : List (Addr × Str)} {E : XK} {t : TE} {f : Rho → Mem → Re Sl} (s : Sd K T E (IsS K) t f) : Sd K T E (IsS K) t (fFrz f) := fun H0 am H ρ m σ r m' Q mo eo e gl => by
  have eo' := frz_env mo eo
  unfold fFrz at e
  split at e
  · rename_i c hf
    split at e
    · rename_i hc
      cases e
      refine s (frzH H) [] H (frzR m ρ) [] σ (.ok (.dat c)) [] Q (frz_mo mo) eo' hf fun v H1 H' am' ex mo' q => ?_
      have ham : am' = [] := List.length_eq_zero_iff.mp mo'.len
      subst ham
      obtain ⟨ex2, mo2⟩ := unfrz mo hc.1 (fun a o h t => ex.fr a o h t (by simp)) ex.kp mo'.tb
      cases q with
      | dat q => exact gl v _ H' am ex2 mo2 (.dat (to_back (fun a o h => ex.fr a o (mo.sub _ _ h) (fun ps e => mo.nt a ps (by rw [h, e])) (by simp)) mo'.sub 6 q hc.2))
    · cases e
  · cases e
section
variable {X : Cx} {T : List (Addr × Str)} {E : XK} {a b : Expr} {f g : Rho → Mem → Re Sl} {pos : Pos}
/-- a comparison of what stands, looked at as data -/
theorem ptx_cmpF {op : CmpOp} {r : R2} {o : D → D → Option D} (ho : OpR X (compareOp op) r) (hd : OpD X.K r o) (ha : PX X T E a f) (hb : PX X T E b g) (hm : behindInMarks op b = false) : PTX X T E (.Compare a [op] [b] pos) (fB (fFrz (bindD f fun s => bindD g fun t _ m => f2 o s t m))) := by
  obtain ⟨ta, pa, sa⟩ := ha
  obtain ⟨tb, pb, sb⟩ := hb
  exact ⟨_, pt_cmpR ho pa pb hm, sd_B (sd_frz (sa.bind fun H0 H am x s q => (sb H0 am H).bind fun H1 H' am' y t ex q2 => hd.at (q.ex ex) q2))⟩
variable {C fE : Addr} {fd : FuncData} {ps : List Str} {k : Nat} {F : List Sl → Mem → Re Sl}
theorem ptx_eqI (R : EqOp X.K C fE) (G : FnX X.prog X.w X.K X.mg X.base T k fE fd ps F) (hr : Room k X.A) (hb : Binds X.K fd ps []) (hx : Passes (L2.CX X.prog X.w) X E) (hn : ps.length = 2) (ha : PX X T E a f) (hb2 : PX X T E b g) (hm : behindInMarks .Eq b = false) :
    PTX X T E (.Compare a [.Eq] [b] pos) (fB (fEqI C F f g)) := by
  obtain ⟨ta, pa, sa⟩ := ha
  obtain ⟨tb, pb, sb⟩ := hb2
  refine ⟨_, pt_cmpR (op_eqO R G.ok hr hb hx) pa pb hm, sd_B (sa.bind fun H0 H am x s q => (sb H0 am H).bind fun H1 H' am' y t ex q2 ρ m σ r m' Q mo eo e gl => ?_)⟩
  try dsimp only at e
  split at e
  · rename_i hc
    exact ⟨insL_of mo (q.ex ex) hc.1, insT_of mo q2 hc.2, by rw [hn]; rfl, H1, am', m, [s, t], r, m', mo, .cons (q.ex ex) (.cons q2 .nil), e, gl⟩
  · cases e
theorem ptx_neI (R : EqOp X.K C fE) (G : FnX X.prog X.w X.K X.mg X.base T k fE fd ps F) (hr : Room (k + 1) X.A) (hb : Binds X.K fd ps []) (hx : Passes (L2.CX X.prog X.w) X E) (hn : ps.length = 2) (ha : PX X T E a f) (hb2 : PX X T E b g) (hm : behindInMarks .NotEq b = false) :
    PTX X T E (.Compare a [.NotEq] [b] pos) (fB (fNeI C F f g)) := by
  obtain ⟨ta, pa, sa⟩ := ha
  obtain ⟨tb, pb, sb⟩ := hb2
  refine ⟨_, pt_cmpR (op_neO R G.ok hr hb hx) pa pb hm, sd_B (sa.bind fun H0 H am x s q => (sb H0 am H).bind fun H1 H' am' y t ex q2 ρ m σ r m' Q mo eo e gl => ?_)⟩
  try dsimp only at e
  split at e
  · rename_i hc
    split at e
    · rename_i b m2 hF
      cases e
      refine ⟨insL_of mo (q.ex ex) hc.1, insL_of mo q2 hc.2, by rw [hn]; rfl, H1, am', m, [s, t], .ok (.dat (.bl b)), m', mo, .cons (q.ex ex) (.cons q2 .nil), hF, fun v H2 H3 am2 ex2 mo2 qv => ?_⟩
      cases qv with
      | dat qv =>
        cases qv
        exact ⟨b, rfl, gl _ H2 H3 am2 ex2 mo2 (.dat (.bl _))⟩
    · cases e
  · cases e
end
/-- a comprehension each of whose elements is one new thing of the store -/
theorem fLcM_push {g : Sl → Rho → Option Rho} {p : Rho → Mem → Re Bool} {f : Rho → Mem → Re Sl} {ρ : Rho} (h : D → MO) : ∀ {ds : List D} {m : Mem}, (∀ d ∈ ds, ∀ m, ∃ ρ1, g (.dat d) ρ = some ρ1 ∧ p ρ1 m = some (.ok true, m) ∧ f ρ1 m = some (.ok (.opq m.length), m ++ [h d])) →
    fLcM g p f ρ ds m = some ((List.range ds.length).map fun k => Sl.opq (m.length + k), m ++ ds.map h)
  | [], m, _ => by simp [fLcM]
  | d :: ds, m, k => by
    obtain ⟨ρ1, e1, e2, e3⟩ := k d List.mem_cons_self m
    have z := fLcM_push (ds := ds) (m := m ++ [h d]) h fun d hd => k d (List.mem_cons_of_mem _ hd)
    unfold fLcM
    simp only [e1, e2, e3, z]
    rw [List.length_cons, List.range_succ_eq_map, List.map_cons, List.map_cons, List.map_map, List.append_assoc, List.length_append]
    congr 2
    congr 1
    refine List.map_congr_left fun x _ => ?_
    show Sl.opq (m.length + [h d].length + x) = Sl.opq (m.length + (x + 1))
    rw [List.length_singleton]
    congr 1
    omega
theorem ev_lcDP {g : Sl → Rho → Option Rho} {p : Rho → Mem → Re Bool} {f : Rho → Mem → Re Sl} {vs : List Nat} {ρ : Rho} {m : Mem} {ds : List D} (h : D → MO) (hz : ds.length < sizeLine) (hd : ∀ d ∈ ds, ∀ m, ∃ ρ1, g (.dat d) (wipeR ρ vs) = some ρ1 ∧ p ρ1 m = some (.ok true, m) ∧ f ρ1 m = some (.ok (.opq m.length), m ++ [h d])) :
    fLcDM g p f vs ds ρ m = some (.ok (.opq (m.length + ds.length)), m ++ ds.map h ++ [.lst ((List.range ds.length).map fun k => Sl.opq (m.length + k))]) := by
  unfold fLcDM
  rw [if_pos hz, fLcM_push h hd]
  show some (Except.ok (Sl.opq (m ++ ds.map h).length), _) = _
  rw [List.length_append, List.length_map]
end Pu
/-! sets of ints and texts that can be walked: set(x), len, sorted -/
namespace SeK
open PySem PySem.Spec PyProof.Rows L2
/-- the key of an entry -/
def keyV (v : Value) : Key := match v with
  | .int k _ => .inl k
  | .str z _ => .inr z
  | _ => .inl 0
theorem keyV_is {P : Program} {w : World} {v : Value} {k : Key} (h : (mixKind P w).is k v = true) : keyV v = k := by
  rcases keyIs_shape h with ⟨i, t, rfl, rfl⟩ | ⟨x, t, rfl, rfl⟩ <;> rfl
theorem key_scans {P : Program} {w : World} {v : Value} {k : Key} (h : (mixKind P w).is k v = true) : v.scannable = true := by
  rcases keyIs_shape h with ⟨i, t, rfl, rfl⟩ | ⟨x, t, rfl, rfl⟩ <;> rfl
/-- the set at a holds ks, its table can be walked -/
def KeyS (P : Program) (w : World) (h : Heap) (a : Addr) (ks : List Key) : Prop :=
  ∃ o es ep t, h.get? a = some o ∧ o.ExactSet ∧ o.data = .set es ep t ∧ ElemsOf (mixKind P w) es.toList ∧ (es.toList.map fun e => keyV e.2).Perm ks ∧ ks.Nodup ∧ es.size < scanBound ∧ t.fits es.size = true ∧ Ris t.place.toList ∧
    (w.params.followText "set-order" = true ∨ t.led = true)
def inK (ks : List Key) (k : Key) : Bool := ks.any fun j => decide (j = k)
theorem inK_iff {ks : List Key} {k : Key} : inK ks k = true ↔ k ∈ ks := by
  unfold inK
  rw [List.any_eq_true]
  exact ⟨fun ⟨x, hx, e⟩ => (of_decide_eq_true e) ▸ hx, fun h => ⟨k, h, decide_eq_true rfl⟩⟩
def addK (ks : List Key) (k : Key) : List Key := if inK ks k = true then ks else ks ++ [k]
section
variable {P : Program} {w : World} {A : Around} {E : Value → Shared → Prop} {s : Shared} {a : Addr} {ks : List Key}
theorem KeyS.at {h h' : Heap} (R : KeyS P w h a ks) (k : ∀ o, h.get? a = some o → h'.get? a = some o) : KeyS P w h' a ks := by
  obtain ⟨o, es, ep, t, ho, r⟩ := R
  exact ⟨o, es, ep, t, k o ho, r⟩
theorem KeyS.congr {h : Heap} {ks' : List Key} (R : KeyS P w h a ks) (e : ks = ks') : KeyS P w h a ks' := e ▸ R
theorem elems_is {es : List (Int × Value)} (hel : ElemsOf (mixKind P w) es) {k : Key} : (∃ e ∈ es, (mixKind P w).is k e.2 = true) ↔ k ∈ es.map fun e => keyV e.2 := by
  rw [List.mem_map]
  constructor
  · rintro ⟨e, he, q⟩
    exact ⟨e, he, keyV_is q⟩
  · rintro ⟨e, he, q⟩
    obtain ⟨⟨k0, h1, _⟩, _⟩ := hel e he
    rw [keyV_is h1] at q
    exact ⟨e, he, q ▸ h1⟩
/-- what stands behind a new entry -/
theorem store_tail {g : Bool → Sem Unit} (hg : ∀ (b : Bool) (s₁ : Shared) (Q' : Unit → Shared → Prop), Q' () s₁ → wpAny (model P w) A (g b) Q' E s₁) {o : Obj} {es : Array (Int × Value)} {ep : Nat} {t : SetTable} (ho : s.heap.get? a = some o) (hex : o.ExactSet) (hd : o.data = .set es ep t)
    {es1 : Array (Int × Value)} {t2 : SetTable} (hel : ElemsOf (mixKind P w) es1.toList) (hp : (es1.toList.map fun e => keyV e.2).Perm ks) (nd : ks.Nodup) (hb : es1.size < scanBound) (hf : t2.fits es1.size = true) (hr : Ris t2.place.toList) (hl : w.params.followText "set-order" = true ∨ t2.led = true) {was : Bool} {R : Option Bool → Shared → Prop}
    (hR : ∀ h', Heap.SameBut a s.heap h' → KeyS P w h' a ks → R (some true) { s with heap := h' }) :
    wpAny (model P w) A (do
        storeSet a es1 t2
        if (!was && t2.tooFull) = true then do
            g (relayAll t2 es1 (SetTable.grown es1.size)).2.2
            storeSet a (relayAll t2 es1 (SetTable.grown es1.size)).1 (relayAll t2 es1 (SetTable.grown es1.size)).2.1
            pure (some true)
          else pure (some true)) R E s := by
  have sb := Heap.SameBut.update s.heap a (Obj.putSet es1 t2)
  have h1 := store_at (es' := es1) (t' := t2) ho hd
  refine wpAny_bind (wpAny_storeSet_of ho hd ?_ (fits_of_scanBound hb))
  by_cases c : (!was && t2.tooFull) = true
  · rw [if_pos c]
    have q1 := relayAll_perm t2 es1 (SetTable.grown es1.size)
    have q2 := relayAll_fits t2 es1 (SetTable.grown es1.size)
    have q3 := relayAll_ris t2 es1 (SetTable.grown es1.size)
    have q4 := relayAll_led t2 es1 (SetTable.grown es1.size)
    revert q1 q2 q3 q4
    generalize relayAll t2 es1 (SetTable.grown es1.size) = Z
    intro q1 q2 q3 q4
    have hz : Z.1.size = es1.size := by rw [← Array.length_toList, ← Array.length_toList, q1.length_eq]
    have hb2 : Z.1.size < scanBound := by rw [hz]; exact hb
    refine wpAny_bind (hg _ _ _ (wpAny_bind (wpAny_storeSet_of h1 rfl (wpAny_pure (hR _ (sb.trans (Heap.SameBut.update _ a _)) ?_)) (fits_of_scanBound hb2))))
    exact ⟨_, _, _, _, store_at h1 rfl, hex, rfl, fun e he => hel e (q1.mem_iff.mp he), (q1.map _).trans hp, nd, hb2, q2, q3, hl.imp id fun z => by rw [q4]; exact z⟩
  · rw [if_neg c]
    exact wpAny_pure (hR _ sb ⟨_, _, _, _, h1, hex, rfl, hel, hp, nd, hb, hf, hr, hl⟩)
theorem add_key {k : Key} {key : Value} {Q : Bool → Shared → Prop} (hkey : (mixKind P w).is k key = true) (R : KeyS P w s.heap a ks) (room : ks.length + 1 < scanBound) (hQ : ∀ b h', Heap.SameBut a s.heap h' → KeyS P w h' a (addK ks k) → Q b { s with heap := h' }) :
    wpAny (model P w) A (setAddHashed a key ((mixKind P w).hash k)) Q E s := by
  obtain ⟨o, es, ep, t, ho, hex, hd, hel, hp, nd, hb, hf, hr, hl⟩ := R
  have hsc := key_scans hkey
  have hlen : es.size = ks.length := by rw [← hp.length_eq, List.length_map, Array.length_toList]
  unfold setAddHashed setAddHashedIn
  refine wpAny_holding (wpAny_bind (wpAny_setState_of ho hd hf ?_))
  dsimp only
  rw [byScan_of hsc hb hel]
  simp only [↓reduceIte]
  unfold setAddByScan
  refine wpAny_bind (wpAny_bind (wpAny_rule (wpAny_bind (wpAny_setScan_of hkey ho hd hf hel ?_))))
  cases hfi : List.findIdx? (fun e => (mixKind P w).is k e.2) es.toList with
  | some j =>
    obtain ⟨hj, pj, _⟩ := List.findIdx?_eq_some_iff_getElem.mp hfi
    have hm : k ∈ ks := hp.mem_iff.mp ((elems_is hel).mp ⟨_, List.getElem_mem hj, pj⟩)
    exact wpAny_pure (wpAny_pure (hQ false s.heap (Heap.SameBut.refl a s.heap) (by unfold addK; rw [if_pos (inK_iff.mpr hm)]; exact ⟨o, es, ep, t, ho, hex, hd, hel, hp, nd, hb, hf, hr, hl⟩)))
  | none =>
    dsimp only
    have hm : k ∉ ks := fun z => by
      obtain ⟨e, he, q⟩ := (elems_is hel).mpr (hp.mem_iff.mpr z)
      have c := List.findIdx?_eq_none_iff.mp hfi e he
      rw [q] at c
      cases c
    have ge : ∀ (b : Bool) (s₁ : Shared) (Q' : Unit → Shared → Prop), Q' () s₁ → wpAny (model P w) A (match b with | true => rule "set.scan.the-table-gave-way" | false => pure ()) Q' E s₁ :=
      fun b s₁ Q' q => by cases b <;> first | exact wpAny_pure q | exact wpAny_rule q
    have p1 := layNew_perm t es ((mixKind P w).hash k) key
    have p2 := layNew_fits t es ((mixKind P w).hash k) key
    have p3 := layNew_ris t es ((mixKind P w).hash k) key hr
    have p4 := layNew_led t es ((mixKind P w).hash k) key
    revert p1 p2 p3 p4
    generalize layNew t es ((mixKind P w).hash k) key = Z
    obtain ⟨es1, t1, was, gave⟩ := Z
    intro p1 p2 p3 p4
    dsimp only at p1 p2 p3 p4 ⊢
    rw [Array.toList_push] at p1
    have pc : es1.toList.Perm (es.toList ++ [((mixKind P w).hash k, key)]) := p1
    have hel1 : ElemsOf (mixKind P w) es1.toList := fun e he => by
      rcases List.mem_append.mp (pc.mem_iff.mp he) with z | z
      · exact hel e z
      · rw [List.mem_singleton.mp z]; exact ⟨⟨k, hkey, rfl⟩, hsc⟩
    have hp1 : (es1.toList.map fun e => keyV e.2).Perm (ks ++ [k]) := by
      refine (pc.map _).trans ?_
      rw [List.map_append, List.map_singleton, keyV_is hkey]
      exact hp.append_right _
    have nd1 : (ks ++ [k]).Nodup := by
      rw [List.nodup_append]
      exact ⟨nd, by simp, fun x hx y hy => by rw [List.mem_singleton.mp hy]; rintro rfl; exact hm hx⟩
    have hb1 : es1.size < scanBound := by
      rw [← Array.length_toList, pc.length_eq, List.length_append, Array.length_toList, hlen]
      exact room
    have hl1 : w.params.followText "set-order" = true ∨ t1.led = true := hl.imp id fun z => by rw [p4]; exact z
    have fin : ∀ h', Heap.SameBut a s.heap h' → KeyS P w h' a (ks ++ [k]) → Q true { s with heap := h' } := fun h' sb r => hQ true h' sb (by unfold addK; rw [if_neg (fun z => hm (inK_iff.mp z))]; exact r)
    refine wpAny_bind (ge _ _ _ ?_)
    split
    · refine wpAny_bind ?_
      rw [hashByValue_scannable 8 hsc]
      refine wpAny_pure ?_
      refine store_tail (ks := ks ++ [k]) ?_ ho hex hd hel1 hp1 nd1 hb1 ?_ ?_ ?_ ?_
      · exact ge
      · first | (split <;> first | exact p2 | exact SetTable.fits_plain_off p2) | exact p2
      · first | (split <;> exact p3) | exact p3
      · first | (split <;> exact hl1) | exact hl1
      · intro h' sb r; dsimp only; exact wpAny_pure (fin h' sb r)
    · refine wpAny_bind (wpAny_pure ?_)
      simp only [↓reduceIte]
      refine store_tail (ks := ks ++ [k]) ?_ ho hex hd hel1 hp1 nd1 hb1 p2 p3 hl1 ?_
      · exact ge
      · intro h' sb r; dsimp only; exact wpAny_pure (fin h' sb r)
end
end SeK
namespace SeK
open PySem PySem.Spec PyProof.Rows L2
theorem addK_len {ks : List Key} {k : Key} : (addK ks k).length ≤ ks.length + 1 := by
  unfold addK
  split
  · omega
  · simp
section
variable {P : Program} {w : World} {A : Around} {R : Result → Shared → Prop} {I : Addr} {fp wr : List Addr} {G : Array GenState → Array GenState → Prop} {n : Nat} {Pv : Nat → Value → Prop} {St : Nat → Shared → Prop}
/-- set.update's loop over a walk that gives keys -/
theorem loopK (W : WalksS P w A.in1 I fp wr G n Pv St) (S : Addr) (hSf : S ∉ fp) (val : List Key) (hn : n = val.length) (hval : ∀ i v, Pv i v → ∃ k, val[i]? = some k ∧ (mixKind P w).is k v = true) (hb : n + 1 < scanBound) :
    ∀ (m i : Nat) (s : Shared) (acc : List Key), n - i = m → i ≤ n → St i s → KeyS P w s.heap S acc → acc.length ≤ i → (∀ s', Moved (S :: wr) G s s' → KeyS P w s'.heap S ((val.drop i).foldl addK acc) → R (.ok (.ret .none)) s') →
      codeAny (model P w) A (.builtin "set.update.loop" ⟨[.ref S, .ref I], []⟩) R s := by
  have hSw : S ∉ wr := fun h => hSf (W.sub _ h)
  have hsub : ∀ b ∈ wr, b ∈ S :: wr := fun b hb => List.mem_cons_of_mem _ hb
  intro m
  induction m with
  | zero =>
    intro i s acc hm hi hst hS hl hR
    have e : i = n := by omega
    subst e
    refine codeAny_builtin F.entry_set_update_loop ?_
    rw [Around.under_plainId F.plain_set_update_loop _]
    show wpAny _ A.in1 (pyNext (.ref I) >>= _) _ _ s
    refine wpAny_bind (W.done s _ _ hst fun s' mv => wpAny_pure (hR s' (mv.mono hsub) ?_))
    rw [List.drop_of_length_le (by omega)]
    exact hS.at fun o e => mv.heap S o hSw e
  | succ m ih =>
    intro i s acc hm hi hst hS hl hR
    have lt : i < n := by omega
    refine codeAny_builtin F.entry_set_update_loop ?_
    rw [Around.under_plainId F.plain_set_update_loop _]
    show wpAny _ A.in1 (pyNext (.ref I) >>= _) _ _ s
    refine wpAny_bind (W.item i s _ _ lt hst fun v s' hP hst' mv => ?_)
    obtain ⟨k, hk, hkey⟩ := hval i v hP
    have hS' : KeyS P w s'.heap S acc := hS.at fun o e => mv.heap S o hSw e
    show wpAny _ A.in1 (holding [v] (setAdd S v) >>= _) _ _ s'
    refine wpAny_bind (wpAny_holding ?_)
    unfold setAdd
    refine wpAny_holding (wpAny_bind ((mixKind P w).pyHash hkey ?_))
    refine add_key (s := { s' with toks := s'.toks + 1 }) hkey hS' (by omega) fun b h' sb hS2 => ?_
    have hd : val.drop i = k :: val.drop (i + 1) := by
      have hlt : i < val.length := by omega
      rw [List.drop_eq_getElem_cons hlt]
      rw [List.getElem?_eq_getElem hlt] at hk
      rw [Option.some.inj hk]
    refine wpAny_pure ⟨plainId_quiet F.plain_set_update_loop _, ih (i + 1) _ (addK acc k) (by omega) lt (W.frame _ s' _ _ hst' (Nat.le_succ _) fun c hc o e => ?_) hS2 (by have := addK_len (ks := acc) (k := k); omega) fun s2 mv2 hS3 => ?_⟩
    · exact (sb.2 c (fun z => hSf (z ▸ hc))).trans e
    · refine hR s2 (Moved.trans W.gtrans ((mv.mono hsub).then_heap (Nat.le_succ _) fun c o hc e => ?_) mv2) ?_
      · exact (sb.2 c (fun z => hc (by rw [z]; exact List.mem_cons_self))).trans e
      · rw [hd, List.foldl_cons]; exact hS3
end
section
variable {P : Program} {w : World} {A : Around} {E : Value → Shared → Prop} {s : Shared}
def freshSet (w : World) : Obj := { cls := .type "set", dict := none, data := .set #[] 0 (.fresh 0 0 (!w.params.followText "set-order")) }
theorem keyS_new {h : Heap} {a : Addr} (ho : h.get? a = some (freshSet w)) : KeyS P w h a [] :=
  ⟨_, #[], 0, _, ho, ⟨rfl, rfl, rfl⟩, rfl, fun e he => by simp at he, List.Perm.refl _, List.nodup_nil, by decide, rfl, List.Pairwise.nil, by
    show _ ∨ (!w.params.followText "set-order") = true
    cases w.params.followText "set-order"
    · exact .inr rfl
    · exact .inl rfl⟩
/-- set(x), by what set.__init__ does -/
theorem call_set1 (x : Value) {Q : Value → Shared → Prop} (hct : checkTypeCall "set" ⟨[x], []⟩ = pure ())
    (h : wpAny (model P w) A.in1.in1 (Builtin.«set.__init__» ⟨[.ref s.heap.objs.size, x], []⟩) (fun r s2 => r = .done (.ret .none) ∧ Q (.ref s.heap.objs.size) s2) E { s with heap := s.heap.push (freshSet w) }) :
    wpAny (model P w) A (call (.type "set") [x]) Q E s := by
  obtain ⟨c, tl, hmro⟩ := F.called_set.mro
  have hmade := F.called_set.made
  have hsub := F.called_set.sub
  refine wpAny_call (codeAny_of_tree ?_)
  show wpAny _ _ (callAny (.type "set") _) _ _ _
  refine wpAny_pure ⟨Code.quiet_builtin _ (by decide +kernel), codeAny_builtin F.entry_type_call ?_⟩
  rw [Around.under_plain (weight_type_call_type "set" [x] []) rfl]
  have h1 := F.called_set.notType
  have h2 := F.called_set.canCreate
  repeat (any_goals (first | assumption | wp_step))
  refine codeAny_mono (code_set_led1 x (E := E) (Q₁ := fun obj s₁ => obj = .ref s.heap.objs.size ∧ s₁ = { s with heap := s.heap.push (freshSet w) }) ⟨rfl, rfl⟩) fun r s₁ hr => ?_
  cases r with
  | error e => exact hr
  | ok fl =>
    cases fl with
    | ret obj =>
      obtain ⟨rfl, rfl⟩ := hr
      have hT : Shared.TypeIs { s with heap := s.heap.push (freshSet w) } (.ref s.heap.objs.size) "set" := ⟨_, Heap.get?_push_size _ rfl, rfl⟩
      have hli := F.called_set.init.lookup
      have hbi := F.called_set.init.bind (.ref s.heap.objs.size)
      repeat (any_goals (first | assumption | wp_step))
      refine codeAny_mono (codeAny_call_builtin (R := wants (fun r s₂ => r = .none ∧ Q (.ref s.heap.objs.size) s₂) E) F.called_set.init.plain F.entry_set_init (check_set_init_1 hT ?_)) fun r₂ s₂ hr₂ => ?_
      · exact wpAny_mono h (fun r s2 ⟨e1, q⟩ => by subst e1; exact ⟨rfl, q⟩) fun _ _ e => e
      · cases r₂ with
        | error e => exact hr₂
        | ok fl₂ =>
          cases fl₂ with
          | ret r =>
            obtain ⟨rfl, hq⟩ := hr₂
            repeat (any_goals (first | assumption | wp_step))
          | _ => exact hr₂.elim
    | _ => exact hr.elim
/-- x is walked, what it gives are the keys ks -/
def WkAt (P : Program) (w : World) (S : Addr) (x : Value) (s : Shared) (ks : List Key) : Prop := ∀ (A : Around) (E : Value → Shared → Prop) (Q : Value → Shared → Prop),
  (∀ I fp Pv St h2, (∀ b o, s.heap.get? b = some o → h2.get? b = some o) → S ∉ fp → (∀ A' : Around, A'.handled = none → Walks P w A' I fp [I] ks.length Pv St) → s.heap.get? I = none → (∀ i v, Pv i v → ∃ k, ks[i]? = some k ∧ (mixKind P w).is k v = true) → St 0 h2 → Q (.ref I) { s with heap := h2 }) →
  wpAny (model P w) A (pyIter x) Q E s
theorem init_of {T : String} {S : Addr} {x : Value} {ks : List Key} {Q : Fin → Shared → Prop} (hS : s.heap.get? S = some (freshSet w)) (hh : A.handled = none) (hx : s.TypeIs x T) (hs1 : isSubtype (.type T) (.type "set") = pure false) (hs2 : isSubtype (.type T) (.type "frozenset") = pure false)
    (hne : (Value.type T == Value.type "dict") = false) (hw : WkAt P w S x s ks) (hb : ks.length + 1 < scanBound)
    (h : ∀ h' tk, KeyS P w h' S (ks.foldl addK []) → (∀ b o, b ≠ S → s.heap.get? b = some o → h'.get? b = some o) → Q (.done (.ret .none)) { s with heap := h', toks := tk }) :
    wpAny (model P w) A (Builtin.«set.__init__» ⟨[.ref S, x], []⟩) Q E s := by
  have hT : s.TypeIs (.ref S) "set" := ⟨_, hS, rfl⟩
  unfold Builtin.«set.__init__» noKeywords Builtin.Frozenset.updateFrom
  generalize hPI : pyIter = PI
  wp_walk
  subst hPI
  refine hw A E _ fun I fp Pv St h2 k1 hSf W hI0 hval hst => wpAny_bind (wpAny_runValue ?_)
  have h2S : h2.get? S = some (freshSet w) := k1 S _ hS
  refine loopK (R := _) ((W A.in1 hh).toS) S hSf ks rfl hval hb ks.length 0 { s with heap := h2 } [] (by omega) (Nat.zero_le _) hst (keyS_new h2S) (Nat.zero_le _) fun s' mv hK => ?_
  obtain ⟨h', g', d', tk', os'⟩ := s'
  have eg : g' = s.gens := mv.gens
  have ed : d' = s.drawn := mv.drawn
  have eo : os' = s.os := mv.os
  subst eg; subst ed; subst eo
  show wpAny _ _ _ _ _ _
  refine wpAny_pure ?_
  show wpAny _ _ (ret Value.none) _ _ _
  refine wpAny_pure (h h' tk' ?_ fun b o hb e => ?_)
  · rw [List.drop_zero] at hK; exact hK
  · refine mv.heap b o (fun z => ?_) (k1 b o e)
    rcases List.mem_cons.mp z with z | z
    · exact hb z
    · rw [List.mem_singleton.mp z, hI0] at e; cases e
theorem items_get {ks : List Key} {vs : List Value} (h : ItemsAre (mixKind P w) ks vs) : ∀ {i : Nat} {v : Value}, vs[i]? = some v → ∃ k, ks[i]? = some k ∧ (mixKind P w).is k v = true := by
  induction h with
  | nil => intro i v e; simp at e
  | cons h1 _ ih =>
    intro i v e
    cases i with
    | zero => simp at e; subst e; exact ⟨_, rfl, h1⟩
    | succ i => exact ih (by simpa using e)
theorem items_len {ks : List Key} {vs : List Value} (h : ItemsAre (mixKind P w) ks vs) : ks.length = vs.length := by
  induction h with
  | nil => rfl
  | cons _ _ ih => exact congrArg Nat.succ ih
theorem get_none {h : Heap} {b : Addr} (hb : h.objs.size ≤ b) : h.get? b = none := by
  cases q : h.get? b with
  | none => rfl
  | some o => exact absurd (Nat.lt_of_lt_of_le (Heap.lt_size q) hb) (Nat.lt_irrefl _)
theorem wk_list {S l : Addr} {items : Array Value} {ks : List Key} (hl : s.heap.IsList l items) (hSl : S < s.heap.objs.size) (hne : S ≠ l) (hk : ItemsAre (mixKind P w) ks items.toList) : WkAt P w S (.ref l) s ks := fun A E Q h => by
  obtain ⟨ol, hol, _⟩ := id hl
  have hsz : ks.length = items.size := by rw [items_len hk, Array.length_toList]
  have hlt : l < s.heap.objs.size := Heap.lt_size hol
  have hneI : l ≠ s.heap.objs.size := Nat.ne_of_lt hlt
  refine wpAny_pyIter_list hl (h s.heap.objs.size [s.heap.objs.size, l] (fun i v => items[i]? = some v) (fun i h => h.IsListIter s.heap.objs.size l i ∧ h.IsList l items) _ (fun b o e => Heap.get?_push_of_some _ e) (fun z => ?_) (fun A' hA => by rw [hsz]; exact Walks.list hA _ l hneI items) (get_none (Nat.le_refl _)) (fun i v e => items_get hk (by rw [Array.getElem?_toList]; exact e)) ⟨⟨_, Heap.get?_push_size _ rfl, rfl, rfl⟩, hl.push _⟩)
  rcases List.mem_cons.mp z with z | z
  · exact Nat.lt_irrefl _ (z ▸ hSl)
  · exact hne (List.mem_singleton.mp z)
theorem wk_tuple {S l : Addr} {items : Array Value} {ks : List Key} (hl : s.heap.IsTuple l items) (hSl : S < s.heap.objs.size) (hne : S ≠ l) (hk : ItemsAre (mixKind P w) ks items.toList) : WkAt P w S (.ref l) s ks := fun A E Q h => by
  obtain ⟨ol, hol, _⟩ := id hl
  have hsz : ks.length = items.size := by rw [items_len hk, Array.length_toList]
  have hlt : l < s.heap.objs.size := Heap.lt_size hol
  have hneI : l ≠ s.heap.objs.size := Nat.ne_of_lt hlt
  refine wpAny_pyIter_tuple hl (h s.heap.objs.size [s.heap.objs.size, l] (fun i v => items[i]? = some v) (fun i h => h.IsTupleIter s.heap.objs.size l i ∧ h.IsTuple l items) _ (fun b o e => Heap.get?_push_of_some _ e) (fun z => ?_) (fun A' hA => by rw [hsz]; exact Walks.tuple hA _ l hneI items) (get_none (Nat.le_refl _)) (fun i v e => items_get hk (by rw [Array.getElem?_toList]; exact e)) ⟨⟨_, Heap.get?_push_size _ rfl, rfl, rfl⟩, hl.push _⟩)
  rcases List.mem_cons.mp z with z | z
  · exact Nat.lt_irrefl _ (z ▸ hSl)
  · exact hne (List.mem_singleton.mp z)
/-- the sgns of a text -/
def sgns (x : Str) : List Str := x.cps.toList.map fun c => ⟨#[c]⟩
theorem wk_str {S : Addr} {x : Str} {t : Tok} (hSl : S < s.heap.objs.size) : WkAt P w S (.str x t) s ((sgns x).map Sum.inr) := fun A E Q h => by
  have hsz : ((sgns x).map (Sum.inr : Str → Key)).length = x.cps.size := by unfold sgns; rw [List.length_map, List.length_map, Array.length_toList]
  refine wpAny_pyIter_str fun o St W hst => h s.heap.objs.size [s.heap.objs.size] (SignAt x) St _ (fun b o e => Heap.get?_push_of_some _ e) (fun z => ?_) (fun A' hA => by rw [hsz]; exact W A' hA) (get_none (Nat.le_refl _)) (fun i v e => ?_) hst
  · exact Nat.lt_irrefl _ ((List.mem_singleton.mp z) ▸ hSl)
  · obtain ⟨c, tk, e1, rfl⟩ := e
    refine ⟨.inr ⟨#[c]⟩, ?_, ?_⟩
    · unfold sgns
      rw [List.getElem?_map, List.getElem?_map, Array.getElem?_toList, e1]
      rfl
    · exact kV_is (k := .inr ⟨#[c]⟩) ⟨tk, rfl⟩
end
end SeK
namespace SeK
open PySem PySem.Spec PyProof.Rows L2
/-! ### texts in order -/
def leS (a b : Str) : Bool := !ltCps b.cps.toList a.cps.toList
theorem leS_iff {a b : Str} : leS a b = true ↔ a.cps.toList ≤ b.cps.toList := by
  unfold leS
  rw [ltCps_eq, Bool.not_eq_true', decide_eq_false_iff_not, List.not_lt]
theorem leS_trans (a b c : Str) (h : leS a b = true) (h' : leS b c = true) : leS a c = true := by
  rw [leS_iff] at *
  exact List.le_trans h h'
theorem leS_total (a b : Str) : (leS a b || leS b a) = true := by
  rw [Bool.or_eq_true, leS_iff, leS_iff]
  exact List.le_total _ _
theorem leS_anti {a b : Str} (h : leS a b = true) (h' : leS b a = true) : a = b := by
  rw [leS_iff] at *
  have e := List.le_antisymm h h'
  obtain ⟨a⟩ := a
  obtain ⟨b⟩ := b
  simp only at e
  rw [Array.toList_inj.mp e]
/-- in order -/
def srt (xs : List Str) : List Str := xs.mergeSort leS
theorem srt_perm (xs : List Str) : (srt xs).Perm xs := List.mergeSort_perm _ _
theorem srt_pw (xs : List Str) : (srt xs).Pairwise fun a b => leS a b = true := List.pairwise_mergeSort leS_trans leS_total xs
theorem sorted_pw : ∀ {ys : List Str}, sortedS ys = true → ys.Pairwise fun a b => leS a b = true := by
  have key : ∀ (p : Str) (l : List Str), risingS p l = true → (p :: l).Pairwise fun a b => leS a b = true := by
    intro p l
    induction l generalizing p with
    | nil => intro _; exact List.pairwise_singleton _ _
    | cons x r ih =>
      intro h
      unfold risingS at h
      rw [Bool.and_eq_true] at h
      have h2 := ih x h.2
      refine List.pairwise_cons.mpr ⟨fun y hy => ?_, h2⟩
      rcases List.mem_cons.mp hy with z | z
      · rw [z]; exact h.1
      · exact leS_trans _ _ _ h.1 (List.rel_of_pairwise_cons h2 z)
  intro ys h
  cases ys with
  | nil => exact List.Pairwise.nil
  | cons x r => exact key x r h
theorem pw_eq {ys zs : List Str} (h1 : ys.Pairwise fun a b => leS a b = true) (h2 : zs.Pairwise fun a b => leS a b = true) (h : ys.Perm zs) : ys = zs := List.Perm.eq_of_pairwise (fun a b _ _ x y => leS_anti x y) h1 h2 h
theorem srt_eq {ys xs : List Str} (h : ys.Perm xs) (s : sortedS ys = true) : ys = srt xs := pw_eq (sorted_pw s) (srt_pw xs) (h.trans (srt_perm xs).symm)
theorem srt_congr {xs ys : List Str} (h : xs.Perm ys) : srt xs = srt ys := pw_eq (srt_pw xs) (srt_pw ys) ((srt_perm xs).trans (h.trans (srt_perm ys).symm))
theorem _root_.L2.ObjOk.there {P : Program} {w : World} {H : Hp} {h : Heap} {a : Addr} {o : HO} (x : ObjOk P w H h a o) : ∃ ob, h.get? a = some ob := by
  cases o with
  | lst xs => obtain ⟨_, _, _, _, e⟩ := x; exact ⟨_, e⟩
  | tup xs => obtain ⟨_, _, _, o, e, _⟩ := x; exact ⟨_, e⟩
  | dK kvs => obtain ⟨_, _, _, _, o, _, _, e, _⟩ := x; exact ⟨_, e⟩
  | dT kvs => obtain ⟨_, _, _, _, o, _, _, e, _⟩ := x; exact ⟨_, e⟩
  | set S n => obtain ⟨o, _, _, _, e, _⟩ := x; exact ⟨_, e⟩
  | ins C dx fs => obtain ⟨_, _, _, e, _⟩ := x; exact ⟨_, e⟩
  | own y => exact x
  | xd fs => obtain ⟨_, ⟨_, _, _, e, _⟩, _⟩ := x; exact ⟨_, e⟩
  | rng lo hi => obtain ⟨_, _, _, e⟩ := x; exact ⟨_, e⟩
  | frz ob u => obtain ⟨e, _⟩ := x; exact ⟨_, e⟩
  | tbl ps => exact ⟨_, (show h.get? a = some _ from x)⟩
  | met f y => exact ⟨_, (show h.get? a = some _ from x)⟩
  | ext φ => obtain ⟨_, e, _⟩ := x; exact e
/-! ### sorted(x), x a thing that gives texts -/
section
variable {X : Cx}
theorem sorted_of {pins : List (Addr × Obj)} {s : Shared} {σ : L2.St} {H : Hp} {Q : VK} {x : Value} {ks : List Str} (I : Inv X pins σ H s) (h64 : ks.length < 64)
    (hcol : ∀ R : List Value → Shared → Prop, (∀ s' vs zs, (∀ b o, s.heap.get? b = some o → s'.heap.get? b = some o) → s'.gens = s.gens → s'.os = s.os → StrsAre vs zs → zs.Perm ks → R vs s') → wpAny (model X.prog X.w) X.A.in1 (collect x) R X.xe s)
    (q : ∀ p, H p = none → Q (.ref p) (upd H p (.lst ((srt ks).map V.str)))) : wpAny (model X.prog X.w) X.A (call (.builtin "sorted") [x]) (EP X pins σ Q) X.xe s := by
  refine Calls.call_function_entry kind_sorted plain_sorted entry_sorted (args_sorted1 _) ?_
  unfold Builtin.«sorted»
  refine wpAny_bind (m := checkCount "sorted" 1 1 _) (wpAny_pure ?_)
  refine wpAny_bind (hcol _ fun s1 vs zs k1 g1 o1 hS pm => ?_)
  have hvl : vs.length = ks.length := by rw [← pm.length_eq]; exact (StrsAre.len_eq hS)
  refine wpAny_bind (wpAny_newList ?_ (by rw [hvl, sizeLine_eq]; omega))
  have hoL : (s1.heap.push (seqObj "list" vs.toArray 0)).get? s1.heap.objs.size = some (seqObj "list" vs.toArray 0) := Heap.get?_push_size _ rfl
  refine wpAny_bind (wpAny_holding (wpAny_call_entry slot_list_sort ⟨_, hoL, rfl⟩ entry_list_sort
    (list_sort_treeK strKind_oneLt (s := { s1 with heap := s1.heap.push (seqObj "list" vs.toArray 0) }) hoL hS.keysOf (fun v₁ v₂ rest e => keyKind_strs (by rw [← e]; exact hS)) (by rw [hvl]; exact h64) fun st' hp hs => ⟨_, rfl, ?_⟩) (args_list_sort _)))
  obtain ⟨ys, a1, a2, a3⟩ := sorted_out_str hS hp hs
  have e0 : ys = srt ks := srt_eq (a2.trans pm) a3
  subst e0
  obtain ⟨c, hc⟩ := sortedHeap_at (vs := vs) (out := (arrOf st').map (·.2)) hoL
  have hlen : ((srt ks).map V.str).length ≤ sizeLine := by
    rw [List.length_map, (srt_perm ks).length_eq, sizeLine_eq]
    omega
  have hz : s.heap.get? s1.heap.objs.size = none := by
    cases e : s.heap.get? s1.heap.objs.size with
    | none => rfl
    | some o => exact absurd (Heap.lt_size (k1 _ _ e)) (Nat.lt_irrefl _)
  have hn : H s1.heap.objs.size = none := by
    cases e : H s1.heap.objs.size with
    | none => rfl
    | some o =>
      obtain ⟨ob, e2⟩ := (I.hok _ _ e).there
      rw [hz] at e2
      cases e2
  have k2 : ∀ b u, s.heap.get? b = some u → (sortedHeap (s1.heap.push (seqObj "list" vs.toArray 0)) s1.heap.objs.size vs ((arrOf st').map (·.2))).get? b = some u := fun b u e => by
    have q := k1 b u e
    have hlt := Heap.lt_size q
    rw [sortedHeap_old (Nat.ne_of_lt hlt) (by rw [size_push']; exact Nat.lt_succ_of_lt hlt)]
    exact Heap.get?_push_of_some _ q
  have J : Inv X pins σ (upd H s1.heap.objs.size (.lst ((srt ks).map V.str))) { s with heap := sortedHeap (s1.heap.push (seqObj "list" vs.toArray 0)) s1.heap.objs.size vs ((arrOf st').map (·.2)), gens := s1.gens, drawn := s1.drawn, toks := s1.toks } :=
    I.call (ch := []) (Un.laidN k2 hz hn) (I.hok.laidN k2 hn ⟨hlen, ((arrOf st').map (·.2)).toList, c, vals_of_strs a1, by rw [Array.toArray_toList]; exact hc⟩) (by rw [g1]; exact I.bare) (fun _ z => nomatch z)
  obtain ⟨sh, sg, sd, stk, sos⟩ := s1
  cases o1
  exact wpAny_pure ⟨_, rfl, ⟨.ref sh.objs.size, _, J, rfl, q _ hn⟩⟩
end
end SeK
namespace SeK
open PySem PySem.Spec PyProof.Rows L2
section
variable {X : Cx}
theorem strs_sgns {x : Str} {acc : List Value} (hl : acc.length = x.cps.size) (h : ∀ i v, acc[i]? = some v → SignAt x i v) : StrsAre acc (sgns x) := by
  have key : ∀ (cs : List Nat) (us : List Value), us.length = cs.length → (∀ (i : Nat) (v : Value), us[i]? = some v → ∃ (c : Nat) (u : Tok), cs[i]? = some c ∧ v = Value.str ⟨#[c]⟩ u) → StrsAre us (cs.map fun c => (⟨#[c]⟩ : Str)) := by
    intro cs
    induction cs with
    | nil => intro us e _; rw [List.length_eq_zero_iff.mp e]; exact .nil
    | cons c cs ih =>
      intro us e k
      cases us with
      | nil => cases e
      | cons u us =>
        obtain ⟨c', t, e1, rfl⟩ := k 0 u rfl
        cases e1
        exact .cons _ _ (ih us (by simpa using e) fun i v q => k (i + 1) v (by simpa using q))
  refine key x.cps.toList acc (by rw [hl, Array.length_toList]) fun i v e => ?_
  obtain ⟨c, u, e1, rfl⟩ := h i v e
  exact ⟨c, u, by rw [Array.getElem?_toList]; exact e1, rfl⟩
/-- sorted(text) -/
def rSortStr : List V → Hp → VK → Prop := fun xs H Q => ∃ z, xs = [.str z] ∧ z.cps.size < 64 ∧ ∀ p, H p = none → Q (.ref p) (upd H p (.lst ((srt (sgns z)).map V.str)))
theorem cr_sortStr (hc : X.calm = true) : CallR X (.builtin "sorted") rSortStr := by
  intro pins s σ H xs us Q I r h
  obtain ⟨z, rfl, h64, q⟩ := h
  obtain ⟨u, rfl, t, rfl⟩ := vals1 r
  have hl : (sgns z).length = z.cps.size := by unfold sgns; rw [List.length_map, Array.length_toList]
  refine sorted_of I (ks := sgns z) (by rw [hl]; exact h64) (fun R k => wpAny_collect_str (A := X.A.in1) (I.ok.hd hc) z t (fun s' acc k1 g1 d1 o1 hi => ?_) (by rw [sizeLine_eq]; omega)) q
  exact k s' _ (sgns z) k1 g1 o1 (strs_sgns (by rw [Array.length_toList, hi.1]) fun i v e => hi.2 i v (by rw [← Array.getElem?_toList]; exact e)) (List.Perm.refl _)
/-! ### sets -/
def KSet (P : Program) (w : World) (a : Addr) (ks : List Key) : HO := .ext fun h => KeyS P w h a ks
theorem kset_new {P : Program} {w : World} {H : Hp} {h : Heap} {a : Addr} {ks : List Key} (R : KeyS P w h a ks) : ObjOk P w H h a (KSet P w a ks) := by
  have ⟨o, _, _, _, ho, _⟩ := R
  exact ⟨R, ⟨o, ho⟩, fun h1 h2 p k => KeyS.at p k⟩
theorem kset_get {pins : List (Addr × Obj)} {σ : L2.St} {H : Hp} {s : Shared} {a : Addr} {ks : List Key} (I : Inv X pins σ H s) (ha : H a = some (KSet X.prog X.w a ks)) : KeyS X.prog X.w s.heap a ks := (I.hok a _ ha).1
/-- set(x): a text, a list or a tuple of ints and texts -/
def rSetK (K : PySem.W.Frag) (P : Program) (w : World) : List V → Hp → VK → Prop := fun xs H Q => ∃ ks : List Key, ((∃ z, xs = [.str z] ∧ ks = (sgns z).map Sum.inr) ∨ ∃ l, xs = [.ref l] ∧ (SqL K H l (ks.map kV) ∨ SqT K H l (ks.map kV))) ∧ ks.length + 1 < scanBound ∧
  ∀ p, H p = none → Q (.ref p) (upd H p (KSet P w p (ks.foldl addK [])))
theorem items_ks {P : Program} {w : World} : ∀ {ks : List Key} {us : List Value}, Vals (ks.map kV) us → ItemsAre (mixKind P w) ks us
  | [], _, r => by rw [List.map_nil] at r; cases r; exact .nil
  | k :: ks, _, r => by
    rw [List.map_cons] at r
    cases r with
    | cons h t => exact .cons (kV_is h) (items_ks t)
theorem cr_setK (hc : X.calm = true) : CallR X (.type "set") (rSetK X.K X.prog X.w) := by
  intro pins s σ H xs us Q I r h
  obtain ⟨ks, hx, hb, q⟩ := h
  have hS : (s.heap.push (freshSet X.w)).get? s.heap.objs.size = some (freshSet X.w) := Heap.get?_push_size _ rfl
  have hsz : s.heap.objs.size < (s.heap.push (freshSet X.w)).objs.size := Heap.lt_size hS
  have fin : ∀ h' tk, KeyS X.prog X.w h' s.heap.objs.size (ks.foldl addK []) → (∀ b o, b ≠ s.heap.objs.size → (s.heap.push (freshSet X.w)).get? b = some o → h'.get? b = some o) → EP X pins σ Q (.ref s.heap.objs.size) { s with heap := h', toks := tk } := fun h' tk hK kp =>
    ⟨.ref _, upd H s.heap.objs.size (KSet X.prog X.w s.heap.objs.size (ks.foldl addK [])), I.laid (t' := tk) (fun b u e => kp b u (Nat.ne_of_lt (Heap.lt_size e)) (Heap.get?_push_of_some _ e)) (Nat.le_refl _) (kset_new hK), rfl, q _ (I.hok.fresh (Nat.le_refl _))⟩
  have hh : X.A.in1.in1.handled = none := I.ok.hd hc
  rcases hx with ⟨z, rfl, rfl⟩ | ⟨l, rfl, hq⟩
  · obtain ⟨u, rfl, t, rfl⟩ := vals1 r
    exact call_set1 _ (F.typeCall_set_1 _) (init_of (s := { s with heap := s.heap.push (freshSet X.w) }) (T := "str") hS hh rfl (by rw [isSubtype_type]; kernel_rfl) (by rw [isSubtype_type]; kernel_rfl) (by decide) (wk_str hsz) hb fun h' tk hK kp => ⟨rfl, fin h' tk hK kp⟩)
  · rw [Vals.ref1 r]
    rcases hq with hq | hq
    · obtain ⟨its, rv, pl, _⟩ := I.list hq
      have hl := pl.isList
      have hl1 : (s.heap.push (freshSet X.w)).IsList l its.toArray := hl.push _
      have hne : s.heap.objs.size ≠ l := by
        obtain ⟨o, ho, _⟩ := id hl
        exact Nat.ne_of_gt (Heap.lt_size ho)
      exact call_set1 _ (F.typeCall_set_1 _) (init_of (s := { s with heap := s.heap.push (freshSet X.w) }) (T := "list") hS hh hl1.typeIs F.sub_list_set F.sub_list_frozenset (by decide) (wk_list hl1 hsz hne (by simpa using items_ks rv)) hb fun h' tk hK kp => ⟨rfl, fin h' tk hK kp⟩)
    · obtain ⟨its, rv, pl, _⟩ := I.tuple hq
      have hl1 : (s.heap.push (freshSet X.w)).IsTuple l its.toArray := pl.push _
      have hne : s.heap.objs.size ≠ l := by
        obtain ⟨o, ho, _⟩ := id pl
        exact Nat.ne_of_gt (Heap.lt_size ho)
      exact call_set1 _ (F.typeCall_set_1 _) (init_of (s := { s with heap := s.heap.push (freshSet X.w) }) (T := "tuple") hS hh hl1.typeIs (by rw [isSubtype_type]; kernel_rfl) (by rw [isSubtype_type]; kernel_rfl) (by decide) (wk_tuple hl1 hsz hne (by simpa using items_ks rv)) hb fun h' tk hK kp => ⟨rfl, fin h' tk hK kp⟩)
/-- len of a set -/
def rLenK (P : Program) (w : World) : List V → Hp → VK → Prop := fun xs H Q => ∃ a ks, xs = [.ref a] ∧ H a = some (KSet P w a ks) ∧ Q (.int ks.length) H
theorem cr_lenK : CallR X (.builtin "len") (rLenK X.prog X.w) := by
  intro pins s σ H xs us Q I r h
  obtain ⟨a, ks, rfl, ha, q⟩ := h
  obtain ⟨o, es, ep, t, ho, hex, hd, hel, hp, nd, hb, hf, _⟩ := kset_get I ha
  have hl : es.size = ks.length := by rw [← hp.length_eq, List.length_map, Array.length_toList]
  rw [Vals.ref1 r]
  exact call_len_set ho hex hd hf (by unfold scanBound at hb; omega) ⟨.int ks.length, H, I.tok _, ⟨_, by rw [hl]⟩, q⟩
/-- sorted of a set of texts -/
def rSortK (P : Program) (w : World) : List V → Hp → VK → Prop := fun xs H Q => ∃ a, ∃ ks : List Str, xs = [.ref a] ∧ H a = some (KSet P w a (ks.map Sum.inr)) ∧ ks.length < 64 ∧ ∀ p, H p = none → Q (.ref p) (upd H p (.lst ((srt ks).map V.str)))
theorem cr_sortK (hc : X.calm = true) : CallR X (.builtin "sorted") (rSortK X.prog X.w) := by
  intro pins s σ H xs us Q I r h
  obtain ⟨a, ks, rfl, ha, h64, q⟩ := h
  obtain ⟨o, es, ep, t, ho, hex, hd, hel, hp, nd, hb, hf, hr, hl⟩ := kset_get I ha
  rw [Vals.ref1 r]
  refine sorted_of I h64 (fun R k => collect_set (A := X.A.in1) (I.ok.hd hc) ⟨o, ho, hex.1, hd⟩ hf hb hr hl fun s1 vs k1 hz g1 o1 pm => ?_) q
  have hS : ∀ us : List Value, (∀ v ∈ us, v ∈ es.toList.map (·.2)) → ∃ zs, StrsAre us zs ∧ (us.map keyV) = zs.map (Sum.inr : Str → Key) := by
    intro us
    induction us with
    | nil => intro _; exact ⟨[], .nil, rfl⟩
    | cons v us ih =>
      intro hm
      obtain ⟨zs, h1, h2⟩ := ih fun x hx => hm x (List.mem_cons_of_mem _ hx)
      obtain ⟨e, he, rfl⟩ := List.mem_map.mp (hm v List.mem_cons_self)
      obtain ⟨⟨k0, h3, _⟩, _⟩ := hel e he
      have h4 : keyV e.2 ∈ ks.map (Sum.inr : Str → Key) := hp.mem_iff.mp (List.mem_map.mpr ⟨e, he, rfl⟩)
      obtain ⟨z, _, h5⟩ := List.mem_map.mp h4
      rw [keyV_is h3] at h5
      subst h5
      obtain ⟨tk, ev⟩ := Value.isStrOf_shape (x := z) (v := e.2) h3
      refine ⟨z :: zs, ?_, ?_⟩
      · rw [ev]; exact .cons z tk h1
      · rw [List.map_cons, List.map_cons, h2, ev]; rfl
  obtain ⟨zs, h1, h2⟩ := hS vs fun v hv => pm.mem_iff.mp hv
  refine k s1 vs zs k1 g1 o1 h1 ?_
  have p1 : (vs.map keyV).Perm (ks.map (Sum.inr : Str → Key)) := by
    refine (pm.map keyV).trans ?_
    rw [List.map_map]
    exact hp
  rw [h2] at p1
  have p2 := p1.map (fun k : Key => match k with | .inr z => z | .inl _ => Str.empty)
  simp only [List.map_map] at p2
  have e1 : ∀ l : List Str, l.map ((fun k : Key => match k with | .inr z => z | .inl _ => Str.empty) ∘ Sum.inr) = l := fun l => by
    rw [show ((fun k : Key => match k with | .inr z => z | .inl _ => Str.empty) ∘ (Sum.inr : Str → Key)) = id from rfl, List.map_id]
  rw [e1, e1] at p2
  exact p2
end
end SeK
namespace Pu
open PySem PySem.Spec PyProof.Rows L2 SeK
open LamX (Tabs)
/-! ### two ways for one expression -/
def orR {α : Type} (f g : Rho → Mem → Re α) : Rho → Mem → Re α := fun ρ m => match f ρ m with
  | some x => some x
  | none => g ρ m
theorem PX.or {X : Cx} {T : List (Addr × Str)} {E : XK} {e : Expr} {f g : Rho → Mem → Re Sl} (h1 : PX X T E e f) (h2 : PX X T E e g) : PX X T E e (orR f g) := by
  obtain ⟨t1, p1, s1⟩ := h1
  obtain ⟨t2, p2, s2⟩ := h2
  refine ⟨fun σ H Q => t1 σ H Q ∨ t2 σ H Q, ⟨fun pins s σ H Q I h => h.elim (p1.run pins s σ H Q I) (p2.run pins s σ H Q I)⟩, fun H0 am H ρ m σ r m' Q mo eo e gl => ?_⟩
  unfold orR at e
  cases hf : f ρ m with
  | some x => rw [hf] at e; cases e; exact .inl (s1 H0 am H ρ m σ r m' Q mo eo hf gl)
  | none => rw [hf] at e; exact .inr (s2 H0 am H ρ m σ r m' Q mo eo e gl)
def orS (f g : Rho → Mem → RS) : Rho → Mem → RS := fun ρ m => match f ρ m with
  | some x => some x
  | none => g ρ m
theorem PSX.or {X : Cx} {T : List (Addr × Str)} {E : XK} {e : Stmt} {f g : Rho → Mem → RS} (h1 : PSX X T E e f) (h2 : PSX X T E e g) : PSX X T E e (orS f g) := by
  obtain ⟨t1, p1, s1⟩ := h1
  obtain ⟨t2, p2, s2⟩ := h2
  refine ⟨fun D σ H => t1 D σ H ∨ t2 D σ H, ⟨fun pins s σ H Q I h => h.elim (p1.run pins s σ H Q I) (p2.run pins s σ H Q I)⟩, fun H0 am H ρ m σ r m' Q mo eo e gl => ?_⟩
  unfold orS at e
  cases hf : f ρ m with
  | some x => rw [hf] at e; cases e; exact .inl (s1 H0 am H ρ m σ r m' Q mo eo hf gl)
  | none => rw [hf] at e; exact .inr (s2 H0 am H ρ m σ r m' Q mo eo e gl)
section
variable {K : PySem.W.Frag} {H0 H H1 H' : Hp}
/-- a thing is made that nobody names -/
theorem Nw.gar (s : Same H0 H) {p : Addr} {o : HO} (hp : H p = none) : Nw H0 H H0 (upd H p o) := ⟨.refl _, Same.new hp, s.trans (Same.new hp), fun _ h _ => h, fun _ _ h => h⟩
/-- .. and then a list -/
theorem Nw.galloc (s : Same H0 H) {p q : Addr} {o u : HO} (hp : H p = none) (hq : (upd H p o) q = none) (ht : ∀ ps, u ≠ .tbl ps) : Nw H0 H (upd H0 q u) (upd (upd H p o) q u) := (Nw.gar s hp).trans (Nw.alloc (Nw.gar s hp).sub hq ht)
theorem strs_all {vs : List V} {ds : List D} {zs : List Str} (t : IsAll K H vs ds) (h : strsOf ds = some zs) : vs = zs.map V.str := strsOf_is t h
theorem is_strs (H : Hp) : ∀ zs : List Str, IsAll K H (zs.map V.str) (zs.map D.str)
  | [] => .nil
  | _ :: zs => .cons (.str _) (is_strs H zs)
theorem is_ints (H : Hp) : ∀ zs : List Int, IsAll K H (zs.map V.int) (zs.map D.int)
  | [] => .nil
  | _ :: zs => .cons (.int _) (is_ints H zs)
/-! ### keys -/
def keysD : List D → Option (List Key)
  | [] => some []
  | d :: r => match dkey d, keysD r with
    | some k, some ks => some (k :: ks)
    | _, _ => none
theorem keysD_is : ∀ {vs : List V} {ds : List D} {ks : List Key}, IsAll K H vs ds → keysD ds = some ks → vs = ks.map kV
  | _, _, _, .nil, e => by cases e; rfl
  | _, _, _, .cons (d := d) (ds := ds) r t, e => by
    unfold keysD at e
    cases h1 : dkey d with
    | none => rw [h1] at e; cases e
    | some k => cases h2 : keysD ds with
      | none => rw [h1, h2] at e; cases e
      | some l =>
        rw [h1, h2] at e; cases e
        rw [dkey_is (H := H) (.imm r) h1, keysD_is t h2]
        rfl
theorem keysD_strs (zs : List Str) : keysD (zs.map D.str) = some (zs.map Sum.inr) := by
  induction zs with
  | nil => rfl
  | cons z r ih => show (match dkey (.str z), keysD (r.map D.str) with | some k, some ks => some (k :: ks) | _, _ => none) = _; rw [ih]; rfl
/-- each key once -/
def onceK (ks : List Key) : List Key := ks.foldl addK []
def addS (zs : List Str) (z : Str) : List Str := if z ∈ zs then zs else zs ++ [z]
/-- each text once -/
def onceS (zs : List Str) : List Str := zs.foldl addS []
theorem once_inr (zs : List Str) : onceK (zs.map Sum.inr) = (onceS zs).map Sum.inr := by
  have key : ∀ (zs acc : List Str), (zs.map (Sum.inr : Str → Key)).foldl addK (acc.map Sum.inr) = (zs.foldl addS acc).map Sum.inr := by
    intro zs
    induction zs with
    | nil => intro acc; rfl
    | cons z r ih =>
      intro acc
      rw [List.map_cons, List.foldl_cons, List.foldl_cons]
      have e : addK (acc.map (Sum.inr : Str → Key)) (Sum.inr z) = (addS acc z).map Sum.inr := by
        unfold addK addS
        have h : inK (acc.map (Sum.inr : Str → Key)) (Sum.inr z) = true ↔ z ∈ acc := by
          rw [inK_iff, List.mem_map]
          exact ⟨fun ⟨x, hx, e⟩ => by cases e; exact hx, fun h => ⟨z, h, rfl⟩⟩
        by_cases c : z ∈ acc
        · rw [if_pos (h.mpr c), if_pos c]
        · rw [if_neg (fun x => c (h.mp x)), if_neg c, List.map_append]
          rfl
      rw [e]
      exact ih _
  exact key zs []
theorem addS_mem {zs : List Str} {z x : Str} : x ∈ addS zs z ↔ x ∈ zs ∨ x = z := by
  unfold addS
  split
  · rename_i h
    exact ⟨.inl, fun c => c.elim id (fun e => e ▸ h)⟩
  · simp
theorem addS_nd {zs : List Str} {z : Str} (h : zs.Nodup) : (addS zs z).Nodup := by
  unfold addS
  split
  · exact h
  · rename_i c
    rw [List.nodup_append]
    exact ⟨h, by simp, fun x hx y hy => by rw [List.mem_singleton.mp hy]; rintro rfl; exact c hx⟩
theorem once_aux : ∀ (zs acc : List Str), acc.Nodup → (zs.foldl addS acc).Nodup ∧ ∀ x, x ∈ zs.foldl addS acc ↔ x ∈ acc ∨ x ∈ zs := by
  intro zs
  induction zs with
  | nil => intro acc h; exact ⟨h, fun x => by simp⟩
  | cons z r ih =>
    intro acc h
    obtain ⟨h1, h2⟩ := ih (addS acc z) (addS_nd h)
    refine ⟨h1, fun x => ?_⟩
    rw [List.foldl_cons, h2, addS_mem, List.mem_cons]
    exact ⟨fun c => by rcases c with (c | c) | c <;> simp [c], fun c => by rcases c with c | c | c <;> simp [c]⟩
theorem once_nd (zs : List Str) : (onceS zs).Nodup := (once_aux zs [] List.nodup_nil).1
theorem once_mem {zs : List Str} {x : Str} : x ∈ onceS zs ↔ x ∈ zs := by
  have := (once_aux zs [] List.nodup_nil).2 x
  unfold onceS
  rw [this]
  simp
/-- what holds the same texts is the same in order -/
theorem srt_once {xs ys : List Str} (h : ∀ z, z ∈ xs ↔ z ∈ ys) : srt (onceS xs) = srt (onceS ys) := srt_congr ((List.perm_ext_iff_of_nodup (once_nd xs) (once_nd ys)).mpr fun z => by rw [once_mem, once_mem]; exact h z)
theorem once_le (zs : List Str) : (onceS zs).length ≤ zs.length := by
  have key : ∀ (zs acc : List Str), (zs.foldl addS acc).length ≤ acc.length + zs.length := by
    intro zs
    induction zs with
    | nil => intro acc; simp
    | cons z r ih =>
      intro acc
      rw [List.foldl_cons, List.length_cons]
      have h1 := ih (addS acc z)
      have h2 : (addS acc z).length ≤ acc.length + 1 := by unfold addS; split <;> simp
      omega
  have := key zs []
  simpa [onceS] using this
end
/-! ### calls within calls: f(t(x)) -/
section
variable {X : Cx} {T : List (Addr × Str)} {E : XK} {K : PySem.W.Frag} {e : Expr} {fa : Rho → Mem → Re (List Sl)} {x y : Str} {p p2 pos pos2 : Pos} {id id2 : String} {r1 r2 : List V → Hp → VK → Prop} {o : List D → Option D}
theorem px_callBT (h1 : CallR X (.type id) r1) (h2 : CallR X (.builtin id2) r2) (hd : CallD X.K (fun xs H Q => r1 xs H fun v H1 => r2 [v] H1 Q) o) (hg : Gl X x) (hm : X.mg x = none) (hv : bootBuiltins x = some (.builtin id2)) (hg2 : Gl X y) (hm2 : X.mg y = none) (hv2 : bootBuiltins y = some (.type id)) (ha : PAX X T E [e] fa)
    (hn : x ≠ "__name__" := by decide) (hdb : (x == ("__debug__" : Str)) = false := by decide) (hn2 : y ≠ "__name__" := by decide) (hdb2 : (y == ("__debug__" : Str)) = false := by decide)
    (he : starEach [e] X.env = (false, eval e X.env) :: starEach [] X.env := by rfl) (hpl : (backTo pos2 (starEach [] X.env)).any (·.1) = false := by rfl)
    (he2 : starEach [.Call (.Name y p2) [e] [] pos2] X.env = (false, eval (.Call (.Name y p2) [e] [] pos2) X.env) :: starEach [] X.env := by rfl) (hpl2 : (backTo pos (starEach [] X.env)).any (·.1) = false := by rfl) :
    PX X T E (.Call (.Name x p) [.Call (.Name y p2) [e] [] pos2] [] pos) (bindD fa fun ss _ m => fN o ss m) := by
  obtain ⟨⟨t, pa, s⟩, _⟩ := ha
  exact ⟨_, pe_callB h2 hg hm hv (pa_cons (pe_callTy h1 hg2 hm2 hv2 pa hn2 hdb2 he hpl) pa_nil he2) hn hdb he2 hpl2, s.bind (u := fun vs _ H1 Q => r1 vs H1 fun v H2 => r2 [v] H2 Q) fun H0 H am xs ss q => hd.at q⟩
/-- what set() takes -/
def inSet : D → Option (List Key)
  | .str z => some ((sgns z).map Sum.inr)
  | .lst xs => keysD xs
  | .tup xs => keysD xs
  | _ => none
theorem inSet_ok {H0 H : Hp} {v : V} {d : D} {ks : List Key} (s : Same H0 H) (h : Vw K H0 H v d) (e : inSet d = some ks) : (∃ z, [v] = [V.str z] ∧ ks = (sgns z).map Sum.inr) ∨ ∃ l, [v] = [V.ref l] ∧ (SqL K H l (ks.map kV) ∨ SqT K H l (ks.map kV)) := by
  unfold inSet at e
  split at e
  · cases e; cases h.strI; exact .inl ⟨_, rfl, rfl⟩
  · obtain ⟨a, vs, rfl, h1, t⟩ := h.lstI s
    rw [keysD_is t e] at h1
    exact .inr ⟨a, rfl, .inl (SqL.of h1)⟩
  · obtain ⟨a, vs, rfl, h1, t⟩ := h.tupI s
    rw [keysD_is t e] at h1
    exact .inr ⟨a, rfl, .inr h1.sq⟩
  · cases e
/-- len(set(x)) -/
def oLenSet : List D → Option D
  | [d] => match inSet d with
    | some ks => if ks.length + 1 < scanBound then some (.int (onceK ks).length) else none
    | none => none
  | _ => none
theorem cd_lenSet {P : Program} {w : World} : CallD K (fun xs H Q => rSetK K P w xs H fun v H1 => rLenK P w [v] H1 Q) oLenSet := by
  intro H0 H xs ds c Q s hx ho k
  unfold oLenSet at ho
  split at ho
  · split at ho
    · rename_i d ks hk
      split at ho
      · rename_i hb
        cases ho
        obtain ⟨v, rfl, h⟩ := vw1 hx
        exact ⟨ks, inSet_ok s h hk, hb, fun p hp => ⟨p, _, rfl, upd_same, k _ _ _ (Nw.gar s hp) (.int _)⟩⟩
      · cases ho
    · cases ho
  · cases ho
def inrs : List Key → Option (List Str)
  | [] => some []
  | .inr z :: r => (inrs r).map (z :: ·)
  | .inl _ :: _ => none
theorem inrs_eq : ∀ {ks : List Key} {zs : List Str}, inrs ks = some zs → ks = zs.map Sum.inr
  | [], _, e => by cases e; rfl
  | .inr z :: r, zs, e => by
    unfold inrs at e
    cases h : inrs r with
    | none => rw [h] at e; cases e
    | some l => rw [h] at e; cases e; rw [inrs_eq h]; rfl
  | .inl _ :: _, _, e => by cases e
theorem inrs_map (zs : List Str) : inrs (zs.map Sum.inr) = some zs := by
  induction zs with
  | nil => rfl
  | cons z r ih => show (inrs (r.map Sum.inr)).map (z :: ·) = _; rw [ih]; rfl
/-- sorted(set(x)), texts -/
def oSortSet : List D → Option D
  | [d] => match (inSet d).bind inrs with
    | some zs => if zs.length < 64 then some (.lst ((srt (onceS zs)).map D.str)) else none
    | none => none
  | _ => none
theorem cd_sortSet {P : Program} {w : World} : CallD K (fun xs H Q => rSetK K P w xs H fun v H1 => rSortK P w [v] H1 Q) oSortSet := by
  intro H0 H xs ds c Q s hx ho k
  unfold oSortSet at ho
  split at ho
  · rename_i d
    cases hk : (inSet d).bind inrs with
    | none => rw [hk] at ho; cases ho
    | some zs =>
      rw [hk] at ho
      dsimp only at ho
      split at ho
      · rename_i hb
        cases ho
        obtain ⟨v, rfl, h⟩ := vw1 hx
        cases h1 : inSet d with
        | none => rw [h1] at hk; cases hk
        | some ks =>
          rw [h1] at hk
          have e1 := inrs_eq (show inrs ks = some zs from hk)
          have hl : ks.length = zs.length := by rw [e1, List.length_map]
          refine ⟨ks, inSet_ok s h h1, by rw [hl]; unfold scanBound; omega, fun p hp => ⟨p, onceS zs, rfl, ?_, by have := once_le zs; omega, fun q hq => ?_⟩⟩
          · rw [← once_inr, ← e1]; exact upd_same
          · have nw := Nw.galloc s hp hq (u := .lst ((srt (onceS zs)).map V.str)) (by intro ps z; cases z)
            exact k _ _ _ nw (.lst upd_same (is_strs _ _))
      · cases ho
  · cases ho
/-! ### sorted(x): a text, a list of texts, a list of ints, a dict of texts -/
def leI (a b : Int) : Bool := decide (a ≤ b)
def srtI (ns : List Int) : List Int := ns.mergeSort leI
theorem srtI_eq {ys xs : List Int} (h : ys.Perm xs) (s : ys.Pairwise (· ≤ ·)) : ys = srtI xs := by
  refine List.Perm.eq_of_pairwise (le := fun a b => leI a b = true) (fun a b _ _ x y => ?_) (s.imp fun h => decide_eq_true h) (List.pairwise_mergeSort (fun a b c h h' => ?_) (fun a b => ?_) xs) (h.trans (List.mergeSort_perm _ _).symm)
  · have h1 := of_decide_eq_true x
    have h2 := of_decide_eq_true y
    omega
  · have h1 := of_decide_eq_true h
    have h2 := of_decide_eq_true h'
    exact decide_eq_true (by omega)
  · unfold leI
    rw [Bool.or_eq_true, decide_eq_true_eq, decide_eq_true_eq]
    omega
def oSort : List D → Option D
  | [.str z] => if z.cps.size < 64 then some (.lst ((srt (sgns z)).map D.str)) else none
  | [.lst xs] => match strsOf xs with
    | some zs => if zs.length < 64 then some (.lst ((srt zs).map D.str)) else none
    | none => (intsOf xs).map fun ns => .lst ((srtI ns).map D.int)
  | [.dic kvs] => match inrs (kvs.map (·.1)) with
    | some zs => if zs.length < 64 then some (.lst ((srt zs).map D.str)) else none
    | none => none
  | _ => none
def rSortD : List V → Hp → VK → Prop := fun xs H Q => ∃ (a : Addr) (kvs : List (Key × V)) (ks : List Str), xs = [.ref a] ∧ Rd H a (.dK kvs) ∧ kvs.map (·.1) = ks.map Sum.inr ∧ ks.length < 64 ∧
    ∀ ys p, ys.Perm ks → sortedS ys = true → H p = none → Q (.ref p) (upd H p (.lst (ys.map V.str)))
def rSortU (K : PySem.W.Frag) : List V → Hp → VK → Prop := fun xs H Q => ((rSortStr xs H Q ∨ rSortedS K xs H Q) ∨ rSortedI K xs H Q) ∨ rSortD xs H Q
theorem cr_sortU (hc : X.calm = true) : CallR X (.builtin "sorted") (rSortU X.K) := CallR.or (CallR.or (CallR.or (cr_sortStr hc) cr_sortedS) cr_sortedI) (call_sortedD hc)
theorem IsKv.keys {H : Hp} : ∀ {vs : List (Key × V)} {ds : List (Key × D)}, IsKv K H vs ds → vs.map (·.1) = ds.map (·.1)
  | _, _, .nil => rfl
  | _, _, .cons _ t => by rw [List.map_cons, List.map_cons, IsKv.keys t]
theorem cd_sort : CallD K (rSortU K) oSort := by
  intro H0 H xs ds c Q s hx ho k
  have fin : ∀ (zs : List Str) (p : Addr), H p = none → (∀ v H1 H', Nw H0 H H1 H' → Is K H1 v (.lst (zs.map D.str)) → Q v H') → Q (.ref p) (upd H p (.lst (zs.map V.str))) := fun zs p hp k => by
    have nw := Nw.alloc s (o := .lst (zs.map V.str)) hp
    exact k _ _ _ nw (.lst upd_same (is_strs _ _))
  unfold oSort at ho
  split at ho
  · split at ho
    · rename_i z hb
      cases ho
      obtain ⟨v, rfl, h⟩ := vw1 hx
      cases h.strI
      exact .inl (.inl (.inl ⟨z, rfl, hb, fun p hp => fin _ p hp k⟩))
    · cases ho
  · obtain ⟨v, rfl, h⟩ := vw1 hx
    obtain ⟨a, vs, rfl, h1, t⟩ := h.lstI s
    rename_i ds
    cases hz : strsOf ds with
    | some zs =>
      rw [hz] at ho
      dsimp only at ho
      split at ho
      · rename_i hb
        cases ho
        rw [strsOf_is t hz] at h1
        exact .inl (.inl (.inr ⟨a, zs, rfl, SqL.of h1, hb, fun ys p e1 e2 hp => by rw [srt_eq e1 e2]; exact fin _ p hp k⟩))
      · cases ho
    | none =>
      rw [hz] at ho
      dsimp only at ho
      cases hn : intsOf ds with
      | none => rw [hn] at ho; cases ho
      | some ns =>
        rw [hn] at ho
        cases ho
        rw [intsOf_is t hn] at h1
        refine .inl (.inr ⟨a, ns, rfl, SqL.of h1, fun ys p e1 e2 hp => ?_⟩)
        rw [srtI_eq e1 e2]
        have nw := Nw.alloc s (o := .lst ((srtI ns).map V.int)) hp
        exact k _ _ _ nw (.lst upd_same (is_ints _ _))
  · obtain ⟨v, rfl, h⟩ := vw1 hx
    obtain ⟨a, vs, rfl, h1, t⟩ := h.dicI s
    split at ho
    · rename_i zs hz
      split at ho
      · rename_i hb
        cases ho
        exact .inr ⟨a, vs, zs, rfl, h1, t.keys.trans (inrs_eq hz), hb, fun ys p e1 e2 hp => by rw [srt_eq e1 e2]; exact fin _ p hp k⟩
      · cases ho
    · cases ho
  · cases ho
end
end Pu
namespace Pu
open PySem PySem.Spec PyProof.Rows L2 SeK
open LamX (Tabs)
section
variable {X : Cx} {T : List (Addr × Str)} {E : XK} {K : PySem.W.Frag} {a b e : Expr} {f g : Rho → Mem → Re Sl} {pos : Pos}
/-! ### sep.join(xs) -/
def isStrS : Sl → Bool
  | .dat (.str _) => true
  | _ => false
def rJn (K : PySem.W.Frag) : V → List V → Hp → VK → Prop := fun x xs H Q => ∃ (z : Str) (p : Addr) (ys : List Str), x = V.str z ∧ xs = [V.ref p] ∧ (SqL K H p (ys.map V.str) ∨ SqT K H p (ys.map V.str)) ∧ (ys.map (·.length)).sum + ys.length * z.length ≤ 16777216 ∧ Q (V.str (Txt.join z ys)) H
def fJoinT (f g : Rho → Mem → Re Sl) : Rho → Mem → Re Sl := bindD f fun s ρ m => if isStrS s = true then bindR (g ρ m) fun t m => match s, elemsM m t with
  | .dat (.str z), some xs => match strsOf xs with
    | some ys => if (ys.map (·.length)).sum + ys.length * z.length ≤ 16777216 then some (.ok (.dat (.str (Txt.join z ys))), m) else none
    | none => none
  | _, _ => none
  else none
theorem px_join {apos : Pos} (ha : PX X T E a f) (hb : PX X T E b g) (hs : starEach [b] X.env = [(false, eval b X.env)] := by rfl) (hbase : attributeBase a "join" X.env (eval a X.env) = eval a X.env := by rfl) (hline : (apos.endLine == pos.line) = true := by rfl) : PX X T E (.Call (.Attribute a "join" apos) [b] [] pos) (fJoinT f g) := by
  obtain ⟨ta, pa, sa⟩ := ha
  obtain ⟨tb, pb, sb⟩ := hb
  refine ⟨_, pe_join pa pb hs hbase hline, sa.bind (R2 := IsS X.K) (u := fun x σ H1 (Q : VK) => (∃ z, x = V.str z) ∧ tb σ H1 fun y H2 => rJn X.K x [y] H2 Q) fun H0 H am x s q ρ m σ r m' Q mo eo e gl => ?_⟩
  split at e
  · rename_i hS
    unfold isStrS at hS
    split at hS
    · rename_i z
      cases q with
      | dat q =>
        cases q
        refine ⟨⟨z, rfl⟩, ?_⟩
        unfold bindR at e
        cases hg : g ρ m with
        | none => rw [hg] at e; cases e
        | some w =>
          obtain ⟨w, m2⟩ := w
          rw [hg] at e
          cases w with
          | error er => cases e; exact sb H0 am H ρ m σ (.error er) _ _ mo eo hg gl
          | ok t =>
            refine sb H0 am H ρ m σ (.ok t) m2 _ mo eo hg fun y H1 H' am' ex mo' q2 => ?_
            dsimp only at e
            cases he : elemsM m2 t with
            | none => rw [he] at e; cases e
            | some xs =>
              rw [he] at e
              dsimp only at e
              cases hy : strsOf xs with
              | none => rw [hy] at e; cases e
              | some ys =>
                rw [hy] at e
                dsimp only at e
                split at e
                · rename_i hc
                  cases e
                  have fin := gl (.str (Txt.join z ys)) H1 H' am' ex mo' (.dat (.str _))
                  unfold elemsM at he
                  split at he
                  · rename_i xs' hv
                    cases he
                    obtain ⟨p, vs, rfl, h1, t1⟩ := (vw_ok mo' q2 hv).lstI mo'.sub
                    rw [strsOf_is t1 hy] at h1
                    exact ⟨z, p, ys, rfl, rfl, .inl (SqL.of h1), hc, fin⟩
                  · rename_i xs' hv
                    cases he
                    obtain ⟨p, vs, rfl, h1, t1⟩ := (vw_ok mo' q2 hv).tupI mo'.sub
                    rw [strsOf_is t1 hy] at h1
                    exact ⟨z, p, ys, rfl, rfl, .inr h1.sq, hc, fin⟩
                  · cases he
                · cases e
    · cases hS
  · cases e
/-! ### list(text), str(text) -/
def rListStr : List V → Hp → VK → Prop := fun xs H Q => ∃ z, xs = [.str z] ∧ z.cps.size ≤ sizeLine ∧ ∀ p, H p = none → Q (.ref p) (upd H p (.lst ((sgns z).map V.str)))
theorem call_listStr (hc : X.calm = true) : CallR X (.type "list") rListStr := by
  intro pins s σ H xs us Q I r h
  obtain ⟨z, rfl, hz, q⟩ := h
  obtain ⟨u, rfl, t, rfl⟩ := vals1 r
  refine PySem.call_list_str (I.ok.hd hc) z t (fun h' tk acc c k hD hi => ?_) hz
  have hl : (sgns z).length = z.cps.size := by unfold sgns; rw [List.length_map, Array.length_toList]
  have hS : StrsAre acc.toList (sgns z) := strs_sgns (by rw [Array.length_toList, hi.1]) fun i v e => hi.2 i v (by rw [← Array.getElem?_toList]; exact e)
  exact ⟨.ref s.heap.objs.size, upd H s.heap.objs.size (.lst ((sgns z).map V.str)), I.laid (t' := tk) k (Nat.le_refl _) (show ObjOk X.prog X.w _ _ _ (.lst ((sgns z).map V.str)) from ⟨by rw [List.length_map, hl]; exact hz, acc.toList, c, vals_of_strs hS, by rw [Array.toArray_toList]; exact hD⟩), rfl, q _ (I.hok.fresh (Nat.le_refl _))⟩
def oListStr : List D → Option D
  | [.str z] => if z.cps.size ≤ sizeLine then some (.lst ((sgns z).map D.str)) else none
  | _ => none
theorem cd_listStr : CallD K rListStr oListStr := by
  intro H0 H xs ds c Q s hx ho k
  unfold oListStr at ho
  split at ho
  · rename_i z
    split at ho
    · rename_i hz
      cases ho
      obtain ⟨v, rfl, h⟩ := vw1 hx
      cases h.strI
      refine ⟨z, rfl, hz, fun p hp => ?_⟩
      have nw := Nw.alloc s (o := .lst ((sgns z).map V.str)) hp
      exact k _ _ _ nw (.lst upd_same (is_strs _ _))
    · cases ho
  · cases ho
def oStrStr : List D → Option D
  | [.str z] => some (.str z)
  | _ => none
theorem cd_strStr : CallD K (fun xs H Q => ∃ a, xs = [.str a] ∧ Q (.str a) H) oStrStr := by
  intro H0 H xs ds c Q s hx ho k
  unfold oStrStr at ho
  split at ho
  · cases ho
    obtain ⟨v, rfl, h⟩ := vw1 hx
    cases h.strI
    exact ⟨_, rfl, k _ _ _ (Nw.refl s) (.str _)⟩
  · cases ho
/-- a list of the store from a text -/
theorem px_listMS {p : Pos} {e : Expr} {fa : Rho → Mem → Re (List Sl)} (hc : X.calm = true) (hg : Gl X "list") (hm : X.mg "list" = none) (hv : bootBuiltins "list" = some (.type "list")) (ha : PAX X T E [e] fa)
    (he : starEach [e] X.env = (false, eval e X.env) :: starEach [] X.env := by rfl) (hpl : (backTo pos (starEach [] X.env)).any (·.1) = false := by rfl) : PX X T E (.Call (.Name "list" p) [e] [] pos)
      (bindD fa fun ss _ m => match ss with
        | [.dat (.str z)] => if z.cps.size ≤ sizeLine then some (.ok (.opq m.length), m ++ [.lst ((sgns z).map fun y => Sl.dat (.str y))]) else none
        | _ => none) := by
  obtain ⟨⟨t, pa, s⟩, _⟩ := ha
  refine ⟨_, pe_callTy (call_listStr hc) hg hm hv pa (by decide) (by decide) he hpl, s.bind (R2 := IsS X.K) (u := fun vs _ H1 Q => rListStr vs H1 Q) fun H0 H am vs ss q ρ m σ r m' Q mo eo e gl => ?_⟩
  try dsimp only at e
  split at e
  · rename_i z
    split at e
    · rename_i hz
      cases e
      cases q with
      | cons q1 q2 =>
        cases q2
        cases q1 with
        | dat q1 =>
          cases q1
          refine ⟨z, rfl, hz, fun l hl => ?_⟩
          have tt : IsAll X.K H0 ((sgns z).map V.str) ((sgns z).map D.str) := is_strs _ _
          obtain ⟨ex, mo'⟩ := mo.push (u := .lst ((sgns z).map V.str)) (o := .lst ((sgns z).map fun y => Sl.dat (.str y))) hl ⟨_, rfl, by
            have z := IsAll.sl (am := am) tt
            rw [List.map_map] at z
            exact z⟩
          exact gl _ _ _ _ ex mo' (.opq (by rw [← mo.len]; simp))
    · cases e
  · cases e
/-! ### text[::-1] -/
def revT (z : Str) : Str := ⟨z.cps.reverse⟩
theorem sliceMade_rev (z : Str) (t tk : Tok) : sliceMade z t none none (some (-1, tk)) = .str (revT z) := by
  unfold sliceMade slicePicked
  have h1 : (((some ((-1 : Int), tk)).map (·.1)).getD 1 == 1) = false := rfl
  rw [h1]
  simp only [Bool.false_and, Bool.false_eq_true, if_false]
  unfold revT
  congr 1
  have h2 : Builtin.Str.strSliceIndices none none (-1) z.length = sliceRange ((z.length : Int) - 1) (-1) (-1) := rfl
  show (⟨(List.filterMap (fun i => z.cps[i]?) (Builtin.Str.strSliceIndices none none (-1) z.length)).toArray⟩ : Str) = _
  rw [h2, PySem.W.krv_sliceRange, PySem.W.krv_range, List.filterMap_reverse]
  have h3 : (List.range z.length).filterMap (fun i => z.cps[i]?) = z.cps.toList := PySem.W.krv_all z.cps
  rw [h3]
  apply congrArg Str.mk
  apply Array.toList_inj.mp
  rw [List.toList_toArray, Array.toList_reverse]
def tRevS (te : TE) : TE := fun σ H Q => te σ H fun x H1 => ∃ z, x = V.str z ∧ z.length ≤ sizeLine ∧ Q (V.str (revT z)) H1
theorem pe_revS {te : TE} {k : Nat} {p1 p2 p3 : Pos} (he : PE X e te) : PE X (.Subscript e (.Slice none none (some (.UnaryOp .USub (.Constant (.int 1) k p1) p2)) p3) pos) (tRevS te) := by
  refine ⟨fun pins s σ H Q I h => ?_⟩
  refine Subscript_ (thn (he.run pins s σ H _ I h) fun v s1 ⟨x, H1, I1, r1, q1⟩ => ?_)
  obtain ⟨z, rfl, hz, q⟩ := q1
  obtain ⟨t, rfl⟩ := r1
  have hst : PO X (some (.UnaryOp .USub (.Constant (.int 1) k p1) p2)) (tPart (tUn (rU fun i => .int (-i)) (tC (.int 1)))) := po_some (pe_un un_neg pe_int)
  refine wpAny_Slice (thn (po_none.run pins s1 σ H1 (fun o H2 => o = none ∧ H2 = H1) I1 ⟨rfl, rfl⟩) fun vl s2 ⟨l, H2, I2, pl, el, e2⟩ => ?_)
  subst el e2
  refine thn (po_none.run pins s2 σ H2 (fun o H3 => o = none ∧ H3 = H2) I2 ⟨rfl, rfl⟩) fun vu s3 ⟨u, H3, I3, pu, eu, e3⟩ => ?_
  subst eu e3
  refine thn (hst.run pins s3 σ H3 (fun o H4 => o = some (-1) ∧ H4 = H3) I3 ⟨1, rfl, -1, rfl, rfl, rfl⟩) fun vs s4 ⟨o, H4, I4, ps, eo, e4⟩ => ?_
  subst eo e4
  have I5 : Inv X pins σ H4 { s4 with heap := s4.heap.push { cls := .type "slice", data := .fields #[vl, vu, vs] } } := I4.kept (t' := s4.toks) fun b ob q => Heap.get?_push_of_some _ q
  show wpAny (model X.prog X.w) X.A (subscriptTail e (.Slice none none (some (.UnaryOp .USub (.Constant (.int 1) k p1) p2)) p3) (.str z t) (.ref s4.heap.objs.size)) (EP X pins σ Q) X.xe { s4 with heap := s4.heap.push { cls := .type "slice", data := .fields #[vl, vu, vs] } }
  refine tail_any (ops := [.str z t, .ref s4.heap.objs.size]) (T := "str") rfl (F.slot_str_getitem.lookup) ?_ (by with_unfolding_all rfl)
  have key : ∀ {v : Value}, IsPart v (some (-1)) → ∃ tk, v = .int (-1) tk := fun z => by cases z; exact ⟨_, rfl⟩
  obtain ⟨tk, rfl⟩ := key ps
  cases pl; cases pu
  refine wpAny_getItem_str_slice (l := none) (u := none) (st := some (-1, tk)) ⟨_, Heap.get?_push_size _ rfl, rfl, rfl⟩ (by rfl) ?_
  rw [sliceMade_rev]
  exact ⟨by show (revT z).cps.size ≤ _; unfold revT; rw [Array.size_reverse]; exact hz, .str _, H4, I5.tok _, ⟨_, rfl⟩, q⟩
def oRevS : D → Option D
  | .str z => if z.length ≤ sizeLine then some (.str (revT z)) else none
  | _ => none
def rRevS : V → Hp → VK → Prop := fun x H Q => ∃ z, x = V.str z ∧ z.length ≤ sizeLine ∧ Q (V.str (revT z)) H
theorem ud_revS : UnD K rRevS oRevS := by
  intro H0 H x d c Q s hx ho k
  unfold oRevS at ho
  split at ho
  · split at ho
    · rename_i hz
      cases ho
      cases hx.strI
      exact ⟨_, rfl, hz, k _ _ _ (Nw.refl s) (.str _)⟩
    · cases ho
  · cases ho
theorem px_revS {k : Nat} {p1 p2 p3 : Pos} (h : PX X T E a f) : PX X T E (.Subscript a (.Slice none none (some (.UnaryOp .USub (.Constant (.int 1) k p1) p2)) p3) pos) (bindD f fun s _ m => f1 oRevS s m) := by
  obtain ⟨t, p, s⟩ := h
  exact ⟨_, pe_revS p, s.bind (u := fun x _ H1 Q => rRevS x H1 Q) fun H0 H am x s q => ud_revS.at q⟩
/-- a text or a list -/
theorem px_revA {k : Nat} {p1 p2 p3 : Pos} (h : PX X T E a f) : PX X T E (.Subscript a (.Slice none none (some (.UnaryOp .USub (.Constant (.int 1) k p1) p2)) p3) pos) (orR (bindD f fun s _ m => f1 oRevS s m) (bindD f fun s _ m => f1 oRev s m)) := (px_revS h).or (px_rev h)
/-! ### text * int, few times -/
def mulT (z : Str) (k : Int) : Str := ⟨(List.replicate k.toNat z.cps).foldl (· ++ ·) #[]⟩
def okMulT (z : Str) (k : Int) : Bool := decide (2 ≤ k) && decide (k ≤ 1000) && decide (0 < z.length) && decide (z.length ≤ 1000) && decide ((mulT z k).length ≤ sizeLine)
def rMulT : R2 := fun x y H Q => ∃ z k, x = .str z ∧ y = .int k ∧ okMulT z k = true ∧ Q (.str (mulT z k)) H
theorem op_mulT : OpR X (binaryOp .Mult) rMulT := by
  intro pins s σ H x y v u Q I rx ry h
  obtain ⟨z, k, rfl, rfl, T, q⟩ := h
  obtain ⟨t, rfl⟩ := rx
  obtain ⟨t2, rfl⟩ := ry
  unfold okMulT at T
  simp only [Bool.and_eq_true, decide_eq_true_eq] at T
  obtain ⟨⟨⟨⟨h1, h2⟩, h3⟩, h4⟩, h5⟩ := T
  refine PySem.P.mul_str (by simp only [Bool.or_eq_false_iff, decide_eq_false_iff_not]; omega) (fun c _ => ?_) (fun c _ => ?_) ?_
  · have e : (9223372036854775807 : Int) / k ≥ 9223372036854775807 / 1000 := by
      apply Int.le_ediv_of_mul_le (by omega)
      omega
    have e2 : ((2 ^ 63 - 1 : Int)) = 9223372036854775807 := by decide
    rw [e2]
    omega
  · unfold Builtin.Str.tooLong
    have : z.length * k.toNat ≤ 1000 * 1000 := Nat.mul_le_mul h4 (by omega)
    simp only [decide_eq_false_iff_not, gt_iff_lt, Nat.not_lt]
    have e := sizeLine_eq
    omega
  · rw [if_neg (by omega), if_neg (by simp only [Bool.or_eq_true, beq_iff_eq]; omega)]
    exact ⟨h5, .str _, H, I.tok _, ⟨_, rfl⟩, q⟩
def oMulT : D → D → Option D
  | .str z, .int k => if okMulT z k = true then some (.str (mulT z k)) else none
  | _, _ => none
theorem od_mulT : OpD K rMulT oMulT := by
  intro H0 H x y d e c Q s hx hy ho k
  unfold oMulT at ho
  split at ho
  · split at ho
    · rename_i hc
      cases ho
      cases hx.strI; cases hy.intI
      exact ⟨_, _, rfl, rfl, hc, k _ _ _ (Nw.refl s) (.str _)⟩
    · cases ho
  · cases ho
/-! ### xs.pop(i) -/
def oPopAt (s t : Sl) (m : Mem) : Re Sl := match s, t with
  | .opq i, .dat (.int k) => match m[i]? with
    | some (.lst xs) => if 0 ≤ k ∧ xs.length ≤ sizeLine then match xs[k.toNat]? with
        | some x => some (.ok x, m.set i (.lst (xs.eraseIdx k.toNat)))
        | none => none
      else none
    | _ => none
  | _, _ => none
def fPopAt (f g : Rho → Mem → Re Sl) : Rho → Mem → Re Sl := bindD f fun s ρ m => if isLst m s = true then bindR (g ρ m) fun t m2 => oPopAt s t m2 else none
theorem paired_get {α β : Type} {F : α → β → Prop} : ∀ {xs : List α} {ys : List β} {j : Nat} {y : β}, Paired F xs ys → ys[j]? = some y → ∃ x, xs[j]? = some x ∧ F x y
  | _, _, _, _, .nil, e => by simp at e
  | _, _, 0, _, .cons r _, e => by simp at e; subst e; exact ⟨_, rfl, r⟩
  | _, _, j + 1, _, .cons _ t, e => by simp only [List.getElem?_cons_succ] at e ⊢; exact paired_get t e
theorem paired_erase {α β : Type} {F : α → β → Prop} : ∀ {xs : List α} {ys : List β} (j : Nat), Paired F xs ys → Paired F (xs.eraseIdx j) (ys.eraseIdx j)
  | _, _, _, .nil => .nil
  | _, _, 0, .cons _ t => t
  | _, _, j + 1, .cons r t => .cons r (paired_erase j t)
theorem px_popAt {apos cpos : Pos} (ha : PX X T E a f) (hb : PX X T E b g) (hbase : attributeBase a "pop" X.env (eval a X.env) = eval a X.env := by rfl)
    (hfew : ((backTo cpos (starEach (b :: []) X.env)).all (fun x => !x.1) && (backToKw cpos (keywordEach [] X.env)).all (fun x => x.1.isSome)
      && decide ((b :: []).length + ([] : List Keyword).length + (if ([] : List Keyword).isEmpty then 0 else 1) < 30)) = true := by rfl)
    (hline : (apos.endLine == cpos.line) = true := by rfl) (hs : starEach (b :: []) X.env = (false, eval b X.env) :: starEach [] X.env := by rfl) (hplain : (backTo cpos (starEach [] X.env)).any (·.1) = false := by rfl) :
    PX X T E (.Call (.Attribute a "pop" apos) [b] [] cpos) (fPopAt f g) := by
  obtain ⟨ta, pa, sa⟩ := ha
  obtain ⟨tb, pb, sb⟩ := hb
  refine ⟨_, pe_bm PySem.F.plainAttrs_list PySem.F.slot_list_pop PySem.F.type_list_pop mt_popAt pa (pa_cons pb pa_nil hs) hbase hfew hline hs hplain, ?_⟩
  refine sa.bind (R2 := IsS X.K) (u := fun x σ H1 (Q : VK) => tyV X.K "list" x H1 ∧ tb σ H1 fun y H2 => rPopAt x [y] H2 Q) fun H0 H am x s q ρ m σ r m' Q mo eo e gl => ?_
  split at e
  · rename_i hl
    obtain ⟨i, l, vs, xs, rfl, rfl, ha, hm, h0, hH, t⟩ := isLst_is mo q hl
    refine ⟨.inl ⟨rfl, vs, SqL.of hH⟩, ?_⟩
    unfold bindR at e
    cases hg : g ρ m with
    | none => rw [hg] at e; cases e
    | some z =>
      obtain ⟨z, m2⟩ := z
      rw [hg] at e
      cases z with
      | error w => cases e; exact sb H0 am H ρ m σ (.error w) _ _ mo eo hg gl
      | ok t2 =>
        refine sb H0 am H ρ m σ (.ok t2) m2 _ mo eo hg fun y H1 H' am' ex mo' q2 => ?_
        dsimp only [oPopAt] at e
        cases t2 with
        | opq j => cases e
        | dat d =>
          cases d <;> first | (cases e; done) | skip
          rename_i k
          dsimp only at e
          cases hm2 : m2[i]? with
          | none => rw [hm2] at e; cases e
          | some o =>
            rw [hm2] at e
            cases o <;> first | (cases e; done) | skip
            rename_i ys
            dsimp only at e
            split at e
            · rename_i hc
              cases hk : ys[k.toNat]? with
              | none => rw [hk] at e; cases e
              | some x =>
                rw [hk] at e
                cases e
                have ha' := ex.get ha
                cases q2 with
                | dat q2 =>
                  cases q2
                  obtain ⟨l2, e1, ⟨u, e0, e3, ws, rfl, t3⟩ | ⟨_, z, _⟩⟩ := mo'.is i _ hm2
                  · rw [ha'] at e1
                    cases e1
                    have hl2 := prd_len t3
                    have hlt : k.toNat < ys.length := (List.getElem?_eq_some_iff.mp hk).1
                    obtain ⟨w, hw, qw⟩ := paired_get t3 hk
                    obtain ⟨ex2, mo2⟩ := mo'.put (u := .lst ws) (u' := .lst (ws.eraseIdx k.toNat)) (o' := .lst ys) (o := .lst (ys.eraseIdx k.toNat)) ha' e0 e3 ⟨ws, rfl, t3⟩ ⟨_, rfl, paired_erase k.toNat t3⟩
                    have hz := hc.2
                    rw [sizeLine_eq] at hz
                    refine ⟨l, ws, k, k.toNat, w, rfl, rfl, e3, by omega, by omega, ?_, hw, gl _ _ _ _ (ex.trans ex2) mo2 (qw.ex ex2)⟩
                    have c0 : ¬ k < 0 := by omega
                    have c1 : (decide (0 ≤ k) && decide (k < (ws.length : Int))) = true := by rw [decide_eq_true hc.1, decide_eq_true (by omega)]; rfl
                    simp only [seqIndex?, if_neg c0, c1, if_true]
                  · cases z
            · cases e
  · cases e
end
end Pu
namespace Pu
open PySem PySem.Spec PyProof.Rows L2 SeK
open LamX (Tabs)
/-! ### new dicts as data: they are locked -/
def tLk (t : TE) : TE := fun σ H Q => t σ H fun x H1 => ∃ d kvs, x = V.ref d ∧ H1 d = some (.dK kvs) ∧ ∀ od, Q x (upd H1 d (.frz od (.dK kvs)))
theorem pe_lk {X : Cx} {e : Expr} {t : TE} (h : PE X e t) : PE X e (tLk t) := ⟨fun pins s σ H Q I hw =>
  thn (h.run pins s σ H _ I hw) fun v s1 ⟨x, H1, I1, r, d, kvs, ex, hd, q⟩ => by
    obtain ⟨od, I2⟩ := I1.lock hd trivial
    exact ⟨x, _, I2, r, q od⟩⟩
theorem CallR.lk {X : Cx} {f : Value} {r : List V → Hp → VK → Prop} (h : CallR X f r) : CallR X f (fun xs H Q => r xs H fun x H1 => ∃ d kvs, x = V.ref d ∧ H1 d = some (.dK kvs) ∧ ∀ od, Q x (upd H1 d (.frz od (.dK kvs)))) :=
  fun pins s σ H xs us Q I ru z => thn (h pins s σ H xs us _ I ru z) fun v s1 ⟨x, H1, I1, r, d, kvs, ex, hd, q⟩ => by
    obtain ⟨od, I2⟩ := I1.lock hd trivial
    exact ⟨x, _, I2, r, q od⟩
section
variable {K : PySem.W.Frag} {T : List (Addr × Str)} {H0 H H1 H' : Hp} {am am' : List Addr} {m : Mem}
/-- a thing beside the store is made data, changed at once -/
theorem MOk.newAt (mo : MOk K T H1 am' H' m) {p : Addr} {u u' : HO} (hp : p ∉ am') (h0 : H1 p = none) (hu : H' p = some u) (n1 : ∀ ps, u ≠ .tbl ps) (n2 : ∀ c nm, u ≠ LamX.CodeO c nm) (n : ∀ ps, u' ≠ .tbl ps) :
    Same H1 (upd H1 p u') ∧ MOk K T (upd H1 p u') am' (upd H' p u') m := by
  have s0 : Same H1 (upd H1 p u') := Same.new h0
  refine ⟨s0, mo.len, mo.nd, fun j w h => ?_, fun b w h => ?_, fun b h z => ?_, fun b ps h => ?_, tabs_but mo.tb hu n1 n2 (fun b w nn e => by rw [upd_ne nn]; exact e)⟩
  · obtain ⟨b, e1, ⟨w2, e2, e3, z⟩ | ⟨d, e2, z⟩⟩ := mo.is j w h
    · have nb : b ≠ p := by rintro rfl; exact hp (List.mem_of_getElem? e1)
      refine ⟨b, e1, .inl ⟨w2, by rw [upd_ne nb]; exact e2, by rw [upd_ne nb]; exact e3, ?_⟩⟩
      cases w with
      | lst xs => obtain ⟨vs, e1, t⟩ := z; exact ⟨vs, e1, L2.Paired.mapP t fun _ _ z => by
          cases z with
          | dat h => exact .dat (h.same s0)
          | opq h => exact .opq h⟩
      | dic ds => obtain ⟨vs, e1, t⟩ := z; exact ⟨vs, e1, t.same s0⟩
      | ins C gs => obtain ⟨dx, fs, e1, t⟩ := z; exact ⟨dx, fs, e1, t.same s0⟩
      | fz d => exact z.elim
    · exact ⟨b, e1, .inr ⟨d, e2, z.same s0⟩⟩
  · by_cases c : b = p
    · subst c; rw [upd_same] at h ⊢; exact h
    · rw [upd_ne c] at h ⊢; exact mo.sub _ _ h
  · have nb : b ≠ p := by rintro rfl; exact hp h
    exact mo.tr b h (fun o e => z o (by rw [upd_ne nb]; exact e))
  · by_cases c : b = p
    · subst c; rw [upd_same] at h; exact n ps (Option.some.inj h)
    · rw [upd_ne c] at h; exact mo.nt b ps h
theorem Ex.newAt {p : Addr} {v u' : HO} (hp : H p = none) (h0 : H0 p = none) (ex : Ex H0 (upd H p v) H1 H' am am') (nv : ∀ ps, v ≠ .tbl ps) (n : ∀ ps, u' ≠ .tbl ps) : Ex H0 H (upd H1 p u') (upd H' p u') am am' := by
  obtain ⟨r, e1, h1⟩ := ex.pre
  refine ⟨fun b o e => by rw [upd_ne (ne_of_none e h0)]; exact ex.s0 _ _ e, ⟨r, e1, fun a ha => fre_upd nv (h1 a ha) (Fre.none hp)⟩, fun a o h t nm => ?_, fun a h => ?_, fun a nm h1 st => ?_⟩
  · have c : a ≠ p := ne_of_none h hp
    rw [upd_ne c]
    exact ex.fr a o (by rw [upd_ne c]; exact h) t nm
  · by_cases c : a = p
    · rw [c]; exact Fre.none hp
    · exact fre_upd nv (ex.kp a fun o e => h o (by rw [upd_ne c]; exact e)) (Fre.none hp)
  · obtain ⟨o, e, t, t2, t3⟩ := st
    have c : a ≠ p := ne_of_none e hp
    rw [upd_ne c]
    exact ex.nw a nm h1 ⟨o, by rw [upd_ne c]; exact e, t, t2, t3⟩
/-- what was laid beside the store stays -/
theorem Ex.stays {p : Addr} {v : HO} (ex : Ex H0 H H1 H' am am') (nm : p ∉ am) (h0 : H0 p = none) (hv : H p = some v) (st : Stay H p) : p ∉ am' ∧ H1 p = none ∧ H' p = some v := by
  obtain ⟨r, e1, h1⟩ := ex.pre
  have nt : ∀ ps, v ≠ .tbl ps := by obtain ⟨o, e, t, _⟩ := st; rw [hv] at e; cases e; exact t
  refine ⟨?_, ex.nw p nm h0 st, ex.fr p v hv nt nm⟩
  rw [e1, List.mem_append]
  rintro (z | z)
  · exact nm z
  · exact not_fre hv nt (h1 p z)
theorem stay_dK {p : Addr} {kvs : List (Key × V)} (h : H p = some (.dK kvs)) : Stay H p := ⟨_, h, ⟨(fun _ z => nomatch z), (fun _ z => nomatch z), (fun _ _ _ z => nomatch z)⟩⟩
end
section
variable {X : Cx} {T : List (Addr × Str)} {E : XK} {K : PySem.W.Frag} {a b e : Expr} {es : List Expr} {f g : Rho → Mem → Re Sl} {pos : Pos}
/-- {} -/
theorem px_dnewD : PX X T E (.Dict [] [] pos) (retD (.dat (.dic []))) := by
  refine ⟨_, pe_lk pe_dnewK, fun H0 am H ρ m σ r m' Q mo eo e gl => ?_⟩
  cases e
  intro p hp
  refine ⟨p, [], rfl, upd_same, fun od => ?_⟩
  rw [upd_upd]
  have nw := Nw.alloc mo.sub (o := .frz od (.dK [])) hp
  exact gl _ _ _ am nw.ex (mo.nw nw) (.dat (.dic upd_same .nil))
/-- {k: v, ..} -/
def fDispD (r : Rho → Mem → Re (List (Key × D))) : Rho → Mem → Re Sl := fun ρ m => bindR (r ρ m) fun ps m' => if ps.length ≤ 15 then some (.ok (.dat (.dic (mergeD [] ps))), m') else none
theorem px_dispD {keys : List (Option Expr)} {values : List Expr} {r : Rho → Mem → Re (List (Key × D))} (hp : PPX X T E pos keys values r) (hall : keys.all (·.isSome) = true := by rfl) (hl : keys.length = values.length := by rfl) (h0 : keys ≠ [] := by simp) (h15 : keys.length ≤ 15 := by decide) : PX X T E (.Dict keys values pos) (fDispD r) := by
  obtain ⟨trs, p, s⟩ := hp
  refine ⟨_, pe_lk (pe_disp p hall hl h0 h15), fun H0 am H ρ m σ rr m' Q mo eo e gl => ?_⟩
  intro q hq
  obtain ⟨ex, mo1⟩ := mo.aside (u := .dK []) hq (fun _ z => nomatch z)
  have hq0 := mo.sub.free hq
  have hqm : q ∉ am := fun z => mo.tr q z (Fre.none hq)
  unfold fDispD bindR at e
  cases hr : r ρ m with
  | none => rw [hr] at e; cases e
  | some z =>
    obtain ⟨z, m1⟩ := z
    rw [hr] at e
    cases z with
    | error w => cases e; exact s H0 _ _ ρ _ σ (.error w) _ _ mo1 (eo.ex ex) hr (gl.ex ex)
    | ok ps =>
      dsimp only at e
      split at e
      · rename_i hc
        cases e
        refine s H0 _ _ ρ _ σ (.ok ps) _ _ mo1 (eo.ex ex) hr fun vs H1 H' am' ex2 mo2 ⟨kvs, e1, t⟩ => ?_
        obtain ⟨k1, k2, k3⟩ := ex2.stays hqm hq0 upd_same (stay_dK upd_same)
        refine ⟨k3, kvs, e1, by rw [t.len]; exact hc, q, _, rfl, upd_same, fun od => ?_⟩
        rw [upd_upd]
        obtain ⟨s0, mo3⟩ := mo2.newAt (u' := .frz od (.dK (mergeK [] kvs))) k1 k2 k3 (fun _ z => nomatch z) (fun _ _ z => nomatch z) (fun _ z => nomatch z)
        exact gl _ _ _ _ (ex2.newAt hq hq0 (fun _ z => nomatch z) (fun _ z => nomatch z)) mo3 (.dat (.dic upd_same ((t.same s0).merge .nil)))
      · cases e
/-! dict(list of pairs) -/
def pairsD : List D → Option (List (Key × D))
  | [] => some []
  | .tup [kd, v] :: r => match dkey kd, pairsD r with
    | some k, some ps => some ((k, v) :: ps)
    | _, _ => none
  | _ :: _ => none
theorem pairsD_is {H0 H : Hp} (s : Same H0 H) : ∀ {vs : List V} {ds : List D} {ps : List (Key × D)}, IsAll K H0 vs ds → pairsD ds = some ps → ∃ (as : List Addr) (kvs : List (Key × V)), vs = as.map V.ref ∧ Paired (fun p (kv : Key × V) => SqT K H p [kV kv.1, kv.2]) as kvs ∧ IsKv K H0 kvs ps
  | _, _, _, .nil, e => by cases e; exact ⟨[], [], rfl, .nil, .nil⟩
  | _, _, _, .cons (d := d) (ds := ds) r t, e => by
    unfold pairsD at e
    split at e
    · rename_i he; cases he
    · rename_i kd v ds' he
      injection he with h1 h2
      subst h1 h2
      cases hk : dkey kd with
      | none => rw [hk] at e; cases e
      | some k => cases hp : pairsD ds with
        | none => rw [hk, hp] at e; cases e
        | some l =>
          rw [hk, hp] at e; cases e
          obtain ⟨as, kvs, rfl, h3, h4⟩ := pairsD_is s t hp
          cases r with
          | @tup a vs' xs' hh t2 =>
            cases t2 with
            | cons q1 t2 => cases t2 with
              | cons q2 t2 =>
                cases t2
                have e1 := dkey_is (H := H) (.imm q1) hk
                subst e1
                exact ⟨a :: as, (k, _) :: kvs, rfl, .cons (hh.same s).sq h3, .cons q2 h4⟩
    · cases e
def oDictP : List D → Option D
  | [.lst xs] => (pairsD xs).map fun ps => .dic (mergeD [] ps)
  | _ => none
def rDictP (K : PySem.W.Frag) : List V → Hp → VK → Prop := fun xs H Q => ∃ (a : Addr) (ps : List Addr) (kvs : List (Key × V)), xs = [.ref a] ∧ SqL K H a (ps.map V.ref) ∧ Paired (fun p kv => SqT K H p [kV kv.1, kv.2]) ps kvs ∧
    ∀ p, H p = none → Q (.ref p) (upd H p (.dK (mergeK [] kvs)))
theorem cr_dictP (hc : X.calm = true) : CallR X (.type "dict") (fun xs H Q => rDictP X.K xs H fun x H1 => ∃ d kvs, x = V.ref d ∧ H1 d = some (.dK kvs) ∧ ∀ od, Q x (upd H1 d (.frz od (.dK kvs)))) := CallR.lk (call_dictP hc)
theorem cd_dictP : CallD K (fun xs H Q => rDictP K xs H fun x H1 => ∃ d kvs, x = V.ref d ∧ H1 d = some (.dK kvs) ∧ ∀ od, Q x (upd H1 d (.frz od (.dK kvs)))) oDictP := by
  intro H0 H xs ds c Q s hx ho k
  unfold oDictP at ho
  split at ho
  · rename_i ys
    obtain ⟨v, rfl, h⟩ := vw1 hx
    obtain ⟨a, vs, rfl, h1, t1⟩ := h.lstI s
    cases hp : pairsD ys with
    | none => rw [hp] at ho; cases ho
    | some ps =>
      rw [hp] at ho
      cases ho
      obtain ⟨as, kvs, rfl, h2, h4⟩ := pairsD_is s t1 hp
      refine ⟨a, as, kvs, rfl, SqL.of h1, h2, fun p hp => ⟨p, _, rfl, upd_same, fun od => ?_⟩⟩
      rw [upd_upd]
      have nw := Nw.alloc s (o := .frz od (.dK (mergeK [] kvs))) hp
      exact k _ _ _ nw (.dic upd_same ((h4.same nw.s0).merge .nil))
  · cases ho
end
end Pu
namespace Pu
open PySem PySem.Spec PyProof.Rows L2 SeK
open LamX (Tabs)
/-! ### a dict comprehension over a walk -/
theorem dc_it {J : It} {n : Nat} {G : Hp → Prop} {Y : Nat → Hp → V → Hp → Prop} (w : Walk J n G Y) {g : TG} {tt : TT} {tk tv : TE} {vs : List Nat} {σ : L2.St} {H1 : Hp} {D : Addr} {Qd : Hp → Prop} (Pv : Nat → Hp → Prop) (h0 : Pv 0 (upd H1 D (.dK []))) (hG : ∀ i H, i ≤ n → Pv i H → G H)
    (hs : ∀ i x H H', i < n → Pv i H → Y i H x H' → g x (wipe σ vs) H' fun σ2 H2 => wipe σ2 vs = wipe σ vs ∧ tt σ2 H2 fun b H3 =>
      if b = true then tk σ2 H3 fun y H4 => tv σ2 H4 fun z H5 => ∃ kvs k, y = kV k ∧ H5 D = some (.dK kvs) ∧ kvs.length < sizeLine ∧ Pv (i + 1) (upd H5 D (.dK (putK kvs k z))) else Pv (i + 1) H3) (hd : ∀ H, Pv n H → Qd H) :
    ∃ W : Nat → Nat → Hp → Prop, (∃ m, W 0 m (upd H1 D (.dK []))) ∧ ∀ i m H, W i m H →
      (J.stop i H ∧ Qd H) ∨ (J.go i H ∧ ∃ Nx : Hp → Prop, (∀ H', Nx H' → ∃ m', m' < m ∧ W (i + 1) m' H') ∧ ∀ x H', J.yld i H x H' → g x (wipe σ vs) H' fun σ2 H2 => wipe σ2 vs = wipe σ vs ∧ tt σ2 H2 fun b H3 =>
        if b = true then tk σ2 H3 fun y H4 => tv σ2 H4 fun z H5 => ∃ kvs k, y = kV k ∧ H5 D = some (.dK kvs) ∧ kvs.length < sizeLine ∧ Nx (upd H5 D (.dK (putK kvs k z))) else Nx H3) := by
  refine ⟨fun i m H => m = n - i ∧ i ≤ n ∧ Pv i H, ⟨n, by simp, Nat.zero_le _, h0⟩, ?_⟩
  rintro i m H ⟨rfl, hi, p⟩
  have q := hG i H hi p
  by_cases hlt : i < n
  · refine .inr ⟨w.goes i H hlt q, Pv (i + 1), fun H' p' => ⟨n - (i + 1), by omega, rfl, hlt, p'⟩, fun x H' y => hs i x H H' hlt p (w.yields i H x H' hlt q y)⟩
  · have e : i = n := by omega
    subst e
    exact .inl ⟨w.stops H q, hd H p⟩
theorem MOk.besideU {K : PySem.W.Frag} {T : List (Addr × Str)} {H0 H : Hp} {am : List Addr} {m : Mem} (mo : MOk K T H0 am H m) {p : Addr} {u u' : HO} (hp : p ∉ am) (h0 : H0 p = none) (hu : H p = some u) (n1 : ∀ ps, u ≠ .tbl ps) (n2 : ∀ c nm, u ≠ LamX.CodeO c nm) : MOk K T H0 am (upd H p u') m := by
  refine ⟨mo.len, mo.nd, fun j w h => ?_, fun b w h => ?_, fun b h z => ?_, mo.nt, tabs_but mo.tb hu n1 n2 (fun b w nn e => by rw [upd_ne nn]; exact e)⟩
  · obtain ⟨b, e1, ⟨w2, e2, e3, z⟩ | ⟨d, e2, z⟩⟩ := mo.is j w h
    · exact ⟨b, e1, .inl ⟨w2, e2, by rw [upd_ne (by rintro rfl; exact hp (List.mem_of_getElem? e1))]; exact e3, z⟩⟩
    · exact ⟨b, e1, .inr ⟨d, e2, z⟩⟩
  · rw [upd_ne (by rintro rfl; rw [h0] at h; cases h)]
    exact mo.sub _ _ h
  · exact mo.tr b h (fun o e => z o (by rw [upd_ne (by rintro rfl; exact hp h)]; exact e))
theorem Ex.atNew {H0 H H1 H' : Hp} {am am' : List Addr} {p : Addr} {u' : HO} (ex : Ex H0 H H1 H' am am') (hp : H p = none) (h1 : H1 p = none) : Ex H0 H (upd H1 p u') (upd H' p u') am am' := by
  refine ⟨fun b o e => ?_, ex.pre, fun a o h t nm => ?_, fun a h => ?_, fun a nm h1 st => ?_⟩
  · have e2 := ex.s0 _ _ e
    rw [upd_ne (ne_of_none e2 h1)]
    exact e2
  · rw [upd_ne (ne_of_none h hp)]
    exact ex.fr a o h t nm
  · by_cases c : a = p
    · rw [c]; exact Fre.none hp
    · exact ex.kp a fun o e => h o (by rw [upd_ne c]; exact e)
  · obtain ⟨o, e, t, t2, t3⟩ := st
    rw [upd_ne (ne_of_none e hp)]
    exact ex.nw a nm h1 ⟨o, e, t, t2, t3⟩
/-- the data that a dict comprehension makes -/
def fDc (g : Sl → Rho → Option Rho) (p : Rho → Mem → Re Bool) (fk fv : Rho → Mem → Re Sl) (ρ : Rho) : List D → Mem → List (Key × D) → Option (List (Key × D) × Mem)
  | [], m, acc => some (acc, m)
  | d :: ds, m, acc => match g (.dat d) ρ with
    | none => none
    | some ρ1 => match p ρ1 m with
      | some (.ok true, m1) => match fk ρ1 m1 with
        | some (.ok (.dat kd), m2) => match fv ρ1 m2, dkey kd with
          | some (.ok (.dat x), m3), some k => fDc g p fk fv ρ ds m3 (putD acc k x)
          | _, _ => none
        | _ => none
      | some (.ok false, m1) => fDc g p fk fv ρ ds m1 acc
      | _ => none
def fDcD (g : Sl → Rho → Option Rho) (p : Rho → Mem → Re Bool) (fk fv : Rho → Mem → Re Sl) (vs : List Nat) (ds : List D) : Rho → Mem → Re Sl := fun ρ m => if ds.length < sizeLine then match fDc g p fk fv (wipeR ρ vs) ds m [] with
  | some (xs, m') => some (.ok (.dat (.dic xs)), m')
  | none => none
  else none
def fDcE (it : Rho → Mem → Re (List D)) (g : Sl → Rho → Option Rho) (p : Rho → Mem → Re Bool) (fk fv : Rho → Mem → Re Sl) (vs : List Nat) : Rho → Mem → Re Sl := bindD it fun ds => fDcD g p fk fv vs ds
theorem putK_le {kvs : List (Key × V)} {k : Key} {v : V} : (putK kvs k v).length ≤ kvs.length + 1 := by
  unfold putK
  split <;> simp
theorem dc_sound {K : PySem.W.Frag} {T : List (Addr × Str)} {J : It} {ds : List D} {H0 H : Hp} {am : List Addr} {g : Sl → Rho → Option Rho} {p : Rho → Mem → Re Bool} {fk fv : Rho → Mem → Re Sl} {vs sl : List Nat} {ρ : Rho} {σ : L2.St} {m m' : Mem} {xs : List (Key × D)} {D : Addr} {Qd : Hp → Prop}
    (wk : Wk K H0 am J ds) (mo : MOk K T H0 am H m) (eo : EnvOk K H0 am ρ σ) (hsl : ∀ i ∈ sl, i ∈ vs) (hz : ds.length < sizeLine) (e : fDc g p fk fv (wipeR ρ vs) ds m [] = some (xs, m')) (hD : H D = none)
    (fin : ∀ H0' H' am' ws, Ex H0 H H0' H' am am' → MOk K T H0' am' H' m' → D ∉ am' → H0' D = none → H' D = some (.dK ws) → IsKv K H0' ws xs → Qd H') :
    ∃ W : Nat → Nat → Hp → Prop, (∃ m, W 0 m (upd H D (.dK []))) ∧ ∀ i m H, W i m H →
      (J.stop i H ∧ Qd H) ∨ (J.go i H ∧ ∃ Nx : Hp → Prop, (∀ H', Nx H' → ∃ m', m' < m ∧ W (i + 1) m' H') ∧ ∀ x H', J.yld i H x H' → tOfG K sl g x (wipe σ vs) H' fun σ2 H2 => wipe σ2 vs = wipe σ vs ∧ tOf K T E0 IsT p σ2 H2 fun b H3 =>
        if b = true then tOf K T E0 (IsS K) fk σ2 H3 fun y H4 => tOf K T E0 (IsS K) fv σ2 H4 fun z H5 => ∃ kvs k, y = kV k ∧ H5 D = some (.dK kvs) ∧ kvs.length < sizeLine ∧ Nx (upd H5 D (.dK (putK kvs k z))) else Nx H3) := by
  have nD : D ∉ am := fun z => mo.tr D z (Fre.none hD)
  have h0D : H0 D = none := mo.sub.free hD
  obtain ⟨exA, moA⟩ := mo.aside (u := .dK []) hD (fun _ z => nomatch z)
  refine dc_it wk (fun i H' => ∃ H0' am' mm acc ws, Ex H0 H H0' H' am am' ∧ MOk K T H0' am' H' mm ∧ D ∉ am' ∧ H0' D = none ∧ H' D = some (.dK ws) ∧ IsKv K H0' ws acc ∧ ws.length ≤ i ∧ fDc g p fk fv (wipeR ρ vs) (ds.drop i) mm acc = some (xs, m')) ?_ ?_ ?_ ?_
  · exact ⟨H0, am, m, [], [], exA, moA, nD, h0D, upd_same, .nil, Nat.zero_le _, e⟩
  · rintro i H' _ ⟨H0', am', mm, acc, ws, ex, mo', _⟩
    exact ex.s0.trans mo'.sub
  · rintro i x H' H'' hi ⟨H0', am', mm, acc, ws, ex, mo', hDa, hD0, hDl, hacc, hwl, e'⟩ hy
    obtain ⟨H1, d, nw, hd, q⟩ := hy H0' ex.s0 mo'.sub
    have hdrop : ds.drop i = d :: ds.drop (i + 1) := by
      rw [List.drop_eq_getElem_cons hi]
      congr 1
      rw [List.getElem?_eq_getElem hi] at hd
      exact Option.some.inj hd
    rw [hdrop] at e'
    simp only [fDc] at e'
    cases hg : g (.dat d) (wipeR ρ vs) with
    | none => rw [hg] at e'; cases e'
    | some ρ1 =>
      rw [hg] at e'
      dsimp only at e'
      have mo1 := mo'.nw nw
      have ex1 : Ex H0 H H1 H'' am am' := ex.trans nw.ex
      have hD1 : H1 D = none := nw.new D hD0 (by rw [hDl]; exact fun z => nomatch z)
      have hDl1 : H'' D = some (.dK ws) := nw.s _ _ hDl
      refine ⟨H1, am', wipeR ρ vs, ρ1, .dat d, mo1.sub, (eo.ex ex1).wipe vs, .dat q, hg, fun σ2 eo2 hw => ⟨by rw [hw vs hsl, wipe_wipe], ?_⟩⟩
      have stay : ∀ {H0a Ha H0b Hb : Hp} {ama amb : List Addr}, Ex H0a Ha H0b Hb ama amb → D ∉ ama → H0a D = none → Ha D = some (.dK ws) → D ∉ amb ∧ H0b D = none ∧ Hb D = some (.dK ws) := fun {H0a Ha H0b Hb ama amb} exx h1 h2 h3 => exx.stays h1 h2 h3 (stay_dK h3)
      cases hp : p ρ1 mm with
      | none => rw [hp] at e'; cases e'
      | some z =>
        obtain ⟨z, m1⟩ := z
        rw [hp] at e'
        cases z with
        | error w => cases e'
        | ok b =>
          refine ⟨ρ1, mm, H1, am', .ok b, m1, mo1, eo2, hp, fun b2 H2 H3 am2 ex2 mo2 z => ?_⟩
          cases z
          obtain ⟨hDa2, hD02, hDl2⟩ := stay ex2 hDa hD1 hDl1
          cases b with
          | false => exact iteF ⟨H2, am2, m1, acc, ws, ex1.trans ex2, mo2, hDa2, hD02, hDl2, (hacc.same nw.s0).same ex2.s0, by omega, e'⟩
          | true =>
            refine iteT ?_
            dsimp only at e'
            cases hk : fk ρ1 m1 with
            | none => rw [hk] at e'; cases e'
            | some z =>
              obtain ⟨z, m2⟩ := z
              rw [hk] at e'
              cases z with
              | error w => cases e'
              | ok s =>
                cases s with
                | opq i => cases e'
                | dat kd =>
                  dsimp only at e'
                  refine ⟨ρ1, m1, H2, am2, .ok (.dat kd), m2, mo2, eo2.ex ex2, hk, fun y H4 H5 am3 ex3 mo3 qy => ?_⟩
                  obtain ⟨hDa3, hD03, hDl3⟩ := stay ex3 hDa2 hD02 hDl2
                  cases hf : fv ρ1 m2 with
                  | none => rw [hf] at e'; cases e'
                  | some z =>
                    obtain ⟨z, m3⟩ := z
                    rw [hf] at e'
                    cases z with
                    | error w => cases e'
                    | ok s =>
                      cases s with
                      | opq i => cases e'
                      | dat x2 =>
                        cases hdk : dkey kd with
                        | none => rw [hdk] at e'; cases e'
                        | some k =>
                          rw [hdk] at e'
                          dsimp only at e'
                          refine ⟨ρ1, m2, H4, am3, .ok (.dat x2), m3, mo3, (eo2.ex ex2).ex ex3, hf, fun y2 H6 H7 am4 ex4 mo4 qy2 => ?_⟩
                          obtain ⟨hDa4, hD04, hDl4⟩ := stay ex4 hDa3 hD03 hDl3
                          cases qy with
                          | dat qy => cases qy2 with
                            | dat qy2 =>
                              have ek := dkey_is (H := H7) (.imm qy) hdk
                              refine ⟨ws, k, ek, hDl4, by omega, H6, am4, m3, putD acc k x2, putK ws k y2, ?_, ?_, hDa4, hD04, upd_same, ?_, by have := putK_le (kvs := ws) (k := k) (v := y2); omega, e'⟩
                              · have exx := ex1.trans (ex2.trans (ex3.trans ex4))
                                refine ⟨exx.s0, exx.pre, fun a o h t n => ?_, fun a h => ?_, exx.nw⟩
                                · rw [upd_ne (ne_of_none h hD)]
                                  exact exx.fr a o h t n
                                · by_cases c : a = D
                                  · rw [c]; exact Fre.none hD
                                  · exact exx.kp a (fun o e => h o (by rw [upd_ne c]; exact e))
                              · exact mo4.besideU hDa4 hD04 hDl4 (fun _ z => nomatch z) (fun _ _ z => nomatch z)
                              · exact IsKv.put qy2 (((hacc.same nw.s0).same ex2.s0).same ex3.s0 |>.same ex4.s0)
  · rintro H' ⟨H0', am', mm, acc, ws, ex, mo', hDa, hD0, hDl, hacc, hwl, e'⟩
    rw [List.drop_length] at e'
    cases e'
    exact fin H0' H' am' ws ex mo' hDa hD0 hDl hacc
section
variable {X : Cx} {T : List (Addr × Str)} {E : XK} {tg iter kx vx : Expr} {ifs : List Expr} {pos : Pos}
theorem px_dc {scope : Scope} {own : List (Str × Nat)} {it : Rho → Mem → Re (List D)} {g : Sl → Rho → Option Rho} {p : Rho → Mem → Re Bool} {fk fv : Rho → Mem → Re Sl} {sl : List Nat} (hc : X.calm = true) (hN : X.N.Nodup) (hi : PIX X T E tg iter it) (ok : BlkOk X.N X.env.scope scope own)
    (hg : ∀ (s : Shared) (H : Hp) (C : Addr) (cl : List (Str × Addr)) (fp : List Addr), PGX (X.blk s H scope (compEnvC scope cl C X.env) fp) tg sl g) (hsl : ∀ i ∈ sl, i ∈ own.map (·.2))
    (ht : ∀ (s : Shared) (H : Hp) (C : Addr) (cl : List (Str × Addr)) (fp : List Addr), PTsX (X.blk s H scope (compEnvC scope cl C X.env) fp) T ifs p)
    (hk : ∀ (s : Shared) (H : Hp) (C : Addr) (cl : List (Str × Addr)) (fp : List Addr), PX (X.blk s H scope (compEnvC scope cl C X.env) fp) T E0 kx fk)
    (he : ∀ (s : Shared) (H : Hp) (C : Addr) (cl : List (Str × Addr)) (fp : List Addr), PX (X.blk s H scope (compEnvC scope cl C X.env) fp) T E0 vx fv) (hs : ∀ x, foldedSetIterable iter X.env x = pure x := by intro _; rfl) :
    PX X T E (.DictComp kx vx [⟨tg, iter, ifs, 0⟩] scope pos) (fDcE it g p fk fv (own.map (·.2))) := by
  obtain ⟨wi, p1, s1⟩ := hi
  refine ⟨_, pe_lk (pe_dc (g := tOfG X.K sl g) (tt := tOf X.K T E0 IsT p) (tk := tOf X.K T E0 (IsS X.K) fk) (tv := tOf X.K T E0 (IsS X.K) fv) hc hN p1 ok (fun s H C cl fp => (hg s H C cl fp).can) (fun s H C cl fp => (ht s H C cl fp).ex) (fun s H C cl fp => (hk s H C cl fp).can) (fun s H C cl fp => (he s H C cl fp).can) hs), ?_⟩
  refine s1.bind (R2 := IsS X.K) (u := fun (J : It) σ H1 (Q : VK) => ∀ D, H1 D = none → ∃ W : Nat → Nat → Hp → Prop, (∃ m, W 0 m (upd H1 D (.dK []))) ∧ ∀ i m H, W i m H →
      (J.stop i H ∧ (∃ d kvs, V.ref D = V.ref d ∧ H d = some (.dK kvs) ∧ ∀ od, Q (V.ref D) (upd H d (.frz od (.dK kvs))))) ∨ (J.go i H ∧ ∃ Nx : Hp → Prop, (∀ H', Nx H' → ∃ m', m' < m ∧ W (i + 1) m' H') ∧ ∀ x H', J.yld i H x H' → tOfG X.K sl g x (wipe σ (own.map (·.2))) H' fun σ2 H2 => wipe σ2 (own.map (·.2)) = wipe σ (own.map (·.2)) ∧ tOf X.K T E0 IsT p σ2 H2 fun b H3 =>
        if b = true then tOf X.K T E0 (IsS X.K) fk σ2 H3 fun y H4 => tOf X.K T E0 (IsS X.K) fv σ2 H4 fun z H5 => ∃ kvs k, y = kV k ∧ H5 D = some (.dK kvs) ∧ kvs.length < sizeLine ∧ Nx (upd H5 D (.dK (putK kvs k z))) else Nx H3))
    (g := fDcD g p fk fv (own.map (·.2))) fun H0 H am J ds wk ρ m σ r m' Q mo eo e gl => ?_
  intro D hD
  unfold fDcD at e
  split at e
  · rename_i hz
    cases hr : fDc g p fk fv (wipeR ρ (own.map (·.2))) ds m [] with
    | none => rw [hr] at e; cases e
    | some z =>
      obtain ⟨xs, m1⟩ := z
      rw [hr] at e
      cases e
      refine dc_sound wk mo eo hsl hz hr hD fun H0' H' am' ws ex mo' hDa hD0 hDl hws => ⟨D, ws, rfl, hDl, fun od => ?_⟩
      obtain ⟨s0, mo3⟩ := mo'.newAt (u' := .frz od (.dK ws)) hDa hD0 hDl (fun _ z => nomatch z) (fun _ _ z => nomatch z) (fun _ z => nomatch z)
      exact gl _ _ _ am' (ex.atNew hD hD0) mo3 (.dat (.dic upd_same (hws.same s0)))
  · cases e
end
/-! ### walks over data, dicts by their keys and lists that stand locked among them -/
def keyD : Key → D
  | .inl i => .int i
  | .inr z => .str z
def itA : D → Option (List D)
  | .frl xs => some xs
  | .dic kvs => some (kvs.map fun kv => keyD kv.1)
  | d => itD d
def fIterA (f : Rho → Mem → Re Sl) : Rho → Mem → Re (List D) := bindD f fun s _ m => match s with
  | .dat d => match itA d with
    | some ds => some (.ok ds, m)
    | none => none
  | .opq _ => none
theorem keyD_is {K : PySem.W.Frag} {H : Hp} (k : Key) : Is K H (kV k) (keyD k) := by
  cases k with
  | inl i => exact .int i
  | inr z => exact .str z
section
variable {X : Cx} {T : List (Addr × Str)} {E : XK} {tg e : Expr} {f : Rho → Mem → Re Sl}
def fIterD (f : Rho → Mem → Re Sl) : Rho → Mem → Re (List D) := bindD f fun s _ m => match s with
  | .dat (.dic kvs) => some (.ok (kvs.map fun kv => keyD kv.1), m)
  | _ => none
def fIterF (f : Rho → Mem → Re Sl) : Rho → Mem → Re (List D) := bindD f fun s _ m => match s with
  | .dat (.frl xs) => some (.ok xs, m)
  | _ => none
theorem pix_dic (h : PX X T E e f) : PIX X T E tg e (fIterD f) := by
  obtain ⟨t, p, s⟩ := h
  refine ⟨_, pi_keys p, s.bind (u := fun x σ H1 R => ∃ d o, x = V.ref d ∧ ((∃ kvs, H1 d = some (.frz o (.dK kvs)) ∧ R (Itk d o kvs) H1) ∨ ∃ kvs, H1 d = some (.frz o (.dT kvs)) ∧ R (Itkt d o kvs) H1)) fun H0 H am x a q ρ m σ r m' Q mo eo e gl => ?_⟩
  try dsimp only at e
  split at e
  · rename_i kvs
    cases e
    cases q with
    | dat q => cases q with
      | @dic a o ws ds hh t =>
        refine ⟨a, o, rfl, .inl ⟨ws, mo.sub _ _ hh, gl _ H0 H am Ex.refl mo ?_⟩⟩
        unfold Wk
        rw [List.length_map, ← t.len]
        have w := walk_keys (d := a) (o := o) (kvs := ws)
        refine ⟨fun i H hi h => w.goes i H hi (h _ _ hh), fun H h => w.stops H (h _ _ hh), fun i H x H' hi h y H0c s1 s2 => ?_⟩
        obtain ⟨rfl, k, v, e1, rfl⟩ := w.yields i H x H' hi (h _ _ hh) y
        refine ⟨H0c, keyD k, Nw.refl s2, ?_, keyD_is k⟩
        have e2 := congrArg (fun l : List Key => l[i]?) t.keys
        simp only [List.getElem?_map] at e2 ⊢
        rw [e1] at e2
        cases hd : kvs[i]? with
        | none => rw [hd] at e2; cases e2
        | some z => rw [hd] at e2; simp only [Option.map_some, Option.some.injEq] at e2 ⊢; rw [← e2]
  · cases e
theorem pix_frl (h : PX X T E e f) : PIX X T E tg e (fIterF f) := by
  obtain ⟨t, p, s⟩ := h
  refine ⟨_, pi_list p, fun H0 am H ρ m σ r m' R mo eo e gl => ?_⟩
  unfold fIterF bindD bindR at e
  cases hf : f ρ m with
  | none => simp only [hf] at e; cases e
  | some z =>
    obtain ⟨z, m1⟩ := z
    simp only [hf] at e
    cases z with
    | error w => cases e; exact s H0 am H ρ m σ (.error w) _ _ mo eo hf gl
    | ok a =>
      try dsimp only at e
      split at e
      · rename_i xs
        cases e
        refine s H0 am H ρ m σ (.ok (.dat (.frl xs))) _ _ mo eo hf fun v H1 H' am' ex mo' q => ?_
        cases q with
        | dat q => cases q with
          | frl h t =>
            have w : ∀ a vs, SqL X.K H1 a vs → Walk (Itl X.K a) vs.length (fun H => Same H1 H) (YAt vs) := fun a vs h => walk_list.mono (fun H z => z.seq h) fun _ _ _ _ _ _ y => y
            exact ⟨_, rfl, ⟨_, mo'.sub.seq h⟩, gl _ H1 H' am' ex mo' (wk_yat t (w _ _ h))⟩
      · cases e
theorem PIX.or {f g : Rho → Mem → Re (List D)} (h1 : PIX X T E tg e f) (h2 : PIX X T E tg e g) : PIX X T E tg e (orR f g) := by
  obtain ⟨t1, p1, s1⟩ := h1
  obtain ⟨t2, p2, s2⟩ := h2
  refine ⟨_, PI.or p1 p2, fun H0 am H ρ m σ r m' Q mo eo e gl => ?_⟩
  unfold orR at e
  cases hf : f ρ m with
  | some x => rw [hf] at e; cases e; exact .inl (s1 H0 am H ρ m σ r m' Q mo eo hf gl)
  | none => rw [hf] at e; exact .inr (s2 H0 am H ρ m σ r m' Q mo eo e gl)
theorem or_A (f : Rho → Mem → Re Sl) (ρ : Rho) (m : Mem) : ∀ x, fIterA f ρ m = some x → orR (fIter f) (orR (fIterD f) (fIterF f)) ρ m = some x := by
  intro x e
  unfold fIterA bindD bindR at e
  unfold orR fIter fIterD fIterF bindD bindR
  cases hf : f ρ m with
  | none => rw [hf] at e; cases e
  | some z =>
    obtain ⟨z, m1⟩ := z
    rw [hf] at e
    cases z with
    | error w => exact e
    | ok a =>
      cases a with
      | opq i => cases e
      | dat d => cases d <;> exact e
theorem PIX.imp {f g : Rho → Mem → Re (List D)} (h : PIX X T E tg e f) (k : ∀ ρ m x, g ρ m = some x → f ρ m = some x) : PIX X T E tg e g := by
  obtain ⟨t, p, s⟩ := h
  exact ⟨t, p, fun H0 am H ρ m σ r m' Q mo eo e gl => s H0 am H ρ m σ r m' Q mo eo (k _ _ _ e) gl⟩
theorem pix_any (h : PX X T E e f) : PIX X T E tg e (fIterA f) := ((pix_iter h).or ((pix_dic h).or (pix_frl h))).imp fun ρ m x e => or_A f ρ m x e
end
end Pu
/-! a != b of lists, within one model -/
namespace NeW
open PySem PySem.SeqAt
open AutoSeq1 (wpAny_loadPart')
open MeetsSeq MeetsSeq2 MeetsSeq3 SeqRoads2
section
variable {P : Program} {wo : World}
theorem turns (la lb : Addr) (xs ys : Array Value) (c1 c2 : Nat) (d1 d2 : Option Addr) (s1 s2 : Array (Option Value)) (hz : xs.size = ys.size) (e : Nat → Bool) (left : Nat) :
    ∀ i : Nat, xs.size - i = left → MeetsIn P wo (Builtin.«list.__eq__.loop» ⟨[.ref la, .ref lb, rawInt i, rawInt 3], []⟩)
      (fun A R s => s.heap.get? la = some ⟨.type "list", d1, .seq xs c1, s1⟩ ∧ s.heap.get? lb = some ⟨.type "list", d2, .seq ys c2, s2⟩ ∧ (∀ j (h1 : j < xs.size) (h2 : j < ys.size), EqP P wo A.in1 s xs[j] ys[j] (e j)) ∧ R (.ok (.ret (.bool (!((List.range xs.size).drop i).all e)))) s) := by
  induction left with
  | zero =>
    intro i hk A R s h
    obtain ⟨hp, g, d, tk, os⟩ := s
    obtain ⟨ga, gb, ev, fin⟩ := h
    wp_walk using wpAny_loadPart' ga, wpAny_loadPart' gb
    have n1 : xs[((i : Nat) : Int).toNat]? = none := by simp; omega
    have n2 : ys[((i : Nat) : Int).toNat]? = none := by simp; omega
    rw [show (List.range xs.size).drop i = [] by simp; omega] at fin
    rw [n1, n2]
    wp_walk using wpAny_loadPart' ga, wpAny_loadPart' gb
    show R (.ok (.ret (.bool (xs.size != ys.size)))) _
    rw [hz]
    simpa using fin
  | succ left ih =>
    intro i hk A R s h
    obtain ⟨hp, g, d, tk, os⟩ := s
    obtain ⟨ga, gb, ev, fin⟩ := h
    wp_walk using wpAny_loadPart' ga, wpAny_loadPart' gb
    have l1 : i < xs.size := by omega
    have l2 : i < ys.size := by omega
    have n1 : xs[((i : Nat) : Int).toNat]? = some xs[i] := by simp [l1]
    have n2 : ys[((i : Nat) : Int).toNat]? = some ys[i] := by simp [l2]
    rw [show (List.range xs.size).drop i = i :: (List.range xs.size).drop (i + 1) by simp [List.drop_eq_getElem_cons, l1], List.all_cons] at fin
    have hc : ((i : Int) + 1) = ((i + 1 : Nat) : Int) := by push_cast; rfl
    rw [n1, n2]
    refine wpAny_bind (ev i l1 l2 _ _ ?_)
    cases q : e i with
    | true =>
      rw [q] at fin
      wp_walk
      rw [hc]
      refine ⟨plainId_quiet plain_eq_loop _, codeAny_builtin entry_eq_loop ?_⟩
      rw [Around.under_plainId plain_eq_loop _]
      exact ih (i + 1) (by omega) A R _ ⟨ga, gb, ev, by simpa using fin⟩
    | false =>
      rw [q] at fin
      wp_walk using wpAny_loadPart' ga, wpAny_loadPart' gb
      rw [n1, n2]
      wp_walk
      simpa using fin
theorem ne_in (la lb : Addr) (xs ys : Array Value) (c1 c2 : Nat) (d1 d2 : Option Addr) (s1 s2 : Array (Option Value)) (hz : xs.size = ys.size) (e : Nat → Bool) : MeetsIn P wo (Builtin.«list.__ne__» ⟨[.ref la, .ref lb], []⟩)
      (fun A R s => s.heap.get? la = some ⟨.type "list", d1, .seq xs c1, s1⟩ ∧ s.heap.get? lb = some ⟨.type "list", d2, .seq ys c2, s2⟩ ∧ (∀ j (h1 : j < xs.size) (h2 : j < ys.size), EqP P wo A.in1 s xs[j] ys[j] (e j)) ∧ R (.ok (.ret (.bool (!(List.range xs.size).all e)))) s) := by
  intro A R s h
  obtain ⟨hp, g, d, tk, os⟩ := s
  obtain ⟨ga, gb, ev, fin⟩ := h
  have f3 := AutoSeq1.sub_list_list
  have hne : ¬ (xs.size != ys.size) = true := by simp [hz]
  wp_walk using wpAny_loadPart' ga, wpAny_loadPart' gb
  refine ⟨plainId_quiet plain_eq_loop _, codeAny_builtin entry_eq_loop ?_⟩
  rw [Around.under_plainId plain_eq_loop _]
  exact turns la lb xs ys c1 c2 d1 d2 s1 s2 hz e _ 0 rfl A R _ ⟨ga, gb, ev, by simpa using fin⟩
theorem rc_ne {A : Around} {s : Shared} {la lb : Addr} {xs ys : Array Value} {e : Nat → Bool} (hl : s.heap.IsList la xs) (hb : s.heap.IsList lb ys) (hz : xs.size = ys.size) (hu : A.units < cLine)
    (ev : ∀ j (h1 : j < xs.size) (h2 : j < ys.size), EqP P wo A.in1 s xs[j] ys[j] (e j)) (E Q : Value → Shared → Prop) (h : Q (.bool (!(List.range xs.size).all e)) s) : wpAny (model P wo) A (richCompare .NotEq (.ref la) (.ref lb)) Q E s := by
  obtain ⟨⟨k1, d1, t1, s1⟩, ho, hc, c1, hd⟩ := id hl
  obtain ⟨⟨k2, d2, t2, s2⟩, ho2, hc2, c2, hd2⟩ := id hb
  dsimp only at hc hd hc2 hd2
  subst hc hd hc2 hd2
  have ta : s.TypeIs (.ref la) "list" := ⟨_, ho, rfl⟩
  have tb : s.TypeIs (.ref lb) "list" := ⟨_, ho2, rfl⟩
  exact wpAny_richCompare_same_room (op := .NotEq) ta tb F.slot_list_ne (call_meetsIn F.slot_list_ne ta F.entry_list_ne (F.args_list_ne_2 _ _) (ne_in la lb xs ys c1 c2 d1 d2 s1 s2 hz e) ⟨ho, ho2, ev, show _ ∧ _ from ⟨(fun x => nomatch x), h⟩⟩) hu
end
end NeW
namespace Pu
open PySem PySem.Spec PyProof.Rows L2 SeK
open LamX (Tabs)
/-! ### == of dicts with flat values -/
def eqKvV (ks ls : List (Key × V)) : Bool := ks.length == ls.length && ks.all fun p => match valV ls p.1 with
  | some u => eqV p.2 u
  | none => false
def eqKv (ks ls : List (Key × D)) : Bool := ks.length == ls.length && ks.all fun p => match valD ls p.1 with
  | some u => eqF p.2 u
  | none => false
theorem valV_mem' {κ : Type} [DecidableEq κ] {ls : List (κ × V)} {k : κ} {u : V} (h : valV ls k = some u) : ∃ p ∈ ls, p.2 = u := by
  unfold valV at h
  cases e : ls.find? fun kv => decide (kv.1 = k) with
  | none => rw [e] at h; cases h
  | some p => rw [e] at h; cases h; exact ⟨p, List.mem_of_find?_eq_some e, rfl⟩
theorem hits_flat {A : Around} {s : Shared} {ls : List (Key × V)} {vb : List (Key × Value)} (rb : KV ls vb) (fl : ∀ p ∈ ls, flatV p.2 = true) : ∀ {ks : List (Key × V)} {va : List (Key × Value)}, KV ks va → (∀ p ∈ ks, flatV p.2 = true) →
    PySem.W.KeqHits A s vb va (ks.all fun p => match valV ls p.1 with
      | some u => eqV p.2 u
      | none => false) := by
  intro ks va ra
  unfold KV at ra
  induction ra with
  | nil => intro _; exact .nil
  | @cons p q ps qs h t ih =>
    intro fk
    obtain ⟨k, v⟩ := q
    obtain ⟨h1, h2⟩ := h
    have e1 : p.1 = k := h1
    have r := rb.val p.1
    rw [List.all_cons]
    cases hv : valV ls p.1 with
    | none =>
      rw [hv] at r
      rw [e1] at r
      exact .miss r.none_of
    | some u =>
      rw [hv] at r
      rw [e1] at r
      obtain ⟨y, hy, ry⟩ := r.some_of
      obtain ⟨p2, m2, e2⟩ := valV_mem' hv
      exact .hit hy (eqAt_V h2 ry (fk p List.mem_cons_self) (by rw [← e2]; exact fl p2 m2)) (ih fun p' hm => fk p' (List.mem_cons_of_mem _ hm))
def rDicC (neg : Bool) : R2 := fun x y H Q => ∃ a b ks ls, x = .ref a ∧ y = .ref b ∧ Rd H a (.dK ks) ∧ Rd H b (.dK ls) ∧ (∀ p ∈ ks, flatV p.2 = true) ∧ (∀ p ∈ ls, flatV p.2 = true) ∧ Q (.bl (if neg then !eqKvV ks ls else eqKvV ks ls)) H
section
variable {X : Cx} {K : PySem.W.Frag}
theorem kv_len {κ : Type} {ks : List (κ × V)} {vs : List (κ × Value)} (h : KV ks vs) : ks.length = vs.length := Paired.length h
theorem op_eq_dic (hu : X.A.units < cLine) : OpR X (compareOp .Eq) (rDicC false) := by
  intro pins s σ H x y v u Q I rx ry ⟨a, b, ks, ls, ex, ey, ea, eb, fk, fl, q⟩
  subst ex ey
  obtain rfl : v = Value.ref a := rx
  obtain rfl : u = Value.ref b := ry
  obtain ⟨_, ya, va, ra, da⟩ : ObjOk X.prog X.w H s.heap a (.dK ks) := ea.ok I.hok
  obtain ⟨_, yb, vb, rb, db⟩ : ObjOk X.prog X.w H s.heap b (.dK ls) := eb.ok I.hok
  refine PySem.W.keq_eq (knd := mixKind X.prog X.w) ya yb da db hu (fun _ => hits_flat rb fl ra fk) (fin_bl I q ?_)
  unfold eqKvV
  rw [kv_len ra, kv_len rb]
  rfl
theorem op_ne_dic (hu : X.A.units < cLine) : OpR X (compareOp .NotEq) (rDicC true) := by
  intro pins s σ H x y v u Q I rx ry ⟨a, b, ks, ls, ex, ey, ea, eb, fk, fl, q⟩
  subst ex ey
  obtain rfl : v = Value.ref a := rx
  obtain rfl : u = Value.ref b := ry
  obtain ⟨_, ya, va, ra, da⟩ : ObjOk X.prog X.w H s.heap a (.dK ks) := ea.ok I.hok
  obtain ⟨_, yb, vb, rb, db⟩ : ObjOk X.prog X.w H s.heap b (.dK ls) := eb.ok I.hok
  refine PySem.W.keq_ne (knd := mixKind X.prog X.w) ya yb da db hu (fun _ => hits_flat rb fl ra fk) (fin_bl I q ?_)
  unfold eqKvV
  rw [kv_len ra, kv_len rb]
  rfl
def flatKv (ks : List (Key × D)) : Bool := ks.all fun p => flatD p.2
theorem flatKv_is {H0 : Hp} : ∀ {vs : List (Key × V)} {ds : List (Key × D)}, IsKv K H0 vs ds → flatKv ds = true → ∀ p ∈ vs, flatV p.2 = true
  | _, _, .nil, _, p, hp => absurd hp (by simp)
  | _, _, .cons r t, f, p, hp => by
    unfold flatKv at f
    rw [List.all_cons, Bool.and_eq_true] at f
    rcases List.mem_cons.mp hp with rfl | hp
    · exact flat_is (H := H0) (.imm r) f.1
    · exact flatKv_is t f.2 p hp
theorem valD_mem {ls : List (Key × D)} {k : Key} {u : D} (h : valD ls k = some u) : ∃ p ∈ ls, p.2 = u := by
  unfold valD at h
  cases e : ls.find? fun kv => decide (kv.1 = k) with
  | none => rw [e] at h; cases h
  | some p => rw [e] at h; cases h; exact ⟨p, List.mem_of_find?_eq_some e, rfl⟩
theorem eqKv_is {H0 : Hp} {vs ws : List (Key × V)} {ds es : List (Key × D)} (t : IsKv K H0 vs ds) (t2 : IsKv K H0 ws es) (f : flatKv ds = true) (f2 : flatKv es = true) : eqKvV vs ws = eqKv ds es := by
  unfold eqKvV eqKv
  rw [t.len, t2.len]
  congr 1
  induction ds generalizing vs with
  | nil => cases t; rfl
  | cons d ds ih =>
    cases t with
    | cons r t =>
      unfold flatKv at f
      rw [List.all_cons, Bool.and_eq_true] at f
      rw [List.all_cons, List.all_cons, ih t f.2]
      congr 1
      rcases t2.val (k := _) with ⟨z, z2⟩ | ⟨v, d2, z, z2, q⟩
      · dsimp only; rw [z, z2]
      · dsimp only
        rw [z, z2]
        obtain ⟨p2, m2, e2⟩ := valD_mem z
        have h2 : flatD d2 = true := by rw [← e2]; exact List.all_eq_true.mp f2 p2 m2
        exact eqF_is r q f.1 h2
def oDicC (neg : Bool) : D → D → Option D
  | .dic ks, .dic ls => if flatKv ks = true ∧ flatKv ls = true then some (.bl (if neg then !eqKv ks ls else eqKv ks ls)) else none
  | _, _ => none
theorem od_dicC {neg : Bool} : OpD K (rDicC neg) (oDicC neg) := by
  intro H0 H x y d e c Q s hx hy ho k
  unfold oDicC at ho
  split at ho
  · split at ho
    · rename_i hc
      cases ho
      obtain ⟨a, vs, rfl, h1, t1⟩ := hx.dicI s
      obtain ⟨b, ws, rfl, h2, t2⟩ := hy.dicI s
      exact ⟨a, b, vs, ws, rfl, rfl, h1, h2, flatKv_is t1 hc.1, flatKv_is t2 hc.2, k _ _ _ (Nw.refl s) (by rw [eqKv_is t1 t2 hc.1 hc.2]; exact .bl _)⟩
    · cases ho
  · cases ho
/-- two relations at once -/
def orO (o o' : D → D → Option D) : D → D → Option D := fun d e => match o d e with
  | some c => some c
  | none => o' d e
theorem OpD.or {r r' : R2} {o o' : D → D → Option D} (h : OpD K r o) (h' : OpD K r' o') : OpD K (fun x y H Q => r x y H Q ∨ r' x y H Q) (orO o o') := by
  intro H0 H x y d e c Q s hx hy ho k
  unfold orO at ho
  split at ho
  · rename_i c2 h2
    cases ho
    exact .inl (h H0 H x y d e _ Q s hx hy h2 k)
  · exact .inr (h' H0 H x y d e c Q s hx hy ho k)
/-! [d] != [d], dicts that are equal -/
def rNeOne (K : PySem.W.Frag) : R2 := fun x y H Q => ∃ p q a b ks ls, x = .ref p ∧ y = .ref q ∧ SqL K H p [.ref a] ∧ SqL K H q [.ref b] ∧ Rd H a (.dK ks) ∧ Rd H b (.dK ls) ∧ (∀ p ∈ ks, flatV p.2 = true) ∧ (∀ p ∈ ls, flatV p.2 = true) ∧ eqKvV ks ls = true ∧ Q (.bl false) H
theorem op_neOne (hu : X.A.units + 64 < cLine) : OpR X (compareOp .NotEq) (rNeOne X.K) := by
  intro pins s σ H x y v u Q I rx ry ⟨p, q, a, b, ks, ls, ex, ey, hp, hq, ea, eb, fk, fl, he, qq⟩
  subst ex ey
  obtain rfl : v = Value.ref p := rx
  obtain rfl : u = Value.ref q := ry
  obtain ⟨us, r1, p1, _⟩ := I.list hp
  obtain ⟨ws, r2, p2, _⟩ := I.list hq
  obtain ⟨u1, rfl, e1⟩ := vals1 r1
  obtain ⟨u2, rfl, e2⟩ := vals1 r2
  cases (show u1 = Value.ref a from e1)
  cases (show u2 = Value.ref b from e2)
  obtain ⟨_, ya, va, ra, da⟩ : ObjOk X.prog X.w H s.heap a (.dK ks) := ea.ok I.hok
  obtain ⟨_, yb, vb, rb, db⟩ : ObjOk X.prog X.w H s.heap b (.dK ls) := eb.ok I.hok
  refine NeW.rc_ne (e := fun _ => true) p1.isList p2.isList rfl (by omega) (fun j h1 h2 => ?_) _ _ ?_
  · have hj : j = 0 := by simpa using h1
    subst hj
    show SeqAt.EqP X.prog X.w X.A.in1 s (.ref a) (.ref b) true
    by_cases hab : a = b
    · subst hab
      exact (SeqAt.EqAt.same _).eqP
    · refine SeqAt.eqP_refs hab fun E Q2 h => ?_
      refine PySem.W.rcP_dicts (knd := mixKind X.prog X.w) ya yb da db (by show X.A.units + 1 < cLine; omega) (fun _ => ?_) E Q2 (r := true) ?_
      · have hh := hits_flat (A := X.A.in1.in1) (s := s) rb fl ra fk
        unfold eqKvV at he
        rw [Bool.and_eq_true] at he
        rw [he.2] at hh
        clear he
        have conv : ∀ {va : List (Key × Value)} {r : Bool}, PySem.W.KeqHits X.A.in1.in1 s vb va r → PySem.W.KeqHitsP X.prog X.w X.A.in1.in1 s vb va r := by
          intro va r h
          induction h with
          | nil => exact .nil
          | miss h => exact .miss h
          | hit h1 h2 _ ih => exact .hit h1 h2.eqP ih
        exact conv hh
      · unfold eqKvV at he
        rw [Bool.and_eq_true, kv_len ra, kv_len rb] at he
        rw [he.1]
        exact h
  · exact ⟨.bl false, H, I, rfl, qq⟩
def oNeOne : D → D → Option D
  | .lst [.dic ks], .lst [.dic ls] => if flatKv ks = true ∧ flatKv ls = true ∧ eqKv ks ls = true then some (.bl false) else none
  | _, _ => none
theorem od_neOne : OpD K (rNeOne K) oNeOne := by
  intro H0 H x y d e c Q s hx hy ho k
  unfold oNeOne at ho
  split at ho
  · split at ho
    · rename_i hc
      cases ho
      obtain ⟨p, vs, rfl, h1, t1⟩ := hx.lstI s
      obtain ⟨q, ws, rfl, h2, t2⟩ := hy.lstI s
      cases t1 with
      | cons r1 t1 => cases t1; cases t2 with
        | cons r2 t2 =>
          cases t2
          cases r1 with
          | dic g1 k1 => cases r2 with
            | dic g2 k2 => exact ⟨p, q, _, _, _, _, rfl, rfl, SqL.of h1, SqL.of h2, .inr ⟨_, s _ _ g1⟩, .inr ⟨_, s _ _ g2⟩, flatKv_is k1 hc.1, flatKv_is k2 hc.2.1, by rw [eqKv_is k1 k2 hc.1 hc.2.1]; exact hc.2.2, k _ _ _ (Nw.refl s) (.bl _)⟩
    · cases ho
  · cases ho
end
end Pu
namespace Pu
open PySem PySem.Spec PyProof.Rows L2 SeK
open LamX (Tabs)
/-! ### a comprehension within which one thing of the store is looked at as data -/
def thingD (m : Mem) (i : Nat) : Option D := match m[i]? with
  | some (.lst ss) => (allD ss).map D.frl
  | some (.dic kvs) => some (.dic kvs)
  | _ => none
def frzS (i : Nat) (d : D) : Option Sl → Option Sl
  | some (.dat e) => some (.dat e)
  | some (.opq k) => if k = i then some (.dat d) else none
  | none => none
def frzL (i : Nat) (d : D) (ρ : Rho) : Rho := ρ.map (frzS i d)
def fFrL (j : Nat) (F : Rho → Mem → Re Sl) : Rho → Mem → Re Sl := fun ρ m => match ρ[j]? with
  | some (some (.opq i)) => match thingD m i with
    | some d => match F (frzL i d ρ) [] with
      | some (.ok (.dat (.lst xs)), []) => if xs.all immD = true then some (.ok (.dat (.lst xs)), m) else none
      | _ => none
    | none => none
  | _ => none
theorem imm_all {K : PySem.W.Frag} {H H' : Hp} : ∀ {vs : List V} {ds : List D}, IsAll K H vs ds → ds.all immD = true → IsAll K H' vs ds
  | _, _, .nil, _ => .nil
  | _, _, .cons r t, e => by
    rw [List.all_cons, Bool.and_eq_true] at e
    exact .cons (imm_is r e.1) (imm_all t e.2)
section
variable {K : PySem.W.Frag} {T : List (Addr × Str)} {H0 H H1 H' Hl : Hp} {am am' : List Addr} {m : Mem}
/-- the thing i of the store, locked -/
theorem thing_lock (mo : MOk K T H0 am H m) {i : Nat} {d : D} (h : thingD m i = some d) : ∃ l u, am[i]? = some l ∧ H0 l = none ∧ H l = some u ∧ Mut (some u) ∧ (∀ ps, u ≠ .tbl ps) ∧ (∀ c nm, u ≠ LamX.CodeO c nm) ∧ ∀ od, Is K (upd H0 l (.frz od u)) (.ref l) d := by
  unfold thingD at h
  cases hm : m[i]? with
  | none => rw [hm] at h; cases h
  | some o =>
    rw [hm] at h
    obtain ⟨l, e1, ⟨u, e2, e3, q⟩ | ⟨d2, e2, _⟩⟩ := mo.is i o hm
    case inr => subst e2; cases h
    have s0 : ∀ od, Same H0 (upd H0 l (.frz od u)) := fun od => Same.new e2
    refine ⟨l, u, e1, e2, e3, ?_, q.ntb, fun c nm => q.ncd, fun od => ?_⟩
    · cases o with
      | lst ss => obtain ⟨vs, rfl, _⟩ := q; trivial
      | dic ks => obtain ⟨vs, rfl, _⟩ := q; trivial
      | ins C gs => cases h
      | fz d => cases h
    · cases o with
      | lst ss =>
        obtain ⟨vs, rfl, t⟩ := q
        cases ha : allD ss with
        | none => simp only [ha] at h; cases h
        | some ds =>
          simp only [ha] at h
          cases h
          exact .frl (.inl (.inr ⟨od, upd_same⟩)) ((allD_all t ha).same (s0 od))
      | dic ks =>
        obtain ⟨vs, rfl, t⟩ := q
        cases h
        exact .dic upd_same (t.same (s0 od))
      | ins C gs => cases h
      | fz d => cases h
theorem lock_mo (mo : MOk K T H0 am H m) {i : Nat} {l : Addr} {u : HO} (e1 : am[i]? = some l) (e2 : H0 l = none) (e3 : H l = some u) (n1 : ∀ ps, u ≠ .tbl ps) (n2 : ∀ c nm, u ≠ LamX.CodeO c nm) (od : Obj) : MOk K T (upd H0 l (.frz od u)) [] (upd H l (.frz od u)) [] := by
  refine ⟨rfl, List.nodup_nil, fun i o h => by simp at h, fun b o h => ?_, fun a h => absurd h (by simp), fun b ps h => ?_, tabs_but mo.tb e3 n1 n2 (fun b w nn e => by rw [upd_ne nn]; exact e)⟩
  · by_cases c : b = l
    · subst c; rw [upd_same] at h ⊢; exact h
    · rw [upd_ne c] at h ⊢; exact mo.sub _ _ h
  · by_cases c : b = l
    · subst c; rw [upd_same] at h; cases h
    · rw [upd_ne c] at h; exact mo.nt _ _ h
theorem lock_env {i : Nat} {l : Addr} {u : HO} {d : D} {od : Obj} {ρ : Rho} {σ : L2.St} (e1 : am[i]? = some l) (e2 : H0 l = none) (hd : Is K (upd H0 l (.frz od u)) (.ref l) d) (eo : EnvOk K H0 am ρ σ) : EnvOk K (upd H0 l (.frz od u)) [] (frzL i d ρ) σ := by
  refine ⟨by unfold frzL; rw [List.length_map]; exact eo.1, fun k sl hk => ?_⟩
  unfold frzL at hk
  rw [List.getElem?_map] at hk
  cases hr : ρ[k]? with
  | none => rw [hr] at hk; cases hk
  | some o =>
    rw [hr] at hk
    have hk : frzS i d o = some sl := Option.some.inj hk
    cases o with
    | none => cases hk
    | some s0 =>
      obtain ⟨v, e3, q⟩ := eo.2 k s0 hr
      refine ⟨v, e3, ?_⟩
      cases s0 with
      | dat e =>
        cases hk
        cases q with
        | dat q => exact .dat (q.same (Same.new e2))
      | opq z =>
        have hk : (if z = i then some (Sl.dat d) else none) = some sl := hk
        by_cases c : z = i
        · rw [if_pos c] at hk
          cases hk
          subst c
          cases q with
          | opq q => rw [e1] at q; cases q; exact .dat hd
        · rw [if_neg c] at hk
          cases hk
/-- back from the lock: a new list of things that stand in no heap -/
theorem unlock_mo (mo : MOk K T H0 am H m) {i : Nat} {l D : Addr} {u : HO} {od : Obj} {ws : List V} (e1 : am[i]? = some l) (e2 : H0 l = none) (e3 : H l = some u) (n1 : ∀ ps, u ≠ .tbl ps)
    (ex : Ex (upd H0 l (.frz od u)) (upd H l (.frz od u)) H1 H' [] []) (tb : Tabs T H') (hD : H' D = some (.lst ws)) (hf : ∀ o, (upd H l (.frz od u)) D = some o → ∃ ps, o = .tbl ps) :
    H' l = some (.frz od u) ∧ Ex H0 H (upd H0 D (.lst ws)) (upd H' l u) am am ∧ MOk K T (upd H0 D (.lst ws)) am (upd H' l u) m := by
  have fr : ∀ a o, a ≠ l → H a = some o → (∀ ps, o ≠ .tbl ps) → H' a = some o := fun a o c h t => ex.fr a o (by rw [upd_ne c]; exact h) t (by simp)
  have hl : H' l = some (.frz od u) := ex.fr l _ upd_same (fun _ z => nomatch z) (by simp)
  have hDl : D ≠ l := by rintro rfl; rw [hl] at hD; cases hD
  have hlm : l ∈ am := List.mem_of_getElem? e1
  have h0D : H0 D = none := by
    cases z : H0 D with
    | none => rfl
    | some o =>
      obtain ⟨ps, e⟩ := hf o (by rw [upd_ne hDl]; exact mo.sub _ _ z)
      subst e
      exact absurd z (mo.nt _ _)
  have exx : Ex H0 H (upd H0 D (.lst ws)) (upd H' l u) am am := by
    refine ⟨Same.new h0D, ⟨[], by simp, by simp⟩, fun a o h t n => ?_, fun a h => ?_, fun a n h0 st => ?_⟩
    · have c : a ≠ l := by rintro rfl; exact n hlm
      rw [upd_ne c]
      exact fr a o c h t
    · by_cases c : a = l
      · subst c; exact absurd h (not_fre upd_same n1)
      · have z := ex.kp a fun o e => h o (by rw [upd_ne c]; exact e)
        exact fun o e => z o (by rw [upd_ne c]; exact e)
    · have c : a ≠ D := by
        rintro rfl
        obtain ⟨o, e, t, _⟩ := st
        obtain ⟨ps, e4⟩ := hf o (by rw [upd_ne hDl]; exact e)
        exact t ps e4
      rw [upd_ne c]
      exact h0
  refine ⟨hl, exx, mo.len, mo.nd, fun k o h => ?_, fun b o h => ?_, fun b h z => mo.tr b h (exx.kp b z), fun b ps h => ?_, tabs_but tb hl (fun _ z => nomatch z) (fun _ _ z => nomatch z) (fun b w nn e => by rw [upd_ne nn]; exact e)⟩
  · obtain ⟨b, f1, ⟨w2, f2, f3, q⟩ | ⟨d, f2, q⟩⟩ := mo.is k o h
    · have c : b ≠ D := by
        rintro rfl
        obtain ⟨ps, e4⟩ := hf w2 (by rw [upd_ne hDl]; exact f3)
        exact q.ntb ps e4
      refine ⟨b, f1, .inl ⟨w2, by rw [upd_ne c]; exact f2, ?_, q.ex exx⟩⟩
      by_cases cl : b = l
      · subst cl; rw [upd_same]; rw [f3] at e3; exact e3.symm ▸ rfl
      · rw [upd_ne cl]; exact fr b w2 cl f3 q.ntb
    · exact ⟨b, f1, .inr ⟨d, f2, q.same exx.s0⟩⟩
  · by_cases c : b = D
    · subst c; rw [upd_same] at h; rw [upd_ne hDl, hD]; exact h
    · rw [upd_ne c] at h
      have cl : b ≠ l := by rintro rfl; rw [e2] at h; cases h
      rw [upd_ne cl]
      exact fr b o cl (mo.sub _ _ h) fun ps e => mo.nt b ps (by rw [h, e])
  · by_cases c : b = D
    · subst c; rw [upd_same] at h; cases h
    · rw [upd_ne c] at h; exact mo.nt _ _ h
end
section
variable {X : Cx} {T : List (Addr × Str)} {E : XK} {tg iter elt : Expr} {ifs : List Expr} {pos : Pos}
theorem px_lcL {j : Nat} {scope : Scope} {own : List (Str × Nat)} {it : Rho → Mem → Re (List D)} {g : Sl → Rho → Option Rho} {p : Rho → Mem → Re Bool} {f : Rho → Mem → Re Sl} {sl : List Nat} (hc : X.calm = true) (hN : X.N.Nodup) (hi : PIX X T E tg iter it) (ok : BlkOk X.N X.env.scope scope own)
    (hg : ∀ (s : Shared) (H : Hp) (C : Addr) (cl : List (Str × Addr)) (fp : List Addr), PGX (X.blk s H scope (compEnvC scope cl C X.env) fp) tg sl g) (hsl : ∀ i ∈ sl, i ∈ own.map (·.2))
    (ht : ∀ (s : Shared) (H : Hp) (C : Addr) (cl : List (Str × Addr)) (fp : List Addr), PTsX (X.blk s H scope (compEnvC scope cl C X.env) fp) T ifs p)
    (he : ∀ (s : Shared) (H : Hp) (C : Addr) (cl : List (Str × Addr)) (fp : List Addr), PX (X.blk s H scope (compEnvC scope cl C X.env) fp) T E0 elt f) (hs : ∀ x, foldedSetIterable iter X.env x = pure x := by intro _; rfl) :
    PX X T E (.ListComp elt [⟨tg, iter, ifs, 0⟩] scope pos) (fFrL j (fLcE it g p f (own.map (·.2)))) := by
  obtain ⟨wi, p1, s1⟩ := hi
  refine ⟨_, pe_lock (pe_lc (g := tOfG X.K sl g) (tt := tOf X.K T E0 IsT p) (te := tOf X.K T E0 (IsS X.K) f) hc hN p1 ok (fun s H C cl fp => (hg s H C cl fp).can) (fun s H C cl fp => (ht s H C cl fp).ex) (fun s H C cl fp => (he s H C cl fp).can) hs), ?_⟩
  intro H0 am H ρ m σ r m' Q mo eo e gl
  unfold fFrL at e
  split at e
  case h_2 => cases e
  rename_i i hj
  split at e
  case h_2 => cases e
  rename_i d hd
  split at e
  case h_2 => cases e
  rename_i xs hF
  split at e
  case isFalse => cases e
  rename_i himm
  cases e
  obtain ⟨l, u, e1, e2, e3, mu, n1, n2, hdd⟩ := thing_lock mo hd
  refine ⟨l, u, e3, mu, fun od => ?_⟩
  have moL := lock_mo mo e1 e2 e3 n1 n2 od
  have eoL := lock_env (ρ := ρ) (σ := σ) e1 e2 (hdd od) eo
  unfold fLcE bindD bindR at hF
  cases hit : it (frzL i d ρ) [] with
  | none => rw [hit] at hF; cases hF
  | some z =>
    obtain ⟨z, m1⟩ := z
    rw [hit] at hF
    cases z with
    | error w => cases hF
    | ok ds =>
      dsimp only at hF
      refine s1 _ [] _ (frzL i d ρ) [] σ (.ok ds) m1 _ moL eoL hit fun J H1 H2 am1 ex1 mo1 wk => ?_
      intro D hD
      unfold fLcD at hF
      split at hF
      case isFalse => cases hF
      rename_i hz
      cases hr : fLc g p f (wipeR (frzL i d ρ) (own.map (·.2))) ds m1 with
      | none => rw [hr] at hF; cases hF
      | some z =>
        obtain ⟨xs2, m2⟩ := z
        rw [hr] at hF
        cases hF
        refine lc_sound wk mo1 (eoL.ex ex1) hsl hz hr hD fun H3 H4 am2 ex2 mo2 q => ?_
        have exx := ex1.trans ex2
        have ham : am2 = [] := List.length_eq_zero_iff.mp mo2.len
        subst ham
        have hfree : ∀ o, (upd H l (.frz od u)) D = some o → ∃ ps, o = .tbl ps := fun o ho => Classical.byContradiction fun n => by
          have z := ex1.fr D o ho (fun ps e => n ⟨ps, e⟩) (by simp)
          rw [hD] at z
          cases z
        cases q with
        | lst hq t =>
          obtain ⟨k1, k2, k3⟩ := unlock_mo mo e1 e2 e3 n1 exx mo2.tb (mo2.sub _ _ hq) hfree
          exact ⟨k1, gl _ _ _ am k2 k3 (.dat (.lst upd_same (imm_all t himm)))⟩
end
/-! ### for over a list of the store -/
open Classical in
noncomputable def fForL (i : Nat) (ss : List Sl) (g : Sl → Rho → Option Rho) (b : Rho → Mem → RS) : List Sl → Rho → Mem → RS
  | [], ρ, m => if m[i]? = some (.lst ss) then some (.nx ρ, m) else none
  | s :: r, ρ, m => if m[i]? = some (.lst ss) then (match g s ρ with
    | none => none
    | some ρ1 => match b ρ1 m with
      | some (.nx ρ2, m2) => fForL i ss g b r ρ2 m2
      | some (.ct ρ2, m2) => fForL i ss g b r ρ2 m2
      | some (.bk ρ2, m2) => some (.nx ρ2, m2)
      | o => o) else none
noncomputable def fForM (f : Rho → Mem → Re Sl) (g : Sl → Rho → Option Rho) (b : Rho → Mem → RS) : Rho → Mem → RS := fun ρ m => bindS (f ρ m) fun s m' => match s with
  | .opq i => match m'[i]? with
    | some (.lst ss) => fForL i ss g b ss ρ m'
    | _ => none
  | _ => none
theorem walk_dyn {K : PySem.W.Frag} {a : Addr} {n : Nat} : Walk (Itl K a) n (fun H => ∃ vs, SqL K H a vs ∧ vs.length = n) (fun i H x H' => H' = H ∧ ∀ vs, SqL K H a vs → vs[i]? = some x) := by
  refine ⟨fun i H hi ⟨vs, q, e⟩ => ?_, fun H ⟨vs, q, e⟩ => ?_, fun i H x H' hi _ y => y⟩
  · exact ⟨vs, vs[i]'(by omega), q, by simp [show i < vs.length by omega]⟩
  · exact ⟨vs, q, by omega⟩
section
variable {X : Cx} {T : List (Addr × Str)} {E : XK} {tg iter : Expr} {body : List Stmt} {pos : Pos}
theorem psx_forM {f : Rho → Mem → Re Sl} {g : Sl → Rho → Option Rho} {b : Rho → Mem → RS} {sl : List Nat} (hp : PassesOwn (model X.prog X.w) X.A X.env X.xe) (hc : X.calm = true) (hi : PX X T E iter f) (hg : PGX X tg sl g) (hb : PSsX X T E body b)
    (hs : ∀ x, foldedSetIterable iter X.env x = pure x := by intro _; rfl) : PSX X T E (.For tg iter body [] pos) (fForM f g b) := by
  obtain ⟨ti, p, s⟩ := hi
  obtain ⟨gt, p2, s2⟩ := hg
  obtain ⟨tb, p3, s3⟩ := hb
  refine ⟨_, ps_for hp hc (pi_list p) p2 p3 hs, fun H0 am H ρ m σ o m' D mo eo e gl => ?_⟩
  unfold fForM bindS at e
  cases hf : f ρ m with
  | none => rw [hf] at e; cases e
  | some z =>
    obtain ⟨z, m0⟩ := z
    rw [hf] at e
    cases z with
    | error w => cases e; exact s H0 am H ρ m σ (.error w) _ _ mo eo hf gl
    | ok s0 =>
      dsimp only at e
      refine s H0 am H ρ m σ (.ok s0) m0 _ mo eo hf fun v Ha Hb ama exa moa qa => ?_
      split at e
      case h_2 => cases e
      rename_i i
      split at e
      case h_2 => cases e
      rename_i ss hm
      cases qa with
      | opq qa =>
        rename_i l
        have st : ∀ {H0' H' : Hp} {am' : List Addr} {mm : Mem}, MOk X.K T H0' am' H' mm → am'[i]? = some l → mm[i]? = some (.lst ss) → ∃ vs, H' l = some (.lst vs) ∧ Paired (IsS X.K H0' am') vs ss := fun {H0' H' am' mm} mo h1 h2 => by
          obtain ⟨l2, f1, ⟨u, f2, f3, vs, rfl, t⟩ | ⟨_, z, _⟩⟩ := mo.is i _ h2
          · rw [h1] at f1; cases f1; exact ⟨vs, f3, t⟩
          · cases z
        obtain ⟨vs0, hl0, t0⟩ := st moa qa hm
        refine ⟨l, rfl, ⟨vs0, SqL.of hl0⟩, ?_⟩
        have gla := gl.ex exa
        refine for_it (walk_dyn (n := ss.length)) (fun k σ' H' => ∃ H0' am' ρ' mm, Ex Ha Hb H0' H' ama am' ∧ MOk X.K T H0' am' H' mm ∧ EnvOk X.K H0' am' ρ' σ' ∧ fForL i ss g b (ss.drop k) ρ' mm = some (o, m')) ⟨Ha, ama, ρ, m0, Ex.refl, moa, eo.ex exa, e⟩ ?_ ?_ ?_
        · rintro k σ' H' hk ⟨H0', am', ρ', mm, ex, mo', eo', e'⟩
          have hmm : mm[i]? = some (.lst ss) := by
            cases hd : ss.drop k with
            | nil => rw [hd] at e'; unfold fForL at e'; split at e'; assumption; cases e'
            | cons a b => rw [hd] at e'; unfold fForL at e'; split at e'; assumption; cases e'
          obtain ⟨vs, h1, t⟩ := st mo' (ex.get qa) hmm
          exact ⟨vs, SqL.of h1, prd_len t⟩
        · rintro k x σ' H' H'' hk ⟨H0', am', ρ', mm, ex, mo', eo', e'⟩ ⟨rfl, hy⟩
          have hdrop : ss.drop k = ss[k] :: ss.drop (k + 1) := List.drop_eq_getElem_cons hk
          rw [hdrop] at e'
          unfold fForL at e'
          split at e'
          case isFalse => cases e'
          rename_i hmm
          obtain ⟨vs, h1, t⟩ := st mo' (ex.get qa) hmm
          obtain ⟨x2, hx2, qx⟩ := paired_get t (List.getElem?_eq_getElem hk)
          have ex2 := hy vs (SqL.of h1)
          rw [hx2] at ex2
          cases ex2
          cases hg : g ss[k] ρ' with
          | none => rw [hg] at e'; cases e'
          | some ρ1 =>
            rw [hg] at e'
            dsimp only at e'
            refine s2 H0' am' _ ρ' ρ1 σ' _ ss[k] _ mo'.sub eo' qx hg fun σ2 eo2 _ => ?_
            have gl1 := gla.ex ex
            cases hb : b ρ1 mm with
            | none => rw [hb] at e'; cases e'
            | some z =>
              obtain ⟨z, m2⟩ := z
              rw [hb] at e'
              cases z with
              | nx ρ2 => exact s3 H0' am' _ ρ1 mm σ2 _ _ _ mo' eo2 hb fun σ3 H3 H4 am3 ex3 mo3 eo3 => ⟨H3, am3, ρ2, m2, ex.trans ex3, mo3, eo3, e'⟩
              | ct ρ2 => exact s3 H0' am' _ ρ1 mm σ2 _ _ _ mo' eo2 hb fun σ3 H3 H4 am3 ex3 mo3 eo3 => ⟨H3, am3, ρ2, m2, ex.trans ex3, mo3, eo3, e'⟩
              | bk ρ2 => cases e'; exact s3 H0' am' _ ρ1 mm σ2 _ _ _ mo' eo2 hb gl1
              | rt w => cases e'; exact s3 H0' am' _ ρ1 mm σ2 _ _ _ mo' eo2 hb gl1
              | er w => cases e'; exact s3 H0' am' _ ρ1 mm σ2 _ _ _ mo' eo2 hb gl1
        · rintro σ' H' ⟨H0', am', ρ', mm, ex, mo', eo', e'⟩
          rw [List.drop_length] at e'
          unfold fForL at e'
          split at e'
          · cases e'; exact gla σ' H0' H' am' ex mo' eo'
          · cases e'
end
end Pu
namespace Pu
open PySem PySem.Spec PyProof.Rows L2 SeK
open LamX (Tabs)
/-! ### an own instance against anything -/
open Builtin in
theorem objNe_any {prog : Program} {w : World} {A : Around} {E : Value → Shared → Prop} {s : Shared} {K : PySem.W.Frag} {x C f : Addr} {b : Value} {ox : Obj} {od : Option Obj} {Q : Fin → Shared → Prop} (X : K.In s.heap) (I : PySem.W.InstAt s.heap x ox C od)
    (hs : PySem.W.findIn K (.ref C) "__eq__" = some (some (.ref f))) (hf : PySem.W.isFn K (.ref f) = true) (hu : A.units < cLine)
    (hcall : wpAny (model prog w) A (call (.ref f) [.ref x, b]) (fun v s2 => ∃ k, v = .bool k ∧ Q (.done (.ret (.bool (!k)))) s2) E s) : wpAny (model prog w) A (Builtin.«object.__ne__» ⟨[.ref x, b], []⟩) Q E s := by
  unfold Builtin.«object.__ne__»
  repeat (first
    | with_reducible refine wpAny_cRoomFor hu ?_
    | (refine wpAny_bind (m := callSpecialIfBound? (.ref x) (Str.ofString "__eq__") [b])
        (PySem.W.ifBound_K X I hs hf (wpAny_mono hcall (fun r s2 hr => by
          obtain ⟨k, rfl, hq⟩ := hr
          repeat (first | exact hq | exact wpAny_pure hq | exact wpAny_truthy_bool hq | (refine wpAny_bind (m := truthy (.bool _)) (wpAny_truthy_bool ?_)) | wp_step)) fun _ _ e => e)))
    | wp_step)
section
variable {X : Cx} {CX : CXT} {C fE : Addr} {fd : FuncData} {ps : List Str} {sp : Sp} {k : Nat} {E : XK}
def AnyR (K : PySem.W.Frag) (C : Addr) (y : V) (H : Hp) : Prop := ∃ tb, TyX K H y tb ∧ PySem.W.notFirst K C tb = true
theorem op_eqG (R : EqOp X.K C fE) (F : FnOk X.prog X.w X.K X.mg X.base CX k fE fd ps sp) (hr : Room k X.A) (hb : Binds X.K fd ps []) (hx : Passes CX X E) :
    OpR X (compareOp .Eq) (fun x y H Q => InsL C x H ∧ AnyR X.K C y H ∧ sp [x, y] H Q E) := by
  intro pins s σ H x y v u Q I rx ry ⟨hL, ⟨tb, ty, hn⟩, q⟩
  obtain ⟨r, dx, fs, rfl, hR⟩ := hL
  cases (show v = Value.ref r from rx)
  obtain ⟨mA, J, _⟩ := ins_get I.hok hR
  obtain ⟨od, J, _⟩ := J.look
  obtain ⟨m, hF⟩ := I.fr
  obtain ⟨Pk, kx, hp, _⟩ := kit_of I ry ty
  refine PySem.W.cmp_K (op := .Eq) (tb := tb) hr.units0 hF I.ok.mod.kin J (kx.ty _ _ I.kIn hp) hn R.eqS R.eqF ?_
  refine wpAny_mono (run_fn (us := [.ref r, u]) (vs := [.ref r, y]) F hr hb .nil hx I (.cons rx (.cons ry .nil)) q) (fun w s2 z => ?_) fun _ _ z => z
  obtain ⟨z2, H2, I2, rz, qz⟩ := z
  exact SlX.cmpback rz ⟨z2, H2, I2, rz, qz⟩
theorem op_neG (R : EqOp X.K C fE) (F0 : FnOk X.prog X.w X.K X.mg X.base CX k fE fd ps sp) (hr : Room (k + 1) X.A) (hb : Binds X.K fd ps []) (hx : Passes CX X E) :
    OpR X (compareOp .NotEq) (fun x y H Q => InsL C x H ∧ AnyR X.K C y H ∧ sp [x, y] H (fun v H2 => ∃ b, v = .bl b ∧ Q (.bl (!b)) H2) E) := by
  intro pins s σ H x y v u Q I rx ry ⟨hL, ⟨tb, ty, hn⟩, q⟩
  obtain ⟨r, dx, fs, rfl, hR⟩ := hL
  cases (show v = Value.ref r from rx)
  obtain ⟨mA, J, _⟩ := ins_get I.hok hR
  obtain ⟨od, J, _⟩ := J.look
  obtain ⟨Pk, kx, hp, _⟩ := kit_of I ry ty
  have lk := kx.ty (model X.prog X.w) _ I.kIn hp
  have KX := I.kIn
  have run := run_in1 (pins := pins) (σ := σ) (us := [.ref r, u]) (vs := [.ref r, y]) F0 hr.in1 hb hx I (.cons rfl (.cons ry .nil)) q
  have one : wpAny (model X.prog X.w) X.A (tryCompare (.ref r) "__ne__" u) (fun a s2 => ∃ b, a = some (.bool b) ∧ EP X pins σ Q (.bool b) s2) X.xe s := by
    unfold tryCompare
    refine wpAny_bind (bound_objNe KX J R.neS (wpAny_call (codeAny_call_builtin F.cmp_object.ne.plain F.cmpEntry_ne (PySem.W.check_slot F.cmpKind_ne F.cmpSplit_ne (J.type.andThen (PySem.W.looks_mroIn KX R.mro)) (F.cmpArgs_ne _ _)
      (objNe_any KX J R.eqS R.eqF hr.in1.units0 (wpAny_mono run (fun a s2 z => ?_) fun _ _ z => z))))))
    obtain ⟨v3, H3, I3, r3, b, e3, q3⟩ := z
    subst e3
    cases (show a = Value.bool b from r3)
    exact ⟨b, rfl, wpAny_pure ⟨_, rfl, .bl _, H3, I3, rfl, q3⟩⟩
  have fin : wpAny (model X.prog X.w) X.A (tryCompare (.ref r) "__ne__" u >>= fun a => match a with | some v => pure v | none => (do
      if let some v ← tryCompare u "__ne__" (.ref r) then return v
      rule "compare.ne-identity"; return .bool (!(← isSame (.ref r) u)))) (EP X pins σ Q) X.xe s := by
    refine wpAny_bind (wpAny_mono one (fun a s2 z => ?_) fun _ _ z => z)
    obtain ⟨b, rfl, hq⟩ := z
    exact wpAny_pure hq
  unfold compareOp richCompare
  simp only [oneThing_ref]
  refine wpAny_holding (wpAny_bind (wpAny_cRoomFor hr.units0 ?_))
  rw [cmpInfo_NotEq]
  dsimp only
  refine wpAny_bind (J.type.here (wpAny_bind (lk.here ?_)))
  split
  · rename_i hq
    have e : PySem.W.subIn X.K tb (.ref C) = some false := by
      rcases Bool.or_eq_true_iff.mp hn with e | e
      · rw [beq_iff_eq.mp e] at hq; simp at hq
      · exact beq_iff_eq.mp e
    refine wpAny_bind ((PySem.W.looks_subIn KX e).here ?_)
    simp only [Bool.false_eq_true, if_false]
    refine wpAny_bind (wpAny_mono one (fun a s2 z => ?_) fun _ _ z => z)
    obtain ⟨b, rfl, hq⟩ := z
    first | exact wpAny_pure hq | exact wpAny_pure (wpAny_pure hq)
  · refine wpAny_bind (wpAny_pure ?_)
    simp only [Bool.false_eq_true, if_false]
    refine wpAny_bind (wpAny_mono one (fun a s2 z => ?_) fun _ _ z => z)
    obtain ⟨b, rfl, hq⟩ := z
    first | exact wpAny_pure hq | exact wpAny_pure (wpAny_pure hq)
end
/-- a class, no built-in class stands below it -/
def LowT (K : PySem.W.Frag) (C : Addr) : Prop := ∀ t ∈ kinds, PySem.W.subIn K (.type t) (.ref C) = some false
def tagOK (L : List Addr) (C : Addr) : D → Bool
  | .ins C' _ => decide (C' = C) && decide (C ∈ L)
  | d => (tyOf' d).isSome
section
variable {X : Cx} {T : List (Addr × Str)} {E : XK} {a b : Expr} {f g : Rho → Mem → Re Sl} {pos : Pos} {C fE : Addr} {fd : FuncData} {ps : List Str} {k : Nat} {F : List Sl → Mem → Re Sl} {L : List Addr}
theorem any_of {H0 H : Hp} {am : List Addr} {m : Mem} {v : V} {s : Sl} {d : D} (O : Own X.K L) (lo : LowT X.K C) (mo : MOk X.K T H0 am H m) (q : IsS X.K H0 am v s) (hv : vw m s = some d) (h : tagOK L C d = true) : AnyR X.K C v H := by
  have w := vw_ok mo q hv
  have low : ∀ t, tyOf' d = some t → tag L d = some (.inl t) → AnyR X.K C v H := fun t e1 e2 => by
    obtain ⟨z, k1, _⟩ := tag_okV mo.sub O w e2
    refine ⟨_, z, ?_⟩
    unfold PySem.W.notFirst
    rw [show tval (.inl t) = Value.type t from rfl, lo t (k1 t rfl)]
    simp
  cases d with
  | ins C' gs =>
    unfold tagOK at h
    rw [Bool.and_eq_true] at h
    have e1 := of_decide_eq_true h.1
    have e2 := of_decide_eq_true h.2
    subst e1
    have ht : tag L (.ins C' gs) = some (.inr C') := by unfold tag; exact if_pos e2
    obtain ⟨z, _, _⟩ := tag_okV mo.sub O w ht
    refine ⟨_, z, ?_⟩
    unfold PySem.W.notFirst
    show (Value.ref C' == Value.ref C' || _) = true
    simp
  | non => exact low _ rfl rfl
  | bl b => exact low _ rfl rfl
  | int i => exact low _ rfl rfl
  | str z => exact low _ rfl rfl
  | lst xs => exact low _ rfl rfl
  | tup xs => exact low _ rfl rfl
  | dic xs => exact low _ rfl rfl
  | ty n => cases h
  | fn a => cases h
  | frl xs => cases h
def okR2 (L : List Addr) (C : Addr) (m : Mem) (s t : Sl) : Bool := isInsD C s && match vw m t with
  | some d => tagOK L C d
  | none => false
def fEqG (L : List Addr) (C : Addr) (F : List Sl → Mem → Re Sl) (f g : Rho → Mem → Re Sl) : Rho → Mem → Re Sl := bindD f fun s => bindD g fun t _ m => if okR2 L C m s t = true then F [s, t] m else none
def fNeG (L : List Addr) (C : Addr) (F : List Sl → Mem → Re Sl) (f g : Rho → Mem → Re Sl) : Rho → Mem → Re Sl := bindD f fun s => bindD g fun t _ m => if okR2 L C m s t = true then
  (match F [s, t] m with
  | some (.ok (.dat (.bl b)), m') => some (.ok (.dat (.bl (!b))), m')
  | _ => none) else none
theorem okR2_of {H0 H : Hp} {am : List Addr} {m : Mem} {v u : V} {s t : Sl} (O : Own X.K L) (lo : LowT X.K C) (mo : MOk X.K T H0 am H m) (q : IsS X.K H0 am v s) (q2 : IsS X.K H0 am u t) (h : okR2 L C m s t = true) : InsL C v H ∧ AnyR X.K C u H := by
  unfold okR2 at h
  rw [Bool.and_eq_true] at h
  refine ⟨insL_of mo q h.1, ?_⟩
  cases hv : vw m t with
  | none => rw [hv] at h; exact absurd h.2 Bool.false_ne_true
  | some d => rw [hv] at h; exact any_of O lo mo q2 hv h.2
theorem sd_eqG {ta tb : TE} (O : Own X.K L) (lo : LowT X.K C) (hn : ps.length = 2) (sa : Sd X.K T E (IsS X.K) ta f) (sb : Sd X.K T E (IsS X.K) tb g) :
    Sd X.K T E (IsS X.K) (fun σ H Q => ta σ H fun x H1 => tb σ H1 fun y H2 => InsL C x H2 ∧ AnyR X.K C y H2 ∧ spX X.K T ps.length F [x, y] H2 Q E) (fEqG L C F f g) :=
  sa.bind fun H0 H am x s q => (sb H0 am H).bind fun H1 H' am' y t ex q2 ρ m σ r m' Q mo eo e gl => by
    try dsimp only at e
    split at e
    · rename_i hc
      obtain ⟨h1, h2⟩ := okR2_of O lo mo (q.ex ex) q2 hc
      exact ⟨h1, h2, by rw [hn]; rfl, H1, am', m, [s, t], r, m', mo, .cons (q.ex ex) (.cons q2 .nil), e, gl⟩
    · cases e
theorem sd_neG {ta tb : TE} (O : Own X.K L) (lo : LowT X.K C) (hn : ps.length = 2) (sa : Sd X.K T E (IsS X.K) ta f) (sb : Sd X.K T E (IsS X.K) tb g) :
    Sd X.K T E (IsS X.K) (fun σ H Q => ta σ H fun x H1 => tb σ H1 fun y H2 => InsL C x H2 ∧ AnyR X.K C y H2 ∧ spX X.K T ps.length F [x, y] H2 (fun v H3 => ∃ b, v = .bl b ∧ Q (.bl (!b)) H3) E) (fNeG L C F f g) :=
  sa.bind fun H0 H am x s q => (sb H0 am H).bind fun H1 H' am' y t ex q2 ρ m σ r m' Q mo eo e gl => by
    try dsimp only at e
    split at e
    · rename_i hc
      split at e
      · rename_i b m2 hF
        cases e
        obtain ⟨h1, h2⟩ := okR2_of O lo mo (q.ex ex) q2 hc
        refine ⟨h1, h2, by rw [hn]; rfl, H1, am', m, [s, t], .ok (.dat (.bl b)), _, mo, .cons (q.ex ex) (.cons q2 .nil), hF, fun v H2 H3 am2 ex2 mo2 qv => ?_⟩
        cases qv with
        | dat qv =>
          cases qv
          exact ⟨b, rfl, gl _ H2 H3 am2 ex2 mo2 (.dat (.bl _))⟩
      · cases e
    · cases e
theorem px_eqG (O : Own X.K L) (lo : LowT X.K C) (R : EqOp X.K C fE) (G : FnX X.prog X.w X.K X.mg X.base T k fE fd ps F) (hr : Room k X.A) (hb : Binds X.K fd ps []) (hx : Passes (L2.CX X.prog X.w) X E) (hn : ps.length = 2) (ha : PX X T E a f) (hb2 : PX X T E b g) (hm : behindInMarks .Eq b = false) :
    PX X T E (.Compare a [.Eq] [b] pos) (fEqG L C F f g) := by
  obtain ⟨ta, pa, sa⟩ := ha
  obtain ⟨tb, pb, sb⟩ := hb2
  exact ⟨_, pe_cmpR (op_eqG R G.ok hr hb hx) pa pb hm, sd_eqG O lo hn sa sb⟩
theorem px_neG (O : Own X.K L) (lo : LowT X.K C) (R : EqOp X.K C fE) (G : FnX X.prog X.w X.K X.mg X.base T k fE fd ps F) (hr : Room (k + 1) X.A) (hb : Binds X.K fd ps []) (hx : Passes (L2.CX X.prog X.w) X E) (hn : ps.length = 2) (ha : PX X T E a f) (hb2 : PX X T E b g) (hm : behindInMarks .NotEq b = false) :
    PX X T E (.Compare a [.NotEq] [b] pos) (fNeG L C F f g) := by
  obtain ⟨ta, pa, sa⟩ := ha
  obtain ⟨tb, pb, sb⟩ := hb2
  exact ⟨_, pe_cmpR (op_neG R G.ok hr hb hx) pa pb hm, sd_neG O lo hn sa sb⟩
theorem ptx_eqG (O : Own X.K L) (lo : LowT X.K C) (R : EqOp X.K C fE) (G : FnX X.prog X.w X.K X.mg X.base T k fE fd ps F) (hr : Room k X.A) (hb : Binds X.K fd ps []) (hx : Passes (L2.CX X.prog X.w) X E) (hn : ps.length = 2) (ha : PX X T E a f) (hb2 : PX X T E b g) (hm : behindInMarks .Eq b = false) :
    PTX X T E (.Compare a [.Eq] [b] pos) (fB (fEqG L C F f g)) := by
  obtain ⟨ta, pa, sa⟩ := ha
  obtain ⟨tb, pb, sb⟩ := hb2
  exact ⟨_, pt_cmpR (op_eqG R G.ok hr hb hx) pa pb hm, sd_B (sd_eqG O lo hn sa sb)⟩
theorem ptx_neG (O : Own X.K L) (lo : LowT X.K C) (R : EqOp X.K C fE) (G : FnX X.prog X.w X.K X.mg X.base T k fE fd ps F) (hr : Room (k + 1) X.A) (hb : Binds X.K fd ps []) (hx : Passes (L2.CX X.prog X.w) X E) (hn : ps.length = 2) (ha : PX X T E a f) (hb2 : PX X T E b g) (hm : behindInMarks .NotEq b = false) :
    PTX X T E (.Compare a [.NotEq] [b] pos) (fB (fNeG L C F f g)) := by
  obtain ⟨ta, pa, sa⟩ := ha
  obtain ⟨tb, pb, sb⟩ := hb2
  exact ⟨_, pt_cmpR (op_neG R G.ok hr hb hx) pa pb hm, sd_B (sd_neG O lo hn sa sb)⟩
/-! ### dict(d), a dict of the store; list(d.items()) -/
theorem px_dictM {p : Pos} {e : Expr} {fa : Rho → Mem → Re (List Sl)} (hg : Gl X "dict") (hm : X.mg "dict" = none) (hv : bootBuiltins "dict" = some (.type "dict")) (ha : PAX X T E [e] fa)
    (he : starEach [e] X.env = (false, eval e X.env) :: starEach [] X.env := by rfl) (hpl : (backTo pos (starEach [] X.env)).any (·.1) = false := by rfl) : PX X T E (.Call (.Name "dict" p) [e] [] pos)
      (bindD fa fun ss _ m => match ss with
        | [s] => match vw m s with
          | some (.dic kvs) => some (.ok (.opq m.length), m ++ [.dic kvs])
          | _ => none
        | _ => none) := by
  obtain ⟨⟨t, pa, s⟩, _⟩ := ha
  refine ⟨_, pe_callTy call_dictD hg hm hv pa (by decide) (by decide) he hpl, s.bind (R2 := IsS X.K) (u := fun vs _ H1 Q => ∃ (a : Addr) (kvs : List (Key × V)), vs = [V.ref a] ∧ Rd H1 a (.dK kvs) ∧ ∀ p, H1 p = none → Q (V.ref p) (upd H1 p (.dK kvs))) fun H0 H am vs ss q ρ m σ r m' Q mo eo e gl => ?_⟩
  try dsimp only at e
  split at e
  case h_2 => cases e
  rename_i s0
  split at e
  case h_2 => cases e
  rename_i kvs hk
  cases e
  cases q with
  | cons q1 q2 =>
    cases q2
    obtain ⟨a, ws, rfl, hR, t⟩ := (vw_ok mo q1 hk).dicI mo.sub
    refine ⟨a, ws, rfl, hR, fun p hp => ?_⟩
    obtain ⟨ex, mo'⟩ := mo.push (u := .dK ws) (o := .dic kvs) hp ⟨ws, rfl, t⟩
    exact gl _ _ _ _ ex mo' (.opq (by rw [← mo.len]; simp))
end
end Pu
/-! list(d.items()) of a dict that may be locked -/
namespace LiR
open PySem PySem.Spec PyProof.Rows L2 LiI
def rItR : V → Hp → VK → Prop := fun x H Q => ∃ (d : Addr) (kvs : List (Key × V)), x = .ref d ∧ Rd H d (.dK kvs) ∧ kvs.length ≤ sizeLine ∧
  ∀ (H2 : Hp) (p : Addr) (ts : List Addr), Same H H2 → H p = none → (∀ t ∈ ts, H t = none) → p ∉ ts → H2 p = some (.lst (ts.map V.ref)) → Paired (fun (t : Addr) (q : Key × V) => H2 t = some (.tup [kV q.1, q.2])) ts kvs → Q (.ref p) H2
section
variable {X : Cx} {e : Expr} {te : TE} {p apos cpos pos : Pos}
theorem pe_itemsR (hc : X.calm = true) (he : PE X e te) (hg : Gl X "list") (hm : X.mg "list" = none) (hv : bootBuiltins "list" = some (.type "list")) (hb : attributeBase e "items" X.env (eval e X.env) = eval e X.env := by rfl) (hl : (apos.endLine == cpos.line) = true := by rfl)
    (hs : starEach [.Call (.Attribute e "items" apos) [] [] cpos] X.env = (false, eval (.Call (.Attribute e "items" apos) [] [] cpos) X.env) :: starEach [] X.env := by rfl) :
    PE X (.Call (.Name "list" p) [.Call (.Attribute e "items" apos) [] [] cpos] [] pos) (fun σ H Q => te σ H fun x H1 => rItR x H1 Q) := by
  refine ⟨fun pins s σ H Q I hq => wpAny_Call_Name_kw (ld_blt I hg hm hv (PyProof.Rows.callWith_type1 ?_ hs rfl))⟩
  rw [hs]
  show wpAny _ _ (spliced ((false, eval (.Call (.Attribute e "items" apos) [] [] cpos) X.env) :: backTo pos (starEach [] X.env))) _ _ s
  refine Calls.spliced_cons (wpAny_Call_method (T := "dict") (id := "dict.items") hb rfl hl F.plainAttrs_dict F.slot_dict_items F.type_dict_items (thn (he.run pins s σ H _ I hq) fun u s1 ⟨x, H1, I1, rx, d, kvs, ex, hd, hzz, q⟩ => ?_))
  subst ex
  cases (show u = Value.ref d from rx)
  obtain ⟨hz, hs0, vs, kv, hdo⟩ : ObjOk X.prog X.w H1 s1.heap d (.dK kvs) := hd.ok I1.hok
  obtain ⟨ep, hat⟩ := hdo.dictAt
  have lk : kvs.length = vs.length := Paired.length kv
  have I2 : Inv X pins σ H1 { s1 with heap := s1.heap.push ⟨.type "dict_items", none, .fields #[.ref d], #[]⟩ } := I1.kept (t' := s1.toks) fun b ob q => Heap.get?_push_of_some _ q
  refine ⟨hdo.typeIs, hdo.mapOf.noDict, ?_⟩
  show wpAny _ _ (callWith cpos (.builtin "dict.items") [.ref d] [] []) _ X.xe s1
  refine method_meetsIn F.slot_dict_items F.entry_dict_items rfl (PySem.evalArgs_none ⟨rfl, hdo.typeIs, F.args_dict_items_1 _, _, meets_dict_items (mixKind X.prog X.w) d hs0, ⟨vs, hdo⟩, Calls.spliced_nil ?_⟩)
  refine PySem.W.kdx_call (knd := mixKind X.prog X.w) (kvs := vs) (ep := ep) (I1.ok.hd hc) ⟨_, Heap.get?_push_size _ rfl, rfl, rfl⟩ (hat.push _) (by omega) fun h2 tk acc c as hk hS hl hG hacc => ?_
  obtain ⟨H2, k1, k2, k3, k4, k5, k6, J⟩ := items_laid (tk := tk) I2 hz kv hk hS hl hG hacc
  exact ⟨.ref _, H2, J, rfl, q H2 _ as k1 k2 k3 k4 k5 k6⟩
end
end LiR
namespace Pu
open PySem PySem.Spec PyProof.Rows L2 SeK
open LamX (Tabs)
def itemsD (kvs : List (Key × D)) : List D := kvs.map fun kv => .tup [keyD kv.1, kv.2]
section
variable {X : Cx} {T : List (Addr × Str)} {E : XK} {e : Expr} {f : Rho → Mem → Re Sl} {K : PySem.W.Frag}
def oItems : D → Option D
  | .dic kvs => if kvs.length ≤ sizeLine then some (.lst (itemsD kvs)) else none
  | _ => none
theorem ud_items : UnD K LiR.rItR oItems := by
  intro H0 H x d c Q s hx ho k
  unfold oItems at ho
  split at ho
  · rename_i kvs
    split at ho
    · rename_i hz
      cases ho
      obtain ⟨a, ws, rfl, h1, t1⟩ := hx.dicI s
      refine ⟨a, ws, rfl, h1, by rw [t1.len]; exact hz, fun H2 p ts sm hp hts hpt hlp hpr => ?_⟩
      let N : Addr → Prop := fun b => b = p ∨ b ∈ ts
      have dec : ∀ b, Decidable (N b) := fun b => Classical.propDecidable _
      let H1 : Hp := fun b => if N b then H2 b else H0 b
      have hN : ∀ b, N b → H b = none := fun b hb => by rcases hb with rfl | hb; exact hp; exact hts b hb
      have in1 : ∀ b, N b → H1 b = H2 b := fun b hb => if_pos hb
      have in0 : ∀ b, ¬ N b → H1 b = H0 b := fun b hb => if_neg hb
      have nw : Nw H0 H H1 H2 := by
        refine ⟨fun b o h => ?_, sm, fun b o h => ?_, fun b h n => ?_, fun b ps h => ?_⟩
        · rw [in0 b fun z => by rw [s.free (hN b z)] at h; cases h]; exact h
        · by_cases z : N b
          · rw [in1 b z] at h; exact h
          · rw [in0 b z] at h; exact sm _ _ (s _ _ h)
        · rw [in0 b fun z => n (hN b z)]; exact h
        · by_cases z : N b
          · rw [in1 b z] at h
            rcases z with rfl | z
            · rw [hlp] at h; cases h
            · obtain ⟨j, hj⟩ := List.getElem?_of_mem z
              have key : ∀ {ts : List Addr} {ws : List (Key × V)} {j : Nat}, Paired (fun (t : Addr) (q : Key × V) => H2 t = some (.tup [kV q.1, q.2])) ts ws → ts[j]? = some b → ∃ xs, H2 b = some (.tup xs) := by
                intro ts ws j pr
                induction pr generalizing j with
                | nil => intro e; simp at e
                | cons r t ih => intro e; cases j with
                  | zero => simp at e; subst e; exact ⟨_, r⟩
                  | succ j => exact ih (j := j) (by simpa using e)
              obtain ⟨xs, e⟩ := key hpr hj
              rw [e] at h; cases h
          · rw [in0 b z] at h; exact h
      refine k _ H1 H2 nw (.lst (by rw [in1 p (.inl rfl)]; exact hlp) ?_)
      have mem : ∀ t ∈ ts, N t := fun t ht => .inr ht
      clear hlp hpt hts
      have go : ∀ {ts : List Addr} {ws : List (Key × V)} {ds : List (Key × D)}, Paired (fun (t : Addr) (q : Key × V) => H2 t = some (.tup [kV q.1, q.2])) ts ws → IsKv K H0 ws ds → (∀ t ∈ ts, N t) → IsAll K H1 (ts.map V.ref) (itemsD ds) := by
        intro ts ws ds pr
        induction pr generalizing ds with
        | nil => intro t _; cases t; exact .nil
        | cons r pr ih =>
          intro t m
          cases t with
          | cons q t => exact .cons (.tup (by show H1 _ = _; rw [in1 _ (m _ List.mem_cons_self)]; exact r) (.cons (keyD_is _) (.cons (q.same nw.s0) .nil))) (ih t fun x hx => m x (List.mem_cons_of_mem _ hx))
      exact go hpr t1 mem
    · cases ho
  · cases ho
theorem px_items {p apos cpos pos : Pos} (hc : X.calm = true) (hg : Gl X "list") (hm : X.mg "list" = none) (hv : bootBuiltins "list" = some (.type "list")) (h : PX X T E e f) (hb : attributeBase e "items" X.env (eval e X.env) = eval e X.env := by rfl) (hl : (apos.endLine == cpos.line) = true := by rfl)
    (hs : starEach [.Call (.Attribute e "items" apos) [] [] cpos] X.env = (false, eval (.Call (.Attribute e "items" apos) [] [] cpos) X.env) :: starEach [] X.env := by rfl) :
    PX X T E (.Call (.Name "list" p) [.Call (.Attribute e "items" apos) [] [] cpos] [] pos) (bindD f fun s _ m => f1 oItems s m) := by
  obtain ⟨t, pe, s⟩ := h
  exact ⟨_, LiR.pe_itemsR hc pe hg hm hv hb hl hs, s.bind (u := fun x _ H1 Q => LiR.rItR x H1 Q) fun H0 H am x s q => ud_items.at q⟩
end
/-! ### C(e, .., k = v, ..) -/
structure PKX (X : Cx) (T : List (Addr × Str)) (E : XK) (kws : List Keyword) (f : Rho → Mem → Re (List Sl)) : Prop where
  ex : ∃ t, PK X kws t ∧ Sd X.K T E (fun H0 am => Paired (IsS X.K H0 am)) t f
  len : ∀ ρ m ss m', f ρ m = some (.ok ss, m') → ss.length = kws.length
def pk {α : Type} (is : List Nat) (xs : List α) : List α := is.filterMap fun i => xs[i]?
theorem pk_paired {α β : Type} {F : α → β → Prop} {xs : List α} {ys : List β} (h : Paired F xs ys) : ∀ is : List Nat, Paired F (pk is xs) (pk is ys)
  | [] => .nil
  | i :: is => by
    have ih := pk_paired h is
    unfold pk at ih ⊢
    rw [List.filterMap_cons, List.filterMap_cons]
    cases hy : ys[i]? with
    | some y =>
      obtain ⟨x, hx, q⟩ := paired_get h hy
      rw [hx]
      exact .cons q ih
    | none =>
      have e : xs[i]? = none := by
        rw [List.getElem?_eq_none_iff] at hy ⊢
        rw [prd_len h]
        exact hy
      rw [e]
      exact ih
/-- what a call of __init__ with these values gives -/
def mkOut (C : Addr) (m : Mem) (x : Re Sl) : Re Sl := match x with
  | some (.ok (.dat .non), m') => match m'[m.length]?, cutM m.length m' with
    | some (.ins C' gs), some m2 => if C' = C then some (.ok (.dat (.ins C gs)), m2) else none
    | _, _ => none
  | some (.error e, m') => (cutM m.length m').map fun m2 => (.error e, m2)
  | _ => none
section
variable {X : Cx} {T : List (Addr × Str)} {E : XK}
theorem pkx_nil : PKX X T E [] (retD []) := ⟨⟨_, pk_nil, fun H0 am H => SdAt.ret (R1 := fun H0 am => Paired (IsS X.K H0 am)) (v := []) (a := []) .nil⟩, fun ρ m ss m' e => by cases e; rfl⟩
theorem pkx_cons {nm : Option Str} {e : Expr} {kpos : Pos} {kws : List Keyword} {f : Rho → Mem → Re Sl} {fs : Rho → Mem → Re (List Sl)} (ha : PX X T E e f) (hr : PKX X T E kws fs) : PKX X T E (⟨nm, e, kpos⟩ :: kws) (fCons f fs) := by
  obtain ⟨t, p, s⟩ := ha
  obtain ⟨⟨u, p2, s2⟩, hl⟩ := hr
  refine ⟨⟨_, pk_cons p p2, s.bind fun H0 H am x a z => (s2 H0 am H).bind fun H1 H' am' xs as ex z2 => SdAt.ret (R1 := fun H0 am => Paired (IsS X.K H0 am)) (.cons (z.ex ex) z2)⟩, fun ρ m ss m' e => ?_⟩
  unfold fCons bindD bindR at e
  cases h1 : f ρ m with
  | none => simp only [h1] at e; cases e
  | some z =>
    obtain ⟨z, m1⟩ := z
    simp only [h1] at e
    cases z with
    | error w => cases e
    | ok s0 =>
      cases h2 : fs ρ m1 with
      | none => simp only [h2] at e; cases e
      | some z =>
        obtain ⟨z, m2⟩ := z
        simp only [h2] at e
        cases z with
        | error w => cases e
        | ok s1 => cases e; rw [List.length_cons, List.length_cons, hl _ _ _ _ h2]
theorem make_sound {K : PySem.W.Frag} {C : Addr} {n : Nat} {F : List Sl → Mem → Re Sl} {H1 H' : Hp} {am' : List Addr} {m1 m' : Mem} {vs : List V} {ss : List Sl} {is : List Nat} {r : Except Er Sl} {Q : VK} (mo1 : MOk K T H1 am' H' m1) (q : Paired (IsS K H1 am') vs ss)
    (hn : (pk is (.opq m1.length :: ss)).length = n) (e : mkOut C m1 (F (pk is (.opq m1.length :: ss)) (m1 ++ [.ins C []])) = some (r, m')) (gl : Glo K T E (IsS K) H1 H' am' r m' Q) :
    ∀ x dx, H' x = none → H' dx = none → dx ≠ x → spX K T n F (pk is (.ref x :: vs)) (upd (upd H' dx (.own x)) x (.ins C dx [])) (fun v H3 => v = .non ∧ Q (.ref x) H3) E := by
  intro x dx hx1 hdx1 hne
  obtain ⟨ex2, mo2⟩ := mo1.aside (u := .own x) hdx1 (fun _ z => nomatch z)
  have hx2 : (upd H' dx (.own x)) x = none := by rw [upd_ne (Ne.symm hne)]; exact hx1
  obtain ⟨ex3, mo3⟩ := mo2.push (u := .ins C dx []) (o := .ins C []) hx2 ⟨dx, [], rfl, .nil⟩
  have ex23 := ex2.trans ex3
  have hxa : (am' ++ [x])[m1.length]? = some x := by rw [← mo1.len]; simp
  have q2 : Paired (IsS K H1 (am' ++ [x])) (pk is (.ref x :: vs)) (pk is (.opq m1.length :: ss)) := pk_paired (.cons (.opq hxa) (PS.ex q ex23)) is
  cases hF : F (pk is (.opq m1.length :: ss)) (m1 ++ [.ins C []]) with
  | none => rw [hF] at e; cases e
  | some z =>
    obtain ⟨z, m4⟩ := z
    rw [hF] at e
    refine ⟨by rw [prd_len q2]; exact hn, H1, _, _, _, z, m4, mo3, q2, hF, ?_⟩
    cases z with
    | error er =>
      dsimp only [mkOut] at e
      cases hc : cutM m1.length m4 with
      | none => rw [hc] at e; cases e
      | some m5 =>
        rw [hc] at e
        cases e
        intro H2 H3 am2 ex4 mo4
        obtain ⟨_, ex5, mo5⟩ := cut_ok mo1 (ex23.trans ex4) mo4 hc
        exact gl H2 H3 am' ex5 mo5
    | ok s2 =>
      cases s2 with
      | opq i => cases e
      | dat d =>
        cases d <;> first | (cases e; done) | skip
        dsimp only [mkOut] at e
        intro v H2 H3 am2 ex4 mo4 qv
        cases qv with
        | dat qv =>
        cases qv
        refine ⟨rfl, ?_⟩
        split at e
        · rename_i C' gs m5 hm9 hc
          split at e
          · rename_i hC
            subst hC
            cases e
            obtain ⟨_, ex5, mo5⟩ := cut_ok mo1 (ex23.trans ex4) mo4 hc
            have hxa2 := ex4.get hxa
            obtain ⟨l, e1, ⟨u, e0, e3, dx', fs, rfl, t⟩ | ⟨_, z, _⟩⟩ := mo4.is _ _ hm9
            · rw [hxa2] at e1
              cases e1
              have hxn : x ∉ am' := fun z => mo1.tr x z (Fre.none hx1)
              obtain ⟨s0, mo6⟩ := mo5.grow hxn e0 e3 (fun _ z => nomatch z)
              refine gl (.ref x) _ H3 am' ⟨ex5.s0.trans s0, ex5.pre, ex5.fr, ex5.kp, fun a h1 h2 h3 => ?_⟩ mo6 (.dat (.ins upd_same (t.same s0)))
              rw [upd_ne (by rintro rfl; exact h3.nf (Fre.none hx1))]
              exact ex5.nw a h1 h2 h3
            · cases z
          · cases e
        · cases e
/-- the values' places are told by is: 0 the instance, then the positional ones, then those by keywords -/
def fMakeK (C : Addr) (F : List Sl → Mem → Re Sl) (is : List Nat) (dds : List D) (fa fk : Rho → Mem → Re (List Sl)) : Rho → Mem → Re Sl := bindD fa fun ss => bindD fk fun zs _ m => mkOut C m (F (pk is (.opq m.length :: (ss ++ zs ++ dds.map Sl.dat))) (m ++ [.ins C []]))
variable {x : Str} {C f' : Addr} {k : Nat} {fd : FuncData} {ps ks : List Str} {F : List Sl → Mem → Re Sl} {p pos : Pos} {e : Expr} {es : List Expr} {kws : List Keyword} {fa fk : Rho → Mem → Re (List Sl)} {dvs : List V} {dds : List D} {is : List Nat} {g : List Value → List Value → List Value}
theorem pk_len {α β : Type} {xs : List α} {ys : List β} (h : xs.length = ys.length) : ∀ is : List Nat, (pk is xs).length = (pk is ys).length
  | [] => rfl
  | i :: is => by
    have ih := pk_len h is
    unfold pk at ih ⊢
    rw [List.filterMap_cons, List.filterMap_cons]
    by_cases c : i < xs.length
    · rw [List.getElem?_eq_getElem c, List.getElem?_eq_getElem (h ▸ c)]
      simpa using ih
    · rw [List.getElem?_eq_none (by omega), List.getElem?_eq_none (by omega)]
      exact ih
theorem dats_paired {K : PySem.W.Frag} {H : Hp} {am : List Addr} (hdd : ∀ H, IsAll K H dvs dds) : Paired (IsS K H am) dvs (dds.map Sl.dat) := IsAll.sl (hdd H)
theorem px_makeK (M : Mk X.K C f') (G : FnX X.prog X.w X.K X.mg X.base T k f' fd ps F) (hr : Room (k + 1) X.A) (hg : Gl X x) (hm : X.mg x = some (.ref C)) (hb : KBn X.K fd ps ((e :: es).length + 1) ks g (fun vs zs => pk is (vs ++ zs ++ dvs))) (hdd : ∀ H, IsAll X.K H dvs dds)
    (hx : Passes (L2.CX X.prog X.w) X E) (ha : PAX X T E (e :: es) fa) (hk : PKX X T E kws fk) (hn : (pk is ((() :: List.replicate (e :: es).length ()) ++ List.replicate kws.length () ++ List.replicate dds.length ())).length = ps.length := by rfl) (hkl : kws.length = ks.length := by rfl)
    (hall : (backToKw pos (keywordEach kws X.env)).all (·.1.isSome) = true := by rfl) (hks : (backToKw pos (keywordEach kws X.env)).filterMap (·.1) = ks := by rfl) (hdb : (x == ("__debug__" : Str)) = false := by decide)
    (he : starEach (e :: es) X.env = (false, eval e X.env) :: starEach es X.env := by rfl) (hpl : ((backTo pos (starEach (e :: es) X.env)).any (·.1) || (backToKw pos (keywordEach kws X.env)).any (·.1.isNone)) = false := by rfl) :
    PX X T E (.Call (.Name x p) (e :: es) kws pos) (fMakeK C F is dds fa fk) := by
  obtain ⟨⟨t, pa, s⟩, hlen⟩ := ha
  obtain ⟨⟨tk, pkk, sk⟩, hlen2⟩ := hk
  refine ⟨_, pe_makeK M G.ok hr hg hm hb hx pa pkk hall hks hdb he hpl, fun H0 am H ρ m σ r m' Q mo eo e gl => ?_⟩
  unfold fMakeK bindD bindR at e
  cases hf : fa ρ m with
  | none => simp only [hf] at e; cases e
  | some z =>
    obtain ⟨z, m1⟩ := z
    simp only [hf] at e
    cases z with
    | error w => cases e; exact s H0 am H ρ m σ (.error w) _ _ mo eo hf gl
    | ok ss =>
      refine s H0 am H ρ m σ (.ok ss) m1 _ mo eo hf fun vs H1 H' am' ex mo1 q => ?_
      dsimp only at e
      cases hf2 : fk ρ m1 with
      | none => simp only [hf2] at e; cases e
      | some z =>
        obtain ⟨z, m2⟩ := z
        simp only [hf2] at e
        cases z with
        | error w => cases e; exact sk H1 am' H' ρ m1 σ (.error w) _ _ mo1 (eo.ex ex) hf2 (Glo.ex (K := X.K) (T := T) (E := E) (Rel := fun _ _ (_ : Unit) (_ : Unit) => True) (r := .error w) (Q := fun _ _ => True) gl ex)
        | ok zs =>
          refine sk H1 am' H' ρ m1 σ (.ok zs) m2 _ mo1 (eo.ex ex) hf2 fun ws H2 H3 am2 ex2 mo2 q2 => ?_
          have l1 := hlen _ _ _ _ hf
          have l2 := hlen2 _ _ _ _ hf2
          refine ⟨by rw [prd_len q, l1], by rw [prd_len q2, l2]; exact hkl, ?_⟩
          have q3 : Paired (IsS X.K H2 am2) (vs ++ ws ++ dvs) (ss ++ zs ++ dds.map Sl.dat) := by
            have app : ∀ {α β : Type} {R : α → β → Prop} {a c : List α} {b d : List β}, Paired R a b → Paired R c d → Paired R (a ++ c) (b ++ d) := by
              intro α β R a c b d h1 h2
              induction h1 with
              | nil => exact h2
              | cons r t ih => exact .cons r ih
            exact app (app (PS.ex q ex2) q2) (dats_paired hdd)
          refine make_sound (is := is) (vs := vs ++ ws ++ dvs) mo2 q3 ?_ e ((gl.ex ex).ex ex2)
          rw [← hn]
          refine pk_len ?_ is
          simp only [List.length_cons, List.length_append, List.length_map, List.length_replicate, l1, l2]
          omega
/-- keywords alone -/
def fMakeK0 (C : Addr) (F : List Sl → Mem → Re Sl) (is : List Nat) (dds : List D) (fk : Rho → Mem → Re (List Sl)) : Rho → Mem → Re Sl := bindD fk fun zs _ m => mkOut C m (F (pk is (.opq m.length :: (zs ++ dds.map Sl.dat))) (m ++ [.ins C []]))
theorem px_makeK0 (M : Mk X.K C f') (G : FnX X.prog X.w X.K X.mg X.base T k f' fd ps F) (hr : Room (k + 1) X.A) (hg : Gl X x) (hm : X.mg x = some (.ref C)) (hb : KBn X.K fd ps 1 ks g (fun vs zs => pk is (vs ++ zs ++ dvs))) (hdd : ∀ H, IsAll X.K H dvs dds)
    (hx : Passes (L2.CX X.prog X.w) X E) (hk : PKX X T E kws fk) (hn : (pk is (() :: (List.replicate kws.length () ++ List.replicate dds.length ()))).length = ps.length := by rfl) (hkl : kws.length = ks.length := by rfl)
    (hall : (backToKw pos (keywordEach kws X.env)).all (·.1.isSome) = true := by rfl) (hks : (backToKw pos (keywordEach kws X.env)).filterMap (·.1) = ks := by rfl) (hdb : (x == ("__debug__" : Str)) = false := by decide)
    (hpl : ((backTo pos (starEach [] X.env)).any (·.1) || (backToKw pos (keywordEach kws X.env)).any (·.1.isNone)) = false := by rfl) :
    PX X T E (.Call (.Name x p) [] kws pos) (fMakeK0 C F is dds fk) := by
  obtain ⟨⟨tk, pkk, sk⟩, hlen2⟩ := hk
  refine ⟨_, pe_makeK0 M G.ok hr hg hm hb hx pkk hall hks hdb hpl, fun H0 am H ρ m σ r m' Q mo eo e gl => ?_⟩
  unfold fMakeK0 bindD bindR at e
  cases hf2 : fk ρ m with
  | none => simp only [hf2] at e; cases e
  | some z =>
    obtain ⟨z, m2⟩ := z
    simp only [hf2] at e
    cases z with
    | error w => cases e; exact sk H0 am H ρ m σ (.error w) _ _ mo eo hf2 gl
    | ok zs =>
      refine sk H0 am H ρ m σ (.ok zs) m2 _ mo eo hf2 fun ws H2 H3 am2 ex2 mo2 q2 => ?_
      have l2 := hlen2 _ _ _ _ hf2
      refine ⟨rfl, by rw [prd_len q2, l2]; exact hkl, ?_⟩
      have q3 : Paired (IsS X.K H2 am2) (ws ++ dvs) (zs ++ dds.map Sl.dat) := by
        have app : ∀ {α β : Type} {R : α → β → Prop} {a c : List α} {b d : List β}, Paired R a b → Paired R c d → Paired R (a ++ c) (b ++ d) := by
          intro α β R a c b d h1 h2
          induction h1 with
          | nil => exact h2
          | cons r t ih => exact .cons r ih
        exact app q2 (dats_paired hdd)
      refine make_sound (is := is) (vs := ws ++ dvs) mo2 q3 ?_ e (gl.ex ex2)
      rw [← hn]
      refine pk_len ?_ is
      simp only [List.length_cons, List.length_append, List.length_map, List.length_replicate, l2]
end
end Pu
namespace Pu
open PySem PySem.Spec PyProof.Rows L2 SeK
theorem fLc_map {g : Sl → Rho → Option Rho} {p : Rho → Mem → Re Bool} {f : Rho → Mem → Re Sl} {ρ : Rho} {m : Mem} {h : D → D} : ∀ {ds : List D}, (∀ d ∈ ds, ∃ ρ1, g (.dat d) ρ = some ρ1 ∧ p ρ1 m = some (.ok true, m) ∧ f ρ1 m = some (.ok (.dat (h d)), m)) → fLc g p f ρ ds m = some (ds.map h, m)
  | [], _ => rfl
  | d :: ds, k => by
    obtain ⟨ρ1, e1, e2, e3⟩ := k d List.mem_cons_self
    unfold fLc
    simp only [e1, e2, e3, fLc_map fun x hx => k x (List.mem_cons_of_mem _ hx), List.map_cons]
theorem ev_lcD {g : Sl → Rho → Option Rho} {p : Rho → Mem → Re Bool} {f : Rho → Mem → Re Sl} {vs : List Nat} {ρ : Rho} {m : Mem} {ds : List D} (h : D → D) (hz : ds.length < sizeLine) (hd : ∀ d ∈ ds, ∃ ρ1, g (.dat d) (wipeR ρ vs) = some ρ1 ∧ p ρ1 m = some (.ok true, m) ∧ f ρ1 m = some (.ok (.dat (h d)), m)) :
    fLcD g p f vs ds ρ m = some (.ok (.dat (.lst (ds.map h))), m) := by
  unfold fLcD
  rw [if_pos hz, fLc_map hd]
theorem oAll_map {b : D → Bool} {xs : List D} : oAll [.lst (xs.map fun d => .bl (b d))] = some (.bl (xs.all b)) := by
  have e : xs.map (fun d => D.bl (b d)) = (xs.map b).map D.bl := by rw [List.map_map]; rfl
  unfold oAll
  rw [e]
  simp only [blsOf_map, Option.map_some]
  rw [List.all_map]
  rfl
/-- a comprehension that changes the store -/
theorem fLc_ex {g : Sl → Rho → Option Rho} {p : Rho → Mem → Re Bool} {f : Rho → Mem → Re Sl} {ρ : Rho} (I : Nat → Mem → Prop) (R : D → D → Prop) : ∀ {ds : List D} {n : Nat} {m : Mem}, I n m → (∀ n m d, d ∈ ds → I n m → ∃ ρ1 x m2, g (.dat d) ρ = some ρ1 ∧ p ρ1 m = some (.ok true, m) ∧ f ρ1 m = some (.ok (.dat x), m2) ∧ R d x ∧ I (n + 1) m2) →
    ∃ xs m', fLc g p f ρ ds m = some (xs, m') ∧ Paired R ds xs ∧ I (n + ds.length) m'
  | [], n, m, h, _ => ⟨[], m, rfl, .nil, h⟩
  | d :: ds, n, m, h, k => by
    obtain ⟨ρ1, x, m2, e1, e2, e3, r, h2⟩ := k n m d List.mem_cons_self h
    obtain ⟨xs, m', e4, q, h3⟩ := fLc_ex I R h2 fun n m d hd => k n m d (List.mem_cons_of_mem _ hd)
    refine ⟨x :: xs, m', ?_, .cons r q, ?_⟩
    · unfold fLc
      simp only [e1, e2, e3, e4]
    · rw [List.length_cons, show n + (ds.length + 1) = n + 1 + ds.length by omega]
      exact h3
theorem ev_lcX {g : Sl → Rho → Option Rho} {p : Rho → Mem → Re Bool} {f : Rho → Mem → Re Sl} {vs : List Nat} {ρ : Rho} {ds : List D} (I : Nat → Mem → Prop) (R : D → D → Prop) {n : Nat} {m : Mem} (hz : ds.length < sizeLine) (h : I n m)
    (k : ∀ n m d, d ∈ ds → I n m → ∃ ρ1 x m2, g (.dat d) (wipeR ρ vs) = some ρ1 ∧ p ρ1 m = some (.ok true, m) ∧ f ρ1 m = some (.ok (.dat x), m2) ∧ R d x ∧ I (n + 1) m2) :
    ∃ xs m', fLcD g p f vs ds ρ m = some (.ok (.dat (.lst xs)), m') ∧ Paired R ds xs ∧ I (n + ds.length) m' := by
  obtain ⟨xs, m', e, q, i⟩ := fLc_ex (g := g) (p := p) (f := f) (ρ := wipeR ρ vs) I R h k
  refine ⟨xs, m', ?_, q, i⟩
  unfold fLcD
  rw [if_pos hz, e]
/-! == of plain data -/
mutual
def plD : Nat → D → Bool
  | _, .non => true | _, .bl _ => true | _, .int _ => true
  | n + 1, .lst xs => plAll n xs
  | n + 1, .tup xs => plAll n xs
  | _, _ => false
def plAll : Nat → List D → Bool
  | _, [] => true
  | n, d :: ds => plD n d && plAll n ds
end
def PyOk (n : Nat) (d : D) : Prop := ∃ p, toPy d = some p ∧ p.canLay0 = true ∧ p.depth ≤ n
def PyAll (n : Nat) (ds : List D) : Prop := ∃ ps, toPyAll ds = some ps ∧ PyData.canLayAll0 ps = true ∧ PyData.depthAll ps ≤ n
theorem pyAll_of {n : Nat} : ∀ {ds : List D}, (∀ d ∈ ds, PyOk n d) → PyAll n ds
  | [], _ => ⟨[], rfl, rfl, Nat.zero_le _⟩
  | d :: ds, h => by
    obtain ⟨p, e1, c1, d1⟩ := h d List.mem_cons_self
    obtain ⟨ps, e2, c2, d2⟩ := pyAll_of fun x hx => h x (List.mem_cons_of_mem _ hx)
    refine ⟨p :: ps, by unfold toPyAll; rw [e1, e2], ?_, ?_⟩
    · show (p.canLay0 && PyData.canLayAll0 ps) = true
      rw [c1, c2]; rfl
    · show max p.depth (PyData.depthAll ps) ≤ n
      omega
theorem py_lst {n : Nat} {ds : List D} (h : ∀ d ∈ ds, PyOk n d) : PyOk (n + 1) (.lst ds) := by
  obtain ⟨ps, e, c, d⟩ := pyAll_of h
  exact ⟨.list ps, by unfold toPy; rw [e]; rfl, c, Nat.succ_le_succ d⟩
theorem py_tup {n : Nat} {ds : List D} (h : ∀ d ∈ ds, PyOk n d) : PyOk (n + 1) (.tup ds) := by
  obtain ⟨ps, e, c, d⟩ := pyAll_of h
  exact ⟨.tuple ps, by unfold toPy; rw [e]; rfl, c, Nat.succ_le_succ d⟩
theorem py_int {n : Nat} {i : Int} : PyOk n (.int i) := ⟨.int i, by unfold toPy; rfl, rfl, Nat.zero_le _⟩
theorem py_non {n : Nat} : PyOk n .non := ⟨.none, by unfold toPy; rfl, rfl, Nat.zero_le _⟩
theorem py_bl {n : Nat} {b : Bool} : PyOk n (.bl b) := ⟨.bool b, by unfold toPy; rfl, rfl, Nat.zero_le _⟩
theorem py_shaped {n : Nat} (hn : n ≤ 64) {d : D} (h : PyOk n d) : ∃ p, toPy d = some p ∧ SeqAt.shaped p = true := by
  obtain ⟨p, e, c, dd⟩ := h
  exact ⟨p, e, by show (p.canLay0 && decide (p.depth ≤ 64)) = true; rw [c, decide_eq_true (Nat.le_trans dd hn)]; rfl⟩
mutual
theorem eqv_refl : ∀ p : PyData, p.canLay0 = true → PyData.eqv p p = true
  | .none, _ => by unfold PyData.eqv; rfl
  | .bool b, _ => by unfold PyData.eqv; simp
  | .int b, _ => by unfold PyData.eqv; simp
  | .str b, _ => by unfold PyData.eqv; simp
  | .list xs, h => by unfold PyData.eqv; exact eqvAll_refl xs h
  | .tuple xs, h => by unfold PyData.eqv; exact eqvAll_refl xs h
  | .dict _, h => by cases h
theorem eqvAll_refl : ∀ ps : List PyData, PyData.canLayAll0 ps = true → PyData.eqvAll ps ps = true
  | [], _ => by unfold PyData.eqvAll; rfl
  | p :: ps, h => by
    have h : (p.canLay0 && PyData.canLayAll0 ps) = true := h
    rw [Bool.and_eq_true] at h
    unfold PyData.eqvAll
    rw [eqv_refl p h.1, eqvAll_refl ps h.2]; rfl
end
/-- a thing equals itself -/
theorem oEq_refl {n : Nat} (hn : n ≤ 64) {neg : Bool} {d : D} (h : PyOk n d) : oEq neg d d = some (.bl (!neg)) := by
  obtain ⟨p, e, c, dd⟩ := h
  have s : SeqAt.shaped p = true := by show (p.canLay0 && decide (p.depth ≤ 64)) = true; rw [c, decide_eq_true (Nat.le_trans dd hn)]; rfl
  unfold oEq
  simp only [e]
  rw [if_pos ⟨s, s⟩, eqv_refl p c]
  cases neg <;> rfl
/-- a list is empty or not -/
theorem oEq_nil {n : Nat} (hn : n ≤ 63) {neg : Bool} {xs : List D} (h : ∀ d ∈ xs, PyOk n d) : oEq neg (.lst xs) (.lst []) = some (.bl (if neg then !xs.isEmpty else xs.isEmpty)) := by
  obtain ⟨ps, e, c, dd⟩ := pyAll_of h
  have s : SeqAt.shaped (.list ps) = true := by
    show (PyData.canLayAll0 ps && decide (PyData.depthAll ps + 1 ≤ 64)) = true
    rw [c, decide_eq_true (by omega)]; rfl
  have e2 : PyData.eqv (.list ps) (.list []) = xs.isEmpty := by
    cases xs with
    | nil => cases (show toPyAll [] = some ps from e); simp [PyData.eqv, PyData.eqvAll]
    | cons x xs =>
      unfold toPyAll at e
      cases h1 : toPy x with
      | none => rw [h1] at e; cases e
      | some p => cases h2 : toPyAll xs with
        | none => rw [h1, h2] at e; cases e
        | some l => rw [h1, h2] at e; cases e; simp [PyData.eqv, PyData.eqvAll]
  unfold oEq
  have e3 : toPy (.lst xs) = some (.list ps) := by unfold toPy; rw [e]; rfl
  have e4 : toPy (.lst []) = some (.list []) := rfl
  simp only [e3, e4]
  rw [if_pos ⟨s, rfl⟩, e2]
theorem py_str {n : Nat} {z : Str} (h : PyData.strOk z = true) : PyOk n (.str z) := ⟨.str z, by unfold toPy; rfl, by simp [PyData.canLay0, h], Nat.zero_le _⟩
end Pu
namespace Pu
open PySem PySem.Spec PyProof.Rows L2 SeK
open LamX (Tabs)
/-! ### == of texts; of lists and of tuples of flat values -/
def oStrC (neg : Bool) : D → D → Option D
  | .str a, .str b => some (.bl (if neg then !decide (a = b) else decide (a = b)))
  | _, _ => none
section
variable {X : Cx} {K : PySem.W.Frag}
theorem dec_strV {a b : Str} : decide (V.str a = V.str b) = decide (a = b) := by
  by_cases h : a = b
  · subst h; simp
  · rw [decide_eq_false h, decide_eq_false (fun z => h (by injection z))]
theorem od_strEq : OpD K rEq (oStrC false) := by
  intro H0 H x y d e c Q s hx hy ho k
  unfold oStrC at ho
  split at ho
  · cases ho
    cases hx.strI; cases hy.strI
    exact ⟨rfl, k _ _ _ (Nw.refl s) (by rw [dec_strV]; exact .bl _)⟩
  · cases ho
theorem od_strNe : OpD K rNe (oStrC true) := by
  intro H0 H x y d e c Q s hx hy ho k
  unfold oStrC at ho
  split at ho
  · cases ho
    cases hx.strI; cases hy.strI
    exact ⟨rfl, k _ _ _ (Nw.refl s) (by rw [dec_strV]; exact .bl _)⟩
  · cases ho
def eqSeqV (xs ys : List V) : Bool := xs.length == ys.length && (List.range xs.length).all fun j => eqV (xs.getD j .non) (ys.getD j .non)
def eqSeq (xs ys : List D) : Bool := xs.length == ys.length && (List.range xs.length).all fun j => eqF (xs.getD j .non) (ys.getD j .non)
theorem flatV_all {H0 : Hp} {vs : List V} {ds : List D} (t : IsAll K H0 vs ds) (f : ds.all flatD = true) : vs.all flatV = true := (inV_is (x := .non) (d := .non) .non rfl t f).1
theorem eqSeq_is {H0 : Hp} {vs ws : List V} {ds es : List D} (t : IsAll K H0 vs ds) (t2 : IsAll K H0 ws es) (f : ds.all flatD = true) (f2 : es.all flatD = true) : eqSeqV vs ws = eqSeq ds es := by
  unfold eqSeqV eqSeq
  rw [t.len, t2.len]
  by_cases hl : ds.length = es.length
  · congr 1
    rw [Bool.eq_iff_iff, List.all_eq_true, List.all_eq_true]
    have key : ∀ j ∈ List.range ds.length, eqV (vs.getD j .non) (ws.getD j .non) = eqF (ds.getD j .non) (es.getD j .non) := fun j hj => by
      have hj := List.mem_range.mp hj
      have h1 : ds[j]? = some ds[j] := List.getElem?_eq_getElem hj
      have h2 : es[j]? = some (es[j]'(by omega)) := List.getElem?_eq_getElem (by omega)
      obtain ⟨v, e1, q1⟩ := t.get' h1
      obtain ⟨w, e2, q2⟩ := t2.get' h2
      rw [List.getD_eq_getElem?_getD, List.getD_eq_getElem?_getD, List.getD_eq_getElem?_getD, List.getD_eq_getElem?_getD, e1, e2, h1, h2]
      exact eqF_is q1 q2 (List.all_eq_true.mp f _ (List.getElem_mem _)) (List.all_eq_true.mp f2 _ (List.getElem_mem _))
    exact ⟨fun h j hj => (key j hj) ▸ h j hj, fun h j hj => by rw [key j hj]; exact h j hj⟩
  · have e : (ds.length == es.length) = false := by simpa using hl
    rw [e]
    rfl
/-- texts -/
theorem eqSeq_str {xs ys : List Str} : eqSeq (xs.map D.str) (ys.map D.str) = decide (xs = ys) := by
  unfold eqSeq
  rw [List.length_map, List.length_map]
  rw [Bool.eq_iff_iff, Bool.and_eq_true, List.all_eq_true, decide_eq_true_eq, beq_iff_eq]
  constructor
  · rintro ⟨h1, h2⟩
    refine List.ext_getElem h1 fun j a b => ?_
    have z := h2 j (List.mem_range.mpr a)
    rw [List.getD_eq_getElem?_getD, List.getD_eq_getElem?_getD, List.getElem?_map, List.getElem?_map, List.getElem?_eq_getElem a, List.getElem?_eq_getElem b] at z
    exact eq_of_beq (show (xs[j] == ys[j]) = true from z)
  · rintro rfl
    refine ⟨rfl, fun j hj => ?_⟩
    have a := List.mem_range.mp hj
    rw [List.getD_eq_getElem?_getD, List.getElem?_map, List.getElem?_eq_getElem a]
    show (xs[j] == xs[j]) = true
    simp
def rSeqC (K : PySem.W.Frag) (neg : Bool) : R2 := fun x y H Q => ∃ a b xs ys, x = .ref a ∧ y = .ref b ∧ ((SqL K H a xs ∧ SqL K H b ys) ∨ (SqT K H a xs ∧ SqT K H b ys)) ∧ xs.all flatV = true ∧ ys.all flatV = true ∧ Q (.bl (if neg then !eqSeqV xs ys else eqSeqV xs ys)) H
theorem eq_items {A : Around} {s : Shared} : ∀ {xs ys : List V} {us ws : List Value}, Vals xs us → Vals ys ws → xs.all flatV = true → ys.all flatV = true → ∀ j (h1 : j < us.length) (h2 : j < ws.length), SeqAt.EqAt A s us[j] ws[j] (eqV (xs.getD j .non) (ys.getD j .non)) := by
  intro xs ys us ws r1
  induction r1 generalizing ys ws with
  | nil => intro _ _ _ j h1 _; exact absurd h1 (Nat.not_lt_zero j)
  | cons a b ih =>
    intro r2 f1 f2 j h1 h2
    rw [List.all_cons, Bool.and_eq_true] at f1
    cases r2 with
    | nil => exact absurd h2 (Nat.not_lt_zero j)
    | cons a2 b2 =>
      rw [List.all_cons, Bool.and_eq_true] at f2
      cases j with
      | zero => exact eqAt_V a a2 f1.1 f2.1
      | succ j => exact ih b2 f1.2 f2.2 j (Nat.lt_of_succ_lt_succ h1) (Nat.lt_of_succ_lt_succ h2)
theorem op_eqSeq (hu : X.A.units < cLine) : OpR X (compareOp .Eq) (rSeqC X.K false) := by
  intro pins s σ H x y v u Q I rx ry ⟨a, b, xs, ys, ex, ey, hh, f1, f2, q⟩
  subst ex ey
  obtain rfl : v = Value.ref a := rx
  obtain rfl : u = Value.ref b := ry
  rcases hh with ⟨h1, h2⟩ | ⟨h1, h2⟩
  · obtain ⟨us, r1, p1, _⟩ := I.list h1
    obtain ⟨ws, r2, p2, _⟩ := I.list h2
    have l1 := r1.length
    have l2 := r2.length
    by_cases hl : us.length = ws.length
    · refine SeqAt.RcAt.lists (e := fun j => eqV (xs.getD j .non) (ys.getD j .non)) p1.isList p2.isList (by simpa using hl) hu (fun j k1 k2 => ?_) X.prog X.w _ _ (fin_bl I q ?_)
      · simpa using eq_items r1 r2 f1 f2 j (by simpa using k1) (by simpa using k2)
      · unfold eqSeqV
        rw [l1, l2, hl]
        simp [hl]
    · refine SeqAt.RcAt.lists_lengths p1.isList p2.isList (by simpa using hl) hu X.prog X.w _ _ (fin_bl I q ?_)
      unfold eqSeqV
      rw [l1, l2]
      simp [hl]
  · obtain ⟨us, r1, p1, _⟩ := I.tuple h1
    obtain ⟨ws, r2, p2, _⟩ := I.tuple h2
    have l1 := r1.length
    have l2 := r2.length
    refine SeqAt.RcAt.tuples (e := fun j => eqV (xs.getD j .non) (ys.getD j .non)) p1 p2 hu (fun j k1 k2 => ?_) X.prog X.w _ _ (fin_bl I q ?_)
    · simpa using eq_items r1 r2 f1 f2 j (by simpa using k1) (by simpa using k2)
    · unfold eqSeqV
      rw [l1, l2]
      by_cases hl : us.length = ws.length
      · simp [hl]
      · have e : (us.length == ws.length) = false := by simpa using hl
        simp [e]
theorem op_neSeq (hu : X.A.units < cLine) : OpR X (compareOp .NotEq) (rSeqC X.K true) := by
  intro pins s σ H x y v u Q I rx ry ⟨a, b, xs, ys, ex, ey, hh, f1, f2, q⟩
  subst ex ey
  obtain rfl : v = Value.ref a := rx
  obtain rfl : u = Value.ref b := ry
  rcases hh with ⟨h1, h2⟩ | ⟨h1, h2⟩
  · obtain ⟨us, r1, p1, _⟩ := I.list h1
    obtain ⟨ws, r2, p2, _⟩ := I.list h2
    have l1 := r1.length
    have l2 := r2.length
    by_cases hl : us.length = ws.length
    · refine SeqAt.RcNeAt.lists (e := fun j => eqV (xs.getD j .non) (ys.getD j .non)) p1.isList p2.isList (by simpa using hl) hu (fun j k1 k2 => ?_) X.prog X.w _ _ (fin_bl I q ?_)
      · simpa using eq_items r1 r2 f1 f2 j (by simpa using k1) (by simpa using k2)
      · unfold eqSeqV
        rw [l1, l2, hl]
        simp [hl]
    · refine SeqAt.RcNeAt.lists_lengths p1.isList p2.isList (by simpa using hl) hu X.prog X.w _ _ (fin_bl I q ?_)
      unfold eqSeqV
      rw [l1, l2]
      simp [hl]
  · obtain ⟨us, r1, p1, _⟩ := I.tuple h1
    obtain ⟨ws, r2, p2, _⟩ := I.tuple h2
    have l1 := r1.length
    have l2 := r2.length
    refine SeqAt.RcNeAt.tuples (e := fun j => eqV (xs.getD j .non) (ys.getD j .non)) p1 p2 hu (fun j k1 k2 => ?_) X.prog X.w _ _ (fin_bl I q ?_)
    · simpa using eq_items r1 r2 f1 f2 j (by simpa using k1) (by simpa using k2)
    · unfold eqSeqV
      rw [l1, l2]
      by_cases hl : us.length = ws.length
      · simp [hl]
      · have e : (us.length == ws.length) = false := by simpa using hl
        simp [e]
def oSeqC (neg : Bool) : D → D → Option D
  | .lst xs, .lst ys => if xs.all flatD = true ∧ ys.all flatD = true then some (.bl (if neg then !eqSeq xs ys else eqSeq xs ys)) else none
  | .tup xs, .tup ys => if xs.all flatD = true ∧ ys.all flatD = true then some (.bl (if neg then !eqSeq xs ys else eqSeq xs ys)) else none
  | _, _ => none
theorem od_seqC {neg : Bool} : OpD K (rSeqC K neg) (oSeqC neg) := by
  intro H0 H x y d e c Q s hx hy ho k
  unfold oSeqC at ho
  split at ho
  · split at ho
    · rename_i hc
      cases ho
      obtain ⟨a, vs, rfl, h1, t1⟩ := hx.lstI s
      obtain ⟨b, ws, rfl, h2, t2⟩ := hy.lstI s
      exact ⟨a, b, vs, ws, rfl, rfl, .inl ⟨SqL.of h1, SqL.of h2⟩, flatV_all t1 hc.1, flatV_all t2 hc.2, k _ _ _ (Nw.refl s) (by rw [eqSeq_is t1 t2 hc.1 hc.2]; exact .bl _)⟩
    · cases ho
  · split at ho
    · rename_i hc
      cases ho
      obtain ⟨a, vs, rfl, h1, t1⟩ := hx.tupI s
      obtain ⟨b, ws, rfl, h2, t2⟩ := hy.tupI s
      exact ⟨a, b, vs, ws, rfl, rfl, .inr ⟨h1.sq, h2.sq⟩, flatV_all t1 hc.1, flatV_all t2 hc.2, k _ _ _ (Nw.refl s) (by rw [eqSeq_is t1 t2 hc.1 hc.2]; exact .bl _)⟩
    · cases ho
  · cases ho
/-! all ways to compare at once -/
abbrev oEqA : D → D → Option D := orO (oStrC false) (orO (oSeqC false) (orO (oDicC false) (oEq false)))
abbrev oNeA : D → D → Option D := orO (oStrC true) (orO (oSeqC true) (orO (oDicC true) (orO oNeOne (oEq true))))
abbrev rEqA (K : PySem.W.Frag) : R2 := fun x y H Q => rEq x y H Q ∨ rSeqC K false x y H Q ∨ rDicC false x y H Q ∨ rEqD K x y H Q
abbrev rNeA (K : PySem.W.Frag) : R2 := fun x y H Q => rNe x y H Q ∨ rSeqC K true x y H Q ∨ rDicC true x y H Q ∨ rNeOne K x y H Q ∨ rNeD K x y H Q
theorem op_eqA (hu : X.A.units + 64 < cLine) : OpR X (compareOp .Eq) (rEqA X.K) := OpR.or op_eq (OpR.or (op_eqSeq (by omega)) (OpR.or (op_eq_dic (by omega)) (op_eqD hu)))
theorem op_neA (hu : X.A.units + 64 < cLine) : OpR X (compareOp .NotEq) (rNeA X.K) := OpR.or op_ne (OpR.or (op_neSeq (by omega)) (OpR.or (op_ne_dic (by omega)) (OpR.or (op_neOne hu) (op_neD hu))))
theorem od_eqA : OpD K (rEqA K) oEqA := od_strEq.or (od_seqC.or (od_dicC.or od_eq))
theorem od_neA : OpD K (rNeA K) oNeA := od_strNe.or (od_seqC.or (od_dicC.or (od_neOne.or od_ne)))
end
/-! what they give -/
theorem oEqA_str {a b : Str} : oEqA (.str a) (.str b) = some (.bl (decide (a = b))) := rfl
theorem oNeA_str {a b : Str} : oNeA (.str a) (.str b) = some (.bl (!decide (a = b))) := rfl
theorem flat_strs (xs : List Str) : (xs.map D.str).all flatD = true := by
  induction xs with
  | nil => rfl
  | cons x r ih => exact ih
theorem oEqA_strs {xs ys : List Str} : oEqA (.lst (xs.map D.str)) (.lst (ys.map D.str)) = some (.bl (decide (xs = ys))) := by
  show (match (if _ ∧ _ then _ else _ : Option D) with | some c => some c | none => _) = _
  rw [if_pos ⟨flat_strs xs, flat_strs ys⟩, eqSeq_str]
  rfl
theorem oEqA_tstrs {xs ys : List Str} : oEqA (.tup (xs.map D.str)) (.tup (ys.map D.str)) = some (.bl (decide (xs = ys))) := by
  show (match (if _ ∧ _ then _ else _ : Option D) with | some c => some c | none => _) = _
  rw [if_pos ⟨flat_strs xs, flat_strs ys⟩, eqSeq_str]
  rfl
theorem oNeA_strs {xs ys : List Str} : oNeA (.lst (xs.map D.str)) (.lst (ys.map D.str)) = some (.bl (!decide (xs = ys))) := by
  show (match (if _ ∧ _ then _ else _ : Option D) with | some c => some c | none => _) = _
  rw [if_pos ⟨flat_strs xs, flat_strs ys⟩, eqSeq_str]
  rfl
theorem oEqA_dic {ks ls : List (Key × D)} (h : flatKv ks = true) (h2 : flatKv ls = true) : oEqA (.dic ks) (.dic ls) = some (.bl (eqKv ks ls)) := by
  show (match (if _ ∧ _ then _ else _ : Option D) with | some c => some c | none => _) = _
  rw [if_pos ⟨h, h2⟩]
  rfl
end Pu
namespace Pu
open PySem PySem.Spec PyProof.Rows L2 EV LamX
/-! ### the end of a law -/
abbrev emptyTab : Obj := { cls := .none, data := .fields #[] }
/-- the law's tracked heap at its call: the empty tables of cs, and the script where the written part does not say it -/
noncomputable def startHp (cs : List (Addr × Addr)) (sc : Option (Addr × HO)) : Hp := fun b =>
  if ∃ p ∈ cs, p.2 = b then some (.tbl #[]) else match sc with
    | some (a, u) => if b = a then some u else none
    | none => none
theorem startHp_tab {cs : List (Addr × Addr)} {sc : Option (Addr × HO)} {p : Addr × Addr} (h : p ∈ cs) : startHp cs sc p.2 = some (.tbl #[]) := if_pos ⟨p, h, rfl⟩
theorem startHp_sc {cs : List (Addr × Addr)} {a : Addr} {u : HO} (h : ¬ ∃ p ∈ cs, p.2 = a) : startHp cs (some (a, u)) a = some u := (if_neg h).trans (if_pos rfl)
theorem startHp_cases {cs : List (Addr × Addr)} {sc : Option (Addr × HO)} {b : Addr} {u : HO} (h : startHp cs sc b = some u) : (∃ p ∈ cs, p.2 = b ∧ u = .tbl #[]) ∨ ((¬ ∃ p ∈ cs, p.2 = b) ∧ sc = some (b, u)) := by
  unfold startHp at h
  split at h
  · rename_i z
    obtain ⟨p, hp, e⟩ := z
    cases h
    exact .inl ⟨p, hp, e, rfl⟩
  · rename_i z
    refine .inr ⟨z, ?_⟩
    split at h
    · split at h
      · rename_i e
        cases h
        rw [e]
      · cases h
    · cases h
/-- a law whose def is run where nothing is being shown -/
theorem law_callG {P : Program} {w : World} {K : PySem.W.Frag} {mg mb : Str → Option Value} {k : Nat} {fa a : Addr} {cs : List (Addr × Addr)} {fd : FuncData} {x : Str} {sp : Sp} {s₁ : Shared} {us : List Value} {ns : List Int}
    (KX : K.In s₁.heap) (hmod : s₁.heap.Ns mainGlobals mg ∧ s₁.heap.Ns builtinsNs mb ∧ (∀ x : Str, x ≠ "__name__" → mb x = bootBuiltins x) ∧ s₁.heap.NoLimit) (hg : s₁.gens = #[])
    (tabs : ∀ p ∈ cs, s₁.heap.get? p.2 = some emptyTab ∧ K.lookup p.2 = none ∧ PySem.W.CodeHd s₁.heap p.1 p.2)
    (hbm : ∃ (bm : Addr) (ob : Obj), mg "__builtins__" = some (.ref bm) ∧ bm ≠ builtinsNs ∧ s₁.heap.get? bm = some ob ∧ ob.cls = .type "module" ∧ ob.dict = some builtinsNs ∧ ob.data = .plain)
    (ha : s₁.heap.get? a = some { cls := .type "list", data := .seq us.toArray }) (hi : IntsAre us ns) (hl : ns.length ≤ sizeLine) (hr : Room k callerA)
    (F : ∀ base : Heap, K.In base → base.Ns mainGlobals mg → (∀ p ∈ cs, TabB base mg p.1 p.2) → FnG P w K mg base k fa fd [x] sp) (bd : ∀ (s : Shared) (u : Value), BindsTo s fd ⟨[u], []⟩ [(x, u)])
    (hsp : ∀ H : Hp, (∀ p ∈ cs, H p.2 = some (.tbl #[])) → SqL K H a (ns.map V.int) → sp [.ref a] H (fun v _ => v = .bl true) fun _ _ _ => False) :
    codeAny (model P w) callerA (.call (.ref fa) ⟨[.ref a], []⟩) (fun r s' => r = .ok (.ret (.bool true)) ∧ OldK s₁.heap s'.heap ∧ s'.os = s₁.os ∧ AllBare s'.gens) s₁ := by
  obtain ⟨m1, m2, m3, m4⟩ := hmod
  have rv := vals_ints hi
  have lenV := hi.length
  have aT : ¬ ∃ p ∈ cs, p.2 = a := by
    rintro ⟨p, hp, rfl⟩
    have q := (tabs p hp).1
    rw [ha] at q
    exact absurd (congrArg (fun o : Option Obj => o.map (·.data)) q) (by simp)
  -- the script's own entry
  obtain ⟨sc, hsc, hS⟩ : ∃ sc : Option (Addr × HO), (sc = none ∨ (sc = some (a, .frz { cls := .type "list", data := .seq us.toArray } (.lst (ns.map V.int))) ∧ K.lookup a = none)) ∧ SqL K (startHp cs sc) a (ns.map V.int) := by
    cases hk : K.lookup a with
    | none => exact ⟨_, .inr ⟨rfl, rfl⟩, .inl (.inr ⟨_, startHp_sc aT⟩)⟩
    | some o =>
      have e := KX a o hk
      rw [ha] at e
      cases e
      exact ⟨none, .inl rfl, .inr ⟨_, us.toArray, _, hk, rfl, rfl, rfl, by rw [List.size_toArray, lenV]; exact hl, by simpa using rv⟩⟩
  have one : ∀ {b : Addr} {u : HO}, startHp cs sc b = some u → (∃ p ∈ cs, p.2 = b ∧ u = .tbl #[]) ∨ (b = a ∧ u = .frz { cls := .type "list", data := .seq us.toArray } (.lst (ns.map V.int)) ∧ K.lookup b = none) := by
    intro b u h
    rcases startHp_cases h with z | ⟨_, z⟩
    · exact .inl z
    · rcases hsc with e | ⟨e, hk⟩
      · rw [e] at z; cases z
      · rw [e] at z
        cases z
        exact .inr ⟨rfl, rfl, hk⟩
  have obj : ∀ {b : Addr} {u : HO}, startHp cs sc b = some u → (s₁.heap.get? b = some emptyTab ∨ s₁.heap.get? b = some { cls := .type "list", data := .seq us.toArray }) ∧ K.lookup b = none := by
    intro b u h
    rcases one h with ⟨p, hp, rfl, _⟩ | ⟨rfl, _, hk⟩
    · exact ⟨.inl (tabs p hp).1, (tabs p hp).2.1⟩
    · exact ⟨.inr ha, hk⟩
  generalize hH : startHp cs sc = H at hS one obj
  have tb : ∀ p ∈ cs, H p.2 = some (.tbl #[]) := fun p hp => by rw [← hH]; exact startHp_tab hp
  have hok : HOk P w H s₁.heap := by
    intro b u h
    rcases one h with ⟨p, hp, rfl, rfl⟩ | ⟨rfl, rfl, _⟩
    · exact (tabs p hp).1
    · exact ⟨ha, by rw [List.length_map]; exact hl, us, _, rv, ha⟩
  have stay : ∀ {b : Addr} {o : Obj}, s₁.heap.get? b = some o → o ≠ emptyTab → o ≠ { cls := .type "list", data := .seq us.toArray } → (hidT s₁.heap H).get? b = some o := by
    intro b o e n1 n2
    refine hidT_get e ?_
    cases q : H b with
    | none => rfl
    | some u =>
      rcases (obj q).1 with z | z
      · rw [e] at z; exact absurd (Option.some.inj z) n1
      · rw [e] at z; exact absurd (Option.some.inj z) n2
  have spaces : ∀ {b : Addr} {m : Str → Option Value}, s₁.heap.Ns b m → (hidT s₁.heap H).Ns b m := by
    rintro b m ⟨o, es, ep, e, d, r⟩
    exact ⟨o, es, ep, stay e (fun z => by rw [z] at d; cases d) (fun z => by rw [z] at d; cases d), d, r⟩
  have KB : K.In (hidT s₁.heap H) := by
    intro b o e
    refine hidT_get (KX b o e) ?_
    cases q : H b with
    | none => rfl
    | some u =>
      have z := (obj q).2
      rw [e] at z
      cases z
  have MB : L2.Mod K mg (hidT s₁.heap H) := ⟨KB, spaces m1, ⟨mb, spaces m2, m3⟩, by
    obtain ⟨mc, h1, h2⟩ := m4
    exact ⟨mc, spaces h1, h2⟩⟩
  have gne : ∀ p ∈ cs, mainGlobals ≠ p.2 := by
    intro p hp z
    obtain ⟨o, es, ep, e, d, _⟩ := m1
    rw [z, (tabs p hp).1] at e
    cases e
    cases d
  have TB : ∀ p ∈ cs, TabB (hidT s₁.heap H) mg p.1 p.2 := by
    intro p hp
    refine ⟨?_, ?_, gne p hp⟩
    · obtain ⟨o, vs, file, tf, fl, tg, iF, tx, tt, e1, r1, r2, r3, r⟩ := (tabs p hp).2.2
      refine ⟨o, vs, file, tf, fl, tg, iF, tx, tt, stay e1 (fun z => ?_) (fun z => ?_), r1, r2, r3, r⟩
      · rw [z] at r2; cases r2; simp at r3
      · rw [z] at r2; cases r2
    · obtain ⟨bm, ob, b1, b2, b3, b4, b5, b6⟩ := hbm
      have c1 : ob ≠ emptyTab := fun z => by rw [z] at b6; cases b6
      refine ⟨bm, ob, b1, b2, fun z => ?_, fun z => ?_, stay b3 c1 (fun z => by rw [z] at b6; cases b6), b4, b5, b6⟩
      · obtain ⟨o, es, ep, e, d, _⟩ := m1
        rw [z, e] at b3
        cases b3
        rw [d] at b6
        cases b6
      · rw [z, (tabs p hp).1] at b3
        exact c1 (Option.some.inj b3).symm
  have E0' : Env0 P w K mg (hidT s₁.heap H) callerA [] s₁ H := ⟨rfl, MB, fun b o e => of_hidT e, Nat.le_of_eq (hidT_size _ _), trivial, fun b hb => (nomatch hb), hok, .of_eq hg⟩
  refine codeAny_mono ((F _ KB (spaces m1) TB).goes callerA [] s₁ H ⟨[.ref a], []⟩ [.ref a] [.ref a] _ _ rfl hr E0' (bd s₁ (.ref a)) (.cons rfl .nil) (hsp H tb hS)) fun r s' h => ?_
  match r, h with
  | .error e, h => exact (show False from h).elim
  | .ok .next, h => exact False.elim h
  | .ok .brk, h => exact False.elim h
  | .ok .cont, h => exact False.elim h
  | .ok (.ret u), h =>
    obtain ⟨v, H', os, bare, un, hok', r', q⟩ := h
    obtain rfl : v = .bl true := q
    obtain rfl : u = Value.bool true := r'
    have grown : ∀ p ∈ cs, ∃ more : Array Value, s'.heap.get? p.2 = some { cls := .none, data := .fields more } := by
      intro p hp
      obtain ⟨more, z⟩ := un.tbls p.2 #[] (tb p hp)
      exact ⟨_, hok' p.2 _ z⟩
    have same : ∀ b o, (¬ ∃ p ∈ cs, p.2 = b) → s₁.heap.get? b = some o → s'.heap.get? b = some o := by
      intro b o nb e
      cases q : H b with
      | none => exact un.keep b o e q (fun z => nomatch z) (fun z => nomatch z)
      | some u =>
        rcases one q with ⟨p, hp, z, _⟩ | ⟨rfl, rfl, _⟩
        · exact absurd ⟨p, hp, z⟩ nb
        · have z := hok' b _ (un.frzs b _ _ q)
          rw [ha] at e
          cases e
          exact z.1
    refine ⟨rfl, ⟨fun b o e => ?_, fun b o e => ?_⟩, os, bare⟩
    · by_cases hb : ∃ p ∈ cs, p.2 = b
      · obtain ⟨p, hp, rfl⟩ := hb
        obtain ⟨more, hm⟩ := grown p hp
        have ht := (tabs p hp).1
        rw [ht] at e
        cases e
        exact .inr (.inl ⟨((tabs p hp).2.2.tab ht).isCodeTable, rfl, #[], more, rfl, by rw [Array.empty_append]; exact hm⟩)
      · exact .inl (same b o hb e)
    · by_cases hb : ∃ p ∈ cs, p.2 = b
      · obtain ⟨p, hp, rfl⟩ := hb
        obtain ⟨more, hm⟩ := grown p hp
        exact ⟨_, hm⟩
      · exact ⟨o, same b o hb e⟩
/-- the end of the row -/
theorem walkG {l : PySem.W.OpenLaw} {n k : Nat} {q : Program} {loose : List Str} {XP : (Str → Option Value) → Heap → Prop} {YP : World → Heap → Prop} {d : DefRec} {K : Params → PySem.W.Frag} {x : Str}
    (hn : l.most = some n) (hn2 : n ≤ sizeLine) (hdf : d.params.defaults = []) (hr : Room k callerA) (hY : ∀ (w : World) (h : Heap), YP w h → (K w.params).In h)
    (F : ∀ (w : World) (mg : Str → Option Value) (fa : Addr) (h : Heap), YP w h → (K w.params).In h → h.Ns mainGlobals mg → mg d.name = some (.ref fa) →
      ∃ (fd : FuncData) (cs : List (Addr × Addr)) (sp : Sp), (∀ p ∈ cs, h.get? p.2 = some emptyTab ∧ (K w.params).lookup p.2 = none ∧ PySem.W.CodeHd h p.1 p.2) ∧ (∀ (s : Shared) (u : Value), BindsTo s fd ⟨[u], []⟩ [(x, u)]) ∧
        (∀ (H : Hp) (a : Addr) (ns : List Int), ns.length ≤ n → (∀ p ∈ cs, H p.2 = some (.tbl #[])) → SqL (K w.params) H a (ns.map V.int) → sp [.ref a] H (fun v _ => v = .bl true) fun _ _ _ => False) ∧
        ∀ base : Heap, (K w.params).In base → base.Ns mainGlobals mg → (∀ p ∈ cs, TabB base mg p.1 p.2) → FnG l.prog w (K w.params) mg base k fa fd [x] sp) :
    PySem.W.WalkO q loose XP YP l.row.toRowW d [] (fun f vs => PySem.call f vs) := by
  refine Att.attach_callB hn hdf fun w s₀ s₁ mg mb fa o pm cd doc a vs ns G Y ho hd hcd hmg hobj hints hlen hbits hg => ?_
  have KX := hY w _ Y
  obtain ⟨fd, cs, sp, tabs, hb, hsp, hF⟩ := F w mg fa _ Y KX G.T.g hmg
  exact law_callG KX ⟨G.T.g, G.T.b, G.T.builtins, G.T.nolimit⟩ hg tabs G.T.bmain hobj hints (Nat.le_trans hlen hn2) hr hF hb fun H hH hS => hsp H a ns hlen hH hS
/-- a plain def as the top leaves it: its function object, with its code -/
structure DefAt (K : PySem.W.Frag) (x qual : Str) (st : Stmt) (f : Addr) : Prop where
  fn : ∃ oc od kV doc pm an cd ct sl, K.lookup f = some ⟨oc, od, .func (PySem.W.fnOf x qual (defArgs st) (defBody st) (defScope st) .none kV doc pm an cd ct), sl⟩ ∧ PySem.W.codeIn K cd qual = true
  keep : PySem.W.keepIn K (.ref f) = true
theorem DefAt.mk' {K : PySem.W.Frag} {f : Addr} {x qual : Str} {st : Stmt} {oc : Value} {od : Option Addr} {kV doc pm : Value} {an : Option Addr} {cd ct : Value} {sl : Array (Option Value)}
    (l : K.lookup f = some ⟨oc, od, .func (PySem.W.fnOf x qual (defArgs st) (defBody st) (defScope st) .none kV doc pm an cd ct), sl⟩) (c : PySem.W.codeIn K cd qual = true) (k : PySem.W.keepIn K (.ref f) = true) : DefAt K x qual st f :=
  ⟨⟨oc, od, kV, doc, pm, an, cd, ct, sl, l, c⟩, k⟩
theorem DefAt.fun {K : PySem.W.Frag} {x qual : Str} {st : Stmt} {f : Addr} (d : DefAt K x qual st f) : ∃ fd, Fun K x qual st f fd := by
  obtain ⟨oc, od, kV, doc, pm, an, cd, ct, sl, l, c⟩ := d.fn
  exact ⟨_, fun_mk l c d.keep⟩
/-- one whose code object is named -/
structure CodeAt (K : PySem.W.Frag) (x : Str) (st : Stmt) (f c : Addr) : Prop where
  fn : ∃ oc od kV doc pm an ct sl, K.lookup f = some ⟨oc, od, .func (PySem.W.fnOf x x (defArgs st) (defBody st) (defScope st) .none kV doc pm an (.ref c) ct), sl⟩ ∧ PySem.W.codeIn K (.ref c) x = true
  keep : PySem.W.keepIn K (.ref f) = true
theorem CodeAt.mk' {K : PySem.W.Frag} {f c : Addr} {x : Str} {st : Stmt} {oc : Value} {od : Option Addr} {kV doc pm : Value} {an : Option Addr} {ct : Value} {sl : Array (Option Value)}
    (l : K.lookup f = some ⟨oc, od, .func (PySem.W.fnOf x x (defArgs st) (defBody st) (defScope st) .none kV doc pm an (.ref c) ct), sl⟩) (e : PySem.W.codeIn K (.ref c) x = true) (k : PySem.W.keepIn K (.ref f) = true) : CodeAt K x st f c :=
  ⟨⟨oc, od, kV, doc, pm, an, ct, sl, l, e⟩, k⟩
theorem CodeAt.fun {K : PySem.W.Frag} {x : Str} {st : Stmt} {f c : Addr} (d : CodeAt K x st f c) : ∃ fd, Fun K x x st f fd ∧ FunC K x st f fd c := by
  obtain ⟨oc, od, kV, doc, pm, an, ct, sl, l, e⟩ := d.fn
  exact ⟨_, fun_mk l e d.keep, ⟨oc, od, kV, doc, pm, an, ct, sl, rfl, l, e⟩⟩
/-- an exception class right below W with a one-field __init__ -/
structure ErrAt (K : PySem.W.Frag) (W : Addr) (x qual : Str) (st : Stmt) (fld : Str) (C f1 : Addr) : Prop where
  aC : PySem.W.nsIn K mainGlobals x = some (some (.ref C))
  obj : ∃ nm q N bs sn sub ab col dd k0 k1 k2 k3 k5, K.lookup C = some (excClassObj nm q C N bs [.ref W, .type "ValueError", .type "Exception", .type "BaseException", .type "object"] true sn sub ab col dd k0 k1 k2 k3 k5 "ValueError.__new__")
  sa : PySem.W.findIn K (.ref C) "__setattr__" = some (some (.builtin "object.__setattr__"))
  ga : PySem.W.findIn K (.ref C) "__getattribute__" = some (some (.builtin "BaseException.__getattribute__"))
  gg : PySem.W.findIn K (.ref C) "__getattr__" = some none
  no : PySem.W.findIn K (.ref C) fld = some none
  a1 : PySem.W.findIn K (.ref C) "__init__" = some (some (.ref f1))
  t1 : PySem.W.typeIn K (.ref f1) = some (.type "function")
  df : DefAt K "__init__" qual st f1
  kC : PySem.W.keepIn K (.ref C) = true
  eC : PySem.W.subIn K (.ref C) (.type "BaseException") = some true
  tC : PySem.W.typeIn K (.ref C) = some (.type "type")
  hC : PySem.W.hasDictIn K C = true
  cl : PySem.W.findIn K (.ref C) "__class__" = some (some (.builtin "object.__class__"))
  mo : PySem.W.mroIn K C (.type "object") = some true
theorem obj_mk {K : PySem.W.Frag} {W C : Addr} {nm q : Str} {N : Addr} {bs : List Value} {sn : List Str} {sub : List Value} {ab : Bool} {col : Option Bool} {dd : Option Addr} {k0 k1 k2 k3 k5 : Option Value}
    (h : K.lookup C = some (excClassObj nm q C N bs [.ref W, .type "ValueError", .type "Exception", .type "BaseException", .type "object"] true sn sub ab col dd k0 k1 k2 k3 k5 "ValueError.__new__")) :
    ∃ nm q N bs sn sub ab col dd k0 k1 k2 k3 k5, K.lookup C = some (excClassObj nm q C N bs [.ref W, .type "ValueError", .type "Exception", .type "BaseException", .type "object"] true sn sub ab col dd k0 k1 k2 k3 k5 "ValueError.__new__") :=
  ⟨nm, q, N, bs, sn, sub, ab, col, dd, k0, k1, k2, k3, k5, h⟩
theorem ErrAt.oex {K : PySem.W.Frag} {W : Addr} {x qual : Str} {st : Stmt} {fld : Str} {C f1 : Addr} (e : ErrAt K W x qual st fld C f1) : OexC K C := by
  obtain ⟨nm, q, N, bs, sn, sub, ab, col, dd, k0, k1, k2, k3, k5, h⟩ := e.obj
  exact ⟨⟨nm, q, N, bs, _, sn, sub, ab, col, dd, k0, k1, k2, k3, k5, h, rfl⟩, e.sa, e.eC, e.tC, e.kC⟩
theorem ErrAt.err {P : Program} {w : World} {K : PySem.W.Frag} {mg : Str → Option Value} {base h : Heap} {W : Addr} {x qual : Str} {st : Stmt} {fld : Str} {C f1 : Addr} (e : ErrAt K W x qual st fld C f1) (X : K.In h) (G : h.Ns mainGlobals mg)
    (ok : ∀ fd, Fun K "__init__" qual st f1 fd → OexC K C → PySem.W.findIn K (.ref C) fld = some none → FnOk P w K mg base CX0 1 f1 fd ["self", fld] (spSet C [fld]))
    (bd : ∀ (kV doc pm : Value) (an : Option Addr) (cdv ct : Value) (us ws : List Value), 0 < us.length → (us ++ ws).length = 2 →
      bindArgs (PySem.W.fnOf "__init__" qual (defArgs st) (defBody st) (defScope st) .none kV doc pm an cdv ct) ⟨us, ((["self", fld] : List Str).drop us.length).zip ws⟩ = pure ((["self", fld] : List Str).zip (us ++ ws))) : Err P w K mg base x C [fld] := by
  obtain ⟨oc, od, kV, doc, pm, an, cd, ct, sl, hl, hc⟩ := e.df.fn
  have F := fun_mk (st := st) hl hc e.df.keep
  exact ⟨e.oex, ⟨e.ga, e.gg, e.eC, e.hC⟩, PySem.W.mg_of X G e.aC, fun f hf => by rw [List.mem_singleton.mp hf]; exact e.no, ⟨f1, _, e.a1, e.t1, ok _ F e.oex e.no, fun s us ws h1 h2 => .of_eq (bd _ _ _ _ _ _ us ws h1 h2)⟩⟩
theorem ErrAt.exc {K : PySem.W.Frag} {W : Addr} {x qual : Str} {st : Stmt} {fld : Str} {C f1 : Addr} (e : ErrAt K W x qual st fld C f1) (hn : PySem.W.specialIn K (.builtin "object.__class__") "__get__" = some (some (.builtin "getset_descriptor.__get__"))) (ht : PySem.W.takesIn K (.builtin "object.__class__") = some true) : ExcC K C :=
  ⟨e.ga, e.gg, e.eC, e.hC, e.cl, hn, ht, e.mo⟩
theorem ErrAt.xf {K : PySem.W.Frag} {W : Addr} {x qual : Str} {st : Stmt} {fld : Str} {C f1 : Addr} (e : ErrAt K W x qual st fld C f1) : XfC K C := ⟨e.ga, e.gg, e.eC, e.hC⟩
/-- a class of the program -/
structure ClsLeft (K : PySem.W.Frag) (x : Str) (C fI : Addr) (fld : Str) : Prop where
  aC : PySem.W.nsIn K mainGlobals x = some (some (.ref C))
  pg : PySem.W.plainGet K C Str.empty = true
  hd : PySem.W.hasDictIn K C = true
  po : PySem.W.plainOver K C = true
  sa : PySem.W.findIn K (.ref C) "__setattr__" = some (some (.builtin "object.__setattr__"))
  cl : PySem.W.findIn K (.ref C) "__class__" = some (some (.builtin "object.__class__"))
  mo : PySem.W.mroIn K C (.type "object") = some true
  me : PySem.W.kitOne K (.ref C) (.ref C) = some true
  k1 : PySem.W.kitOne K (.type "NoneType") (.ref C) = some false
  k2 : PySem.W.kitOne K (.type "bool") (.ref C) = some false
  k3 : PySem.W.kitOne K (.type "int") (.ref C) = some false
  k4 : PySem.W.kitOne K (.type "str") (.ref C) = some false
  k5 : PySem.W.kitOne K (.type "dict") (.ref C) = some false
  k6 : PySem.W.kitOne K (.type "list") (.ref C) = some false
  k7 : PySem.W.kitOne K (.type "tuple") (.ref C) = some false
  mks : PySem.W.makesIn K C = true
  it : PySem.W.findIn K (.ref C) "__init__" = some (some (.ref fI))
  fn : PySem.W.isFn K (.ref fI) = true
  kp : PySem.W.keepIn K (.ref C) = true
  no : PySem.W.findIn K (.ref C) fld = some none
theorem ClsLeft.cls {K : PySem.W.Frag} {x : Str} {C fI : Addr} {fld : Str} (e : ClsLeft K x C fI fld) : Cls K C := ⟨e.pg, e.hd, e.po, e.sa⟩
theorem ClsLeft.ins {K : PySem.W.Frag} {x : Str} {C fI : Addr} {fld : Str} (e : ClsLeft K x C fI fld) (hn : PySem.W.specialIn K (.builtin "object.__class__") "__get__" = some (some (.builtin "getset_descriptor.__get__"))) (ht : PySem.W.takesIn K (.builtin "object.__class__") = some true) : Pu.InsC K C := ⟨e.cls, e.cl, hn, ht, e.mo, e.me⟩
theorem ClsLeft.kin {K : PySem.W.Frag} {x : Str} {C fI : Addr} {fld : Str} (e : ClsLeft K x C fI fld) : ∀ T ∈ kinds, PySem.W.kitOne K (.type T) (.ref C) = some false := fun T hT => by
  simp only [kinds, List.mem_cons, List.not_mem_nil, or_false] at hT
  rcases hT with z | z | z | z | z | z | z <;> subst z
  · exact e.k1
  · exact e.k2
  · exact e.k3
  · exact e.k4
  · exact e.k5
  · exact e.k6
  · exact e.k7
theorem ClsLeft.make {K : PySem.W.Frag} {x : Str} {C fI : Addr} {fld : Str} (e : ClsLeft K x C fI fld) : Mk K C fI := ⟨e.mks, e.it, e.fn, e.kp⟩
/-- a method -/
structure MethAt (K : PySem.W.Frag) (C : Addr) (m qual : Str) (st : Stmt) (f : Addr) : Prop where
  at_ : PySem.W.findIn K (.ref C) m = some (some (.ref f))
  fn : PySem.W.isFn K (.ref f) = true
  df : DefAt K m qual st f
theorem MethAt.meth {K : PySem.W.Frag} {C : Addr} {m qual : Str} {st : Stmt} {f : Addr} (e : MethAt K C m qual st f) : Meth K C m f := ⟨e.at_, e.fn, e.df.keep⟩
/-- the empty tables at ts, as a piece of the written part; what stands beside it -/
abbrev emptyAt (ts : List Addr) : PySem.W.Frag := ts.map fun a => (a, emptyTab)
theorem in_left {K T : PySem.W.Frag} {h : Heap} (X : PySem.W.Frag.In (K ++ T) h) : K.In h := fun b o e => X b o (by
  show List.lookup b (K ++ T) = some o
  rw [List.lookup_append, show List.lookup b K = some o from e]
  rfl)
/-- the head's look, with the tables beside the written part -/
abbrev hookT (K : Params → PySem.W.Frag) (as : List Addr) (e : ∀ P, as = (K P).map (·.1)) (ts : List Addr) : PySem.W.Hook := PySem.W.kHook (fun P => K P ++ emptyAt ts) (as ++ ts) fun P => by
  have q : (emptyAt ts).map (·.1) = ts := by
    simp only [emptyAt, List.map_map]
    exact List.map_id' ts
  rw [List.map_append, q, e P]
/-- the classes of plain values are none of an own class's -/
structure KitsAt (K : PySem.W.Frag) (C : Addr) : Prop where
  j1 : PySem.W.kitOne K (.ref C) (.type "NoneType") = some false
  j2 : PySem.W.kitOne K (.ref C) (.type "bool") = some false
  j3 : PySem.W.kitOne K (.ref C) (.type "int") = some false
  j4 : PySem.W.kitOne K (.ref C) (.type "str") = some false
  j5 : PySem.W.kitOne K (.ref C) (.type "dict") = some false
  j6 : PySem.W.kitOne K (.ref C) (.type "list") = some false
  j7 : PySem.W.kitOne K (.ref C) (.type "tuple") = some false
theorem KitsAt.all {K : PySem.W.Frag} {C : Addr} (e : KitsAt K C) : ∀ T ∈ kinds, PySem.W.kitOne K (.ref C) (.type T) = some false := fun T hT => by
  simp only [kinds, List.mem_cons, List.not_mem_nil, or_false] at hT
  rcases hT with z | z | z | z | z | z | z <;> subst z
  · exact e.j1
  · exact e.j2
  · exact e.j3
  · exact e.j4
  · exact e.j5
  · exact e.j6
  · exact e.j7
/-- the law's promise: the script, its tables, and True -/
def spTrue (K : PySem.W.Frag) (T : List (Addr × Str)) (n : Nat) : Sp := fun vs H Q _ => ∃ (a : Addr) (ns : List Int), vs = [.ref a] ∧ SqL K H a (ns.map V.int) ∧ ns.length ≤ n ∧ Tabs T H ∧ ∀ H', Q (.bl true) H'
theorem frz_seq {K : PySem.W.Frag} {H : Hp} {a : Addr} {xs : List V} (h : SqL K H a xs) : SqL K (frzH H) a xs := by
  rcases h with (h | ⟨o, h⟩) | h
  · exact .inl (.inl (frz_some h (fun _ z => nomatch z)))
  · exact .inl (.inr ⟨o, frz_some h (fun _ z => nomatch z)⟩)
  · exact .inr h
theorem ints_all {K : PySem.W.Frag} {H : Hp} : ∀ ns : List Int, IsAll K H (ns.map V.int) (ns.map D.int)
  | [] => .nil
  | n :: ns => .cons (.int n) (ints_all ns)
theorem law_true {P : Program} {w : World} {K : PySem.W.Frag} {mg : Str → Option Value} {base : Heap} {T : List (Addr × Str)} {k n : Nat} {f : Addr} {fd : FuncData} {x : Str} {F : List Sl → Mem → Re Sl} (G : FnXG P w K mg base T k f fd [x] F)
    (o : ∀ ns : List Int, ns.length ≤ n → F [.dat (.frl (ns.map D.int))] [] = some (.ok (.dat (.bl true)), [])) : FnG P w K mg base k f fd [x] (spTrue K T n) :=
  ⟨fun vs H Q E ⟨a, ns, e, _⟩ => by rw [e]; rfl, fun A outer s H args us vs Q E gd hr e0 hb r ⟨a, ns, e, hS, hl, hT, kk⟩ => G.ok.goes A outer s H args us vs Q E gd hr e0 hb r (by
    subst e
    refine ⟨rfl, frzH H, [], [], [.dat (.frl (ns.map D.int))], .dat (.bl true), [], ⟨rfl, List.nodup_nil, fun i o h => by simp at h, frz_sub, fun a h => absurd h (by simp), fun _ _ => frz_nt, hT⟩, .cons (.dat (.frl (frz_seq hS) (ints_all ns))) .nil, o ns hl, fun v H1 H' am' ex mo q => ?_⟩
    cases q with
    | dat q => cases q; exact kk H')⟩
/-- a def that is read in the old way, and whose promise is of no use -/
theorem FnX.void {P : Program} {w : World} {K : PySem.W.Frag} {mg : Str → Option Value} {base : Heap} {T : List (Addr × Str)} {k : Nat} {f : Addr} {fd : FuncData} {ps : List Str} {sp : Sp} (G : FnOk P w K mg base CX0 k f fd ps sp) : FnX P w K mg base T k f fd ps (fun _ _ => none) :=
  ⟨(FnOk.up G).imp fun vs H Q E ⟨_, _, _, _, _, _, _, _, _, e, _⟩ => nomatch e⟩
end Pu
namespace K58
open PySem PySem.Spec PyProof.Rows L2 Pu
open LamX (Tabs)
def top (i : Nat) : Stmt := PySem.Challenge.pw_growwebs_k58_rules_and_refusals.main.body.getD i (.Pass ⟨0, 0, 0, 0⟩)
def inClass (st : Stmt) (i : Nat) : Stmt := match st with
  | .ClassDef _ _ _ body _ _ _ _ _ _ _ => body.getD i (.Pass ⟨0, 0, 0, 0⟩)
  | _ => .Pass ⟨0, 0, 0, 0⟩
structure At (K : PySem.W.Frag) (mg : Str → Option Value) (x : Str) (f : Addr) (fd : FuncData) (ps : List Str) : Prop where
  mg : mg x = some (.ref f)
  kp : PySem.W.keepIn K (.ref f) = true
  bd : Binds K fd ps []
/-- the pen -/
abbrev kCells : Key := Sum.inr "cells"
abbrev kBegun : Key := Sum.inr "begun"
abbrev kLeft : Key := Sum.inr "left"
theorem sCB : (("cells" : Str) = "begun") = False := eq_false (by decide +kernel)
theorem sCL : (("cells" : Str) = "left") = False := eq_false (by decide +kernel)
theorem sBL : (("begun" : Str) = "left") = False := eq_false (by decide +kernel)
theorem sLB : (("left" : Str) = "begun") = False := eq_false (by decide +kernel)
def pen (ns : List Int) (a r : Int) : List (Key × D) := [(kCells, .lst (ns.map D.int)), (kBegun, .int a), (kLeft, .int r)]
theorem pv_cells {ns : List Int} {a r : Int} : valD (pen ns a r) kCells = some (.lst (ns.map D.int)) := by
  unfold valD pen; rw [List.find?_cons_of_pos (by simp)]; rfl
theorem pv_begun {ns : List Int} {a r : Int} : valD (pen ns a r) kBegun = some (.int a) := by
  unfold valD pen; rw [List.find?_cons_of_neg (by simp [sCB]), List.find?_cons_of_pos (by simp)]; rfl
theorem pv_left {ns : List Int} {a r : Int} : valD (pen ns a r) kLeft = some (.int r) := by
  unfold valD pen; rw [List.find?_cons_of_neg (by simp [sCL]), List.find?_cons_of_neg (by simp [sBL]), List.find?_cons_of_pos (by simp)]; rfl
theorem pp_begun {ns : List Int} {a r z : Int} : putD (pen ns a r) kBegun (.int z) = pen ns z r := by
  simp [putD, pen, sCB, sLB]
theorem pp_left {ns : List Int} {a r z : Int} : putD (pen ns a r) kLeft (.int z) = pen ns a z := by
  simp [putD, pen, sCL, sBL]
/-- the pen is the thing i of the store; at most n cells were begun -/
def PenAt (m : Mem) (i n : Nat) : Prop := ∃ ns a r, m[i]? = some (.dic (pen ns a r)) ∧ ns.length ≤ 63 ∧ 0 ≤ a ∧ a ≤ (n : Int)
theorem PenAt.more {m : Mem} {i n k : Nat} (h : PenAt m i n) (l : n ≤ k) : PenAt m i k := by
  obtain ⟨ns, a, r, e, h2, h3, h4⟩ := h
  exact ⟨ns, a, r, e, h2, h3, by omega⟩
/-- the store is the same but for the pen -/
def PenBut (i : Nat) (m m' : Mem) : Prop := ∃ o, m' = m.set i o ∧ okMO 0 o = true
theorem PenBut.trans {i : Nat} {m m' m2 : Mem} (h : PenBut i m m') (h2 : PenBut i m' m2) : PenBut i m m2 := by
  obtain ⟨o, rfl, _⟩ := h
  obtain ⟨o2, rfl, c⟩ := h2
  exact ⟨o2, List.set_set .., c⟩
theorem PenBut.len {i : Nat} {m m' : Mem} (h : PenBut i m m') : m'.length = m.length := by
  obtain ⟨o, rfl, _⟩ := h
  exact List.length_set
theorem PenBut.tr {i : Nat} {m m' : Mem} (h : PenBut i m m') (x : Except Er Sl) : trim m.length x m' = some (x, m') := by
  unfold trim
  rw [if_pos h.len]
theorem f2_ok {o : D → D → Option D} {d e c : D} {m : Mem} (h : o d e = some c) : f2 o (.dat d) (.dat e) m = some (.ok (.dat c), m) := by
  unfold f2 vw
  simp only [h, liftO]
theorem ev_op {o : D → D → Option D} {f g : Rho → Mem → Re Sl} {ρ : Rho} {m m1 m2 : Mem} {d e c : D} (hf : f ρ m = some (.ok (.dat d), m1)) (hg : g ρ m1 = some (.ok (.dat e), m2)) (ho : o d e = some c) : bindD f (fun s => bindD g fun t _ m => f2 o s t m) ρ m = some (.ok (.dat c), m2) := by
  rw [ev_bind hf, ev_bind hg]
  exact f2_ok ho
theorem ev_set {i : Nat} {f : Rho → Mem → Re Sl} {ρ : Rho} {m m2 : Mem} {s : Sl} (h : f ρ m = some (.ok s, m2)) : fSet i f ρ m = some (.nx (ρ.set i (some s)), m2) := by
  unfold fSet
  rw [h]
  rfl
theorem int_run {gg : Rho → Mem → RS} {n : Nat} {ss : List Sl} {m : Mem} {G : Int → Mem → Prop} (h : WS (gg (ss.map some ++ List.replicate (n - ss.length) none) m) fun o m' => ∃ d : Int, o = .rt (.dat (.int d)) ∧ m'.length = m.length ∧ G d m') : ∃ d m', runF gg n ss m = some (.ok (.dat (.int d)), m') ∧ G d m' := by
  obtain ⟨o, m', e, d, rfl, hl, g⟩ := h
  refine ⟨d, m', ?_, g⟩
  unfold runF
  rw [e]
  show trim _ _ _ = _
  unfold trim
  rw [if_pos hl]
section
variable {P : Program} {w : World} {K : PySem.W.Frag} {mg : Str → Option Value} {base : Heap} {T : List (Addr × Str)} {L : List Addr}
abbrev psPS : List Str := ["_law_pen", "_law_span"]
abbrev sDraw : Stmt := top 19
theorem scDraw : FnScope ["_law_pen", "_law_span", "_law_digit", "_law_at", "_law_cell", "_law_n"] psPS (defScope sDraw) := ⟨rfl, rfl, rfl, by decide +kernel, rfl, by decide +kernel, by decide +kernel⟩
theorem log_lt {L : Int} (h0 : 0 < L) (h : L ≤ 1000000) : L.natAbs.log2 < 9000 := by
  refine Nat.lt_of_lt_of_le (PySem.Flt.log2_lt_of (show 0 < 20 by decide) ?_) (by decide)
  have e : (2 : Nat) ^ 20 = 1048576 := by decide
  rw [e]
  omega
theorem two_sz : (2 ≤ sizeLine) = True := eq_true (by decide)
theorem pen_sz {ns : List Int} {a r : Int} : ((pen ns a r).length < sizeLine) = True := eq_true (by show 3 < sizeLine; decide)
theorem p18 : oPow (.int 10) (.int 18) = some (.int (10 ^ 18)) := oPow_eq (by decide) (by decide) (by decide)
theorem neq_nil {ns : List Int} : oNeA (.lst (ns.map D.int)) (.lst []) = some (.bl (!ns.isEmpty)) := by
  have f : (ns.map D.int).all flatD = true := by
    induction ns with
    | nil => rfl
    | cons x r ih => exact ih
  show (match (if _ ∧ _ then _ else _ : Option D) with | some c => some c | none => _) = _
  rw [if_pos ⟨f, rfl⟩]
  cases ns <;> rfl
theorem neq_nil0 : oNeA (.lst []) (.lst []) = some (.bl false) := neq_nil (ns := [])
theorem oAbs_int {i : Int} : oAbs [.int i] = some (.int (if i < 0 then -i else i)) := rfl
theorem small_mul {i j : Int} (hi : i.natAbs < 2 ^ 64) (hj : j.natAbs < 2 ^ 64) : oMulI (.int i) (.int j) = some (.int (i * j)) := oMulI_eq (mulX_of (a := 64) (b := 64) hi hj (by decide))
def DrawOk (F : List Sl → Mem → Re Sl) : Prop := ∀ (m : Mem) (i n : Nat) (L : Int), PenAt m i n → n ≤ 1000000 → 0 < L → L ≤ 1000000 → ∃ (d : Int) (m' : Mem), F [.opq i, .dat (.int L)] m = some (.ok (.dat (.int d)), m') ∧ 0 ≤ d ∧ d < L ∧ PenAt m' i (n + 1) ∧ PenBut i m m'
theorem fx_draw {f : Addr} {fd : FuncData} (F : Fun K "_law_draw" "_law_draw" sDraw f fd) (z_int : mg "int" = none) (z_len : mg "len" = none) (z_abs : mg "abs" = none) : ∃ F, FnX P w K mg base T 1 f fd psPS F ∧ DrawOk F := by
  have nd := scDraw.nd
  have q := FnX.of (P := P) (w := w) (mg := mg) (base := base) (T := T) (k := 0) F scDraw (fun cdv A outer s H E hr => (pssx_cons (psx_if (ptx_cmp op_gt od_C (px_get (hu_of hr) (px_v 0) px_str) px_int (nomark _))
(pssx_cons (psx_set (i := 2) nd rfl (Or.inl rfl) (px_op op_mod od_mod (px_callTy call_int1 cd_int rfl z_int (by decide +kernel) (pax_cons (px_get (hu_of hr) (px_v 0) px_str) pax_nil)) (px_v 1)))
(pssx_cons (psx_dput (hu_of hr) (px_v 0) px_str (px_op op_fdivW od_div (px_get (hu_of hr) (px_v 0) px_str) (px_v 1)))
(pssx_one (psx_ret (px_v 2)))))
pssx_nil)
(pssx_cons (psx_set (i := 3) nd rfl (Or.inl rfl) (px_get (hu_of hr) (px_v 0) px_str))
(pssx_cons (psx_dput (hu_of hr) (px_v 0) px_str (px_op op_addU od_add (px_v 3) px_int))
(pssx_cons (psx_set (i := 4) nd rfl (Or.inl rfl) (px_op op_addU od_add (px_op op_mulX od_mulI px_int (px_v 3)) px_int))
(pssx_cons (psx_if (ptx_cmp (op_neA hr.units) od_neA (px_get (hu_of hr) (px_v 0) px_str) (px_lst pax_nil) (nomark _))
(pssx_one (psx_set (i := 4) nd rfl (Or.inl rfl) (px_ix (px_get (hu_of hr) (px_v 0) px_str) (px_op op_mod od_mod (px_callTy call_int1 cd_int rfl z_int (by decide +kernel) (pax_cons (px_v 3) pax_nil)) (px_callB call_lenU cd_len rfl z_len (by decide +kernel) (pax_cons (px_get (hu_of hr) (px_v 0) px_str) pax_nil))))))
pssx_nil)
(pssx_cons (psx_if (PWX.pt (pwx_and (ptx_cmp op_lt od_C (px_v 3) (px_callB call_lenU cd_len rfl z_len (by decide +kernel) (pax_cons (px_get (hu_of hr) (px_v 0) px_str) pax_nil)) (nomark _)) (pwx_and1 (ptx_cmp op_ge od_C (px_callB call_abs cd_abs rfl z_abs (by decide +kernel) (pax_cons (px_v 4) pax_nil)) (px_op op_pow od_pow px_int px_int) (nomark _)))))
(pssx_cons (psx_dput (hu_of hr) (px_v 0) px_str (px_op op_fdivW od_div (px_op op_sub od_sub (px_callB call_abs cd_abs rfl z_abs (by decide +kernel) (pax_cons (px_v 4) pax_nil)) (px_op op_pow od_pow px_int px_int)) (px_v 1)))
(pssx_one (psx_ret (px_op op_mod od_mod (px_callTy call_int1 cd_int rfl z_int (by decide +kernel) (pax_cons (px_op op_sub od_sub (px_callB call_abs cd_abs rfl z_abs (by decide +kernel) (pax_cons (px_v 4) pax_nil)) (px_op op_pow od_pow px_int px_int)) pax_nil)) (px_v 1)))))
pssx_nil)
(pssx_cons (psx_set (i := 5) nd rfl (Or.inl rfl) (px_op op_addU od_add (px_op op_mulX od_mulI (px_op op_mod od_mod (px_callTy call_int1 cd_int rfl z_int (by decide +kernel) (pax_cons (px_v 4) pax_nil)) px_int) px_int) (px_op op_mulX od_mulI (px_op op_mulX od_mulI px_int (px_v 3)) (px_v 3))))
(pssx_cons (psx_set (i := 5) nd rfl (Or.inl rfl) (px_op op_mod od_mod (px_callTy call_int1 cd_int rfl z_int (by decide +kernel) (pax_cons (px_op op_addU od_add (px_op op_addU od_add (px_v 5) (px_op op_mulX od_mulI px_int (px_v 3))) px_int) pax_nil)) px_int))
(pssx_cons (psx_set (i := 5) nd rfl (Or.inl rfl) (px_op op_mod od_mod (px_callTy call_int1 cd_int rfl z_int (by decide +kernel) (pax_cons (px_op op_addU od_add (px_op op_addU od_add (px_op op_addU od_add (px_op op_mulX od_mulI (px_v 5) (px_v 5)) (px_op op_mulX od_mulI px_int (px_v 5))) (px_op op_mulX od_mulI px_int (px_v 3))) px_int) pax_nil)) px_int))
(pssx_cons (psx_set (i := 5) nd rfl (Or.inl rfl) (px_op op_mod od_mod (px_callTy call_int1 cd_int rfl z_int (by decide +kernel) (pax_cons (px_op op_addU od_add (px_op op_addU od_add (px_op op_mulX od_mulI (px_v 5) (px_v 5)) (px_op op_mulX od_mulI px_int (px_v 5))) (px_v 3)) pax_nil)) px_int))
(pssx_one (psx_ret (px_op op_mod od_mod (px_callTy call_int1 cd_int rfl z_int (by decide +kernel) (pax_cons (px_op op_fdivW od_div (px_op op_mod od_mod (px_callTy call_int1 cd_int rfl z_int (by decide +kernel) (pax_cons (px_op op_mulX od_mulI (px_v 5) (px_op op_addU od_add (px_v 5) px_int)) pax_nil)) px_int) px_int) pax_nil)) (px_v 1)))))))))))))))
  refine ⟨_, q, ?_⟩
  clear q
  intro m i n L hp hn l0 l9
  obtain ⟨ns, a, r, e, h2, h3, h4⟩ := hp
  have hl : i < m.length := (List.getElem?_eq_some_iff.mp e).1
  have sd : ∀ o, (m.set i o)[i]? = some o := fun o => List.getElem?_set_self hl
  have l9' : L.natAbs.log2 < 9000 := log_lt l0 l9
  have tr : ∀ (x : Except Er Sl) (o : MO), trim m.length x (m.set i o) = some (x, m.set i o) := fun x o => by unfold trim; rw [if_pos List.length_set]
  have fin : ∀ (a r z : Int), 0 ≤ a → a ≤ ((n + 1 : Nat) : Int) → 0 ≤ z % L ∧ z % L < L ∧ PenAt (m.set i (.dic (pen ns a r))) i (n + 1) ∧ PenBut i m (m.set i (.dic (pen ns a r))) := fun a r z a0 a9 =>
    ⟨Int.emod_nonneg _ (by omega), Int.emod_lt_of_pos _ l0, ⟨ns, a, _, sd _, h2, a0, a9⟩, ⟨_, rfl, rfl⟩⟩
  refine int_run ?_
  simp only [List.map_cons, List.map_nil, List.length_cons, List.length_nil, Nat.reduceAdd, Nat.reduceSub, List.replicate, List.cons_append, List.nil_append]
  refine ws_seq (ws_if (wr_eq (y := decide (0 < r)) (m2 := m) (by simp only [fNext, fSeq, fIfS, fPar, parG, fAsg, fAsgM, fSet, fPut, oPut, fRet, fAnd, fB, bindD, bindR, bindS, fCons, retD, fV, f2, f1, fN, fD, vw, vwAll, liftO, allD, gmT, gmCons, gmN, gmSub, gmNil, oGet_str, dkey, oC_int, oInt_int, oAdd_int, oSub_int, oLen_lst, oIx_lst, oTup, List.map_cons, List.map_nil, List.length_cons, List.length_nil, List.cons_append, List.nil_append, List.append_nil, List.getElem?_cons_zero, List.getElem?_cons_succ, List.replicate, List.set_cons_zero, List.set_cons_succ, List.set_set, if_true, if_false, Bool.false_eq_true, Option.map_some, Option.map_none, Nat.sub_zero, Nat.reduceSub, Nat.reduceAdd, and_true, true_and, e, pv_left]) ?_))
  by_cases hr : 0 < r
  · rw [decide_eq_true hr]
    simp only [fNext, fSeq, fIfS, fPar, parG, fAsg, fAsgM, fSet, fPut, oPut, fRet, fAnd, fB, bindD, bindR, bindS, fCons, retD, fV, f2, f1, fN, fD, vw, vwAll, liftO, allD, gmT, gmCons, gmN, gmSub, gmNil, oGet_str, dkey, oC_int, oInt_int, oAdd_int, oSub_int, oLen_lst, oIx_lst, oTup, List.map_cons, List.map_nil, List.length_cons, List.length_nil, List.cons_append, List.nil_append, List.append_nil, List.getElem?_cons_zero, List.getElem?_cons_succ, List.replicate, List.set_cons_zero, List.set_cons_succ, List.set_set, if_true, if_false, Bool.false_eq_true, Option.map_some, Option.map_none, Nat.sub_zero, Nat.reduceSub, Nat.reduceAdd, and_true, true_and, e, pv_left, oMod_eq l0, oDiv_eq l0 l9', pp_left, sd, pen_sz]
    exact ⟨_, _, rfl, _, rfl, List.length_set, fin a _ _ h3 (by omega)⟩
  rw [decide_eq_false hr, if_neg Bool.false_ne_true]
  refine ws_next (sq_nx ?_)
  obtain ⟨c, hcell⟩ : ∃ c : Int, (ns = [] ∧ 71 * a + 37 = c) ∨ (ns ≠ [] ∧ ∃ j : Nat, a % (ns.length : Int) = (j : Int) ∧ L2.atI (ns.map D.int) (j : Int) = some (.int c)) := by
    cases ns with
    | nil => exact ⟨_, .inl ⟨rfl, rfl⟩⟩
    | cons y ys =>
      have hlen : (0 : Int) < ((y :: ys).length : Int) := by simp only [List.length_cons]; omega
      have j0 := Int.emod_nonneg a (show ((y :: ys).length : Int) ≠ 0 by omega)
      have j9 := Int.emod_lt_of_pos a hlen
      obtain ⟨j, hj⟩ : ∃ j : Nat, a % ((y :: ys).length : Int) = (j : Int) := ⟨_, (Int.toNat_of_nonneg j0).symm⟩
      have hjl : j < (y :: ys).length := by omega
      exact ⟨(y :: ys)[j], .inr ⟨by simp, j, hj, L2.atI_nat (by rw [List.getElem?_map, List.getElem?_eq_getElem hjl]; rfl)⟩⟩
  have ol : oLst [] = some (.lst []) := rfl
  have tw : a + 1 ≤ ((n + 1 : Nat) : Int) := by omega
  obtain ⟨x, hx⟩ : ∃ x, x = c % 4294966769 := ⟨_, rfl⟩
  have x0 : 0 ≤ x := hx ▸ Int.emod_nonneg _ (by decide)
  have x9 : x < 4294966769 := hx ▸ Int.emod_lt_of_pos _ (by decide)
  obtain ⟨n2, hn2⟩ : ∃ z, z = (x * 41897 + 30011 * a * a + 587 * a + 17) % 4294966703 := ⟨_, rfl⟩
  have b0 : 0 ≤ n2 := hn2 ▸ Int.emod_nonneg _ (by decide)
  have b9 : n2 < 4294966703 := hn2 ▸ Int.emod_lt_of_pos _ (by decide)
  obtain ⟨n3, hn3⟩ : ∃ z, z = (n2 * n2 + 47711 * n2 + 61 * a + 5) % 4294966661 := ⟨_, rfl⟩
  have c0 : 0 ≤ n3 := hn3 ▸ Int.emod_nonneg _ (by decide)
  have c9 : n3 < 4294966661 := hn3 ▸ Int.emod_lt_of_pos _ (by decide)
  obtain ⟨n4, hn4⟩ : ∃ z, z = (n3 * n3 + 29101 * n3 + a) % 4294966639 := ⟨_, rfl⟩
  have d0 : 0 ≤ n4 := hn4 ▸ Int.emod_nonneg _ (by decide)
  have d9 : n4 < 4294966639 := hn4 ▸ Int.emod_lt_of_pos _ (by decide)
  have q1 : oMulI (.int x) (.int 41897) = some (.int (x * 41897)) := small_mul (by omega) (by decide)
  have q2 : oMulI (.int 30011) (.int a) = some (.int (30011 * a)) := small_mul (by decide) (by omega)
  have q3 : oMulI (.int (30011 * a)) (.int a) = some (.int (30011 * a * a)) := small_mul (by omega) (by omega)
  have q4 : oMulI (.int 587) (.int a) = some (.int (587 * a)) := small_mul (by decide) (by omega)
  have q5 : oMulI (.int n2) (.int n2) = some (.int (n2 * n2)) := small_mul (by omega) (by omega)
  have q6 : oMulI (.int 47711) (.int n2) = some (.int (47711 * n2)) := small_mul (by decide) (by omega)
  have q7 : oMulI (.int 61) (.int a) = some (.int (61 * a)) := small_mul (by decide) (by omega)
  have q8 : oMulI (.int n3) (.int n3) = some (.int (n3 * n3)) := small_mul (by omega) (by omega)
  have q9 : oMulI (.int 29101) (.int n3) = some (.int (29101 * n3)) := small_mul (by decide) (by omega)
  have qa : oMulI (.int n4) (.int (n4 + 50261)) = some (.int (n4 * (n4 + 50261))) := small_mul (by omega) (by omega)
  have o1 : oMod (.int c) (.int 4294966769) = some (.int x) := by rw [hx]; exact oMod_eq (by decide)
  have o2 : oMod (.int (x * 41897 + 30011 * a * a + 587 * a + 17)) (.int 4294966703) = some (.int n2) := by rw [hn2]; exact oMod_eq (by decide)
  have o3 : oMod (.int (n2 * n2 + 47711 * n2 + 61 * a + 5)) (.int 4294966661) = some (.int n3) := by rw [hn3]; exact oMod_eq (by decide)
  have o4 : oMod (.int (n3 * n3 + 29101 * n3 + a)) (.int 4294966639) = some (.int n4) := by rw [hn4]; exact oMod_eq (by decide)
  have o5 : oMod (.int (n4 * (n4 + 50261))) (.int 4294966589) = some (.int (n4 * (n4 + 50261) % 4294966589)) := oMod_eq (by decide)
  have o6 : oDiv (.int (n4 * (n4 + 50261) % 4294966589)) (.int 64) = some (.int (n4 * (n4 + 50261) % 4294966589 / 64)) := oDiv_eq (by decide) (by decide +kernel)
  have m1 : oMulI (.int 71) (.int a) = some (.int (71 * a)) := small_mul (by decide) (by omega)
  obtain ⟨mm, hmm⟩ : ∃ mm, mm = m.set i (.dic (pen ns (a + 1) r)) := ⟨_, rfl⟩
  have em : mm[i]? = some (.dic (pen ns (a + 1) r)) := by rw [hmm]; exact sd _
  refine ws_seqN (ρ2 := [some (.opq i), some (.dat (.int L)), none, some (.dat (.int a)), none, none]) (m2 := m) (by simp only [fNext, fSeq, fIfS, fPar, parG, fAsg, fAsgM, fSet, fPut, oPut, fRet, fAnd, fB, bindD, bindR, bindS, fCons, retD, fV, f2, f1, fN, fD, vw, vwAll, liftO, allD, gmT, gmCons, gmN, gmSub, gmNil, oGet_str, dkey, oC_int, oInt_int, oAdd_int, oSub_int, oLen_lst, oIx_lst, oTup, List.map_cons, List.map_nil, List.length_cons, List.length_nil, List.cons_append, List.nil_append, List.append_nil, List.getElem?_cons_zero, List.getElem?_cons_succ, List.replicate, List.set_cons_zero, List.set_cons_succ, List.set_set, if_true, if_false, Bool.false_eq_true, Option.map_some, Option.map_none, Nat.sub_zero, Nat.reduceSub, Nat.reduceAdd, and_true, true_and, e, pv_begun]) ?_
  refine ws_seqN (ρ2 := [some (.opq i), some (.dat (.int L)), none, some (.dat (.int a)), none, none]) (m2 := mm) (by simp only [fNext, fSeq, fIfS, fPar, parG, fAsg, fAsgM, fSet, fPut, oPut, fRet, fAnd, fB, bindD, bindR, bindS, fCons, retD, fV, f2, f1, fN, fD, vw, vwAll, liftO, allD, gmT, gmCons, gmN, gmSub, gmNil, oGet_str, dkey, oC_int, oInt_int, oAdd_int, oSub_int, oLen_lst, oIx_lst, oTup, List.map_cons, List.map_nil, List.length_cons, List.length_nil, List.cons_append, List.nil_append, List.append_nil, List.getElem?_cons_zero, List.getElem?_cons_succ, List.replicate, List.set_cons_zero, List.set_cons_succ, List.set_set, if_true, if_false, Bool.false_eq_true, Option.map_some, Option.map_none, Nat.sub_zero, Nat.reduceSub, Nat.reduceAdd, and_true, true_and, e, pp_begun, pen_sz, hmm]) ?_
  refine ws_seqN (ρ2 := [some (.opq i), some (.dat (.int L)), none, some (.dat (.int a)), some (.dat (.int (71 * a + 37))), none]) (m2 := mm) (by simp only [fNext, fSeq, fIfS, fPar, parG, fAsg, fAsgM, fSet, fPut, oPut, fRet, fAnd, fB, bindD, bindR, bindS, fCons, retD, fV, f2, f1, fN, fD, vw, vwAll, liftO, allD, gmT, gmCons, gmN, gmSub, gmNil, oGet_str, dkey, oC_int, oInt_int, oAdd_int, oSub_int, oLen_lst, oIx_lst, oTup, List.map_cons, List.map_nil, List.length_cons, List.length_nil, List.cons_append, List.nil_append, List.append_nil, List.getElem?_cons_zero, List.getElem?_cons_succ, List.replicate, List.set_cons_zero, List.set_cons_succ, List.set_set, if_true, if_false, Bool.false_eq_true, Option.map_some, Option.map_none, Nat.sub_zero, Nat.reduceSub, Nat.reduceAdd, and_true, true_and, m1]) ?_
  refine ws_seqN (ρ2 := [some (.opq i), some (.dat (.int L)), none, some (.dat (.int a)), some (.dat (.int c)), none]) (m2 := mm) ?_ ?_
  · rcases hcell with ⟨hne, hc⟩ | ⟨hne, j, hj, hc⟩
    · subst hne
      simp only [fNext, fSeq, fIfS, fPar, parG, fAsg, fAsgM, fSet, fPut, oPut, fRet, fAnd, fB, bindD, bindR, bindS, fCons, retD, fV, f2, f1, fN, fD, vw, vwAll, liftO, allD, gmT, gmCons, gmN, gmSub, gmNil, oGet_str, dkey, oC_int, oInt_int, oAdd_int, oSub_int, oLen_lst, oIx_lst, oTup, List.map_cons, List.map_nil, List.length_cons, List.length_nil, List.cons_append, List.nil_append, List.append_nil, List.getElem?_cons_zero, List.getElem?_cons_succ, List.replicate, List.set_cons_zero, List.set_cons_succ, List.set_set, if_true, if_false, Bool.false_eq_true, Option.map_some, Option.map_none, Nat.sub_zero, Nat.reduceSub, Nat.reduceAdd, and_true, true_and, em, pv_cells, neq_nil0, ol, hc]
    · have he : ns.isEmpty = false := by cases ns; exact absurd rfl hne; rfl
      have hp0 : (0 : Int) < (ns.length : Int) := by
        cases ns with
        | nil => exact absurd rfl hne
        | cons y ys => simp only [List.length_cons]; omega
      simp only [fNext, fSeq, fIfS, fPar, parG, fAsg, fAsgM, fSet, fPut, oPut, fRet, fAnd, fB, bindD, bindR, bindS, fCons, retD, fV, f2, f1, fN, fD, vw, vwAll, liftO, allD, gmT, gmCons, gmN, gmSub, gmNil, oGet_str, dkey, oC_int, oInt_int, oAdd_int, oSub_int, oLen_lst, oIx_lst, oTup, List.map_cons, List.map_nil, List.length_cons, List.length_nil, List.cons_append, List.nil_append, List.append_nil, List.getElem?_cons_zero, List.getElem?_cons_succ, List.replicate, List.set_cons_zero, List.set_cons_succ, List.set_set, if_true, if_false, Bool.false_eq_true, Option.map_some, Option.map_none, Nat.sub_zero, Nat.reduceSub, Nat.reduceAdd, and_true, true_and, em, pv_cells, neq_nil, ol, he, Bool.not_false, List.length_map, oMod_eq hp0, hj, hc]
  clear hcell
  obtain ⟨bb, hbb⟩ : ∃ bb, bb = (decide (a < (ns.length : Int)) && decide ((10 : Int) ^ 18 ≤ (if c < 0 then -c else c))) := ⟨_, rfl⟩
  refine ws_seq (ws_if (wr_eq (y := bb) (m2 := mm) ?_ ?_))
  · rw [hbb]
    simp only [fNext, fSeq, fIfS, fPar, parG, fAsg, fAsgM, fSet, fPut, oPut, fRet, fAnd, fB, bindD, bindR, bindS, fCons, retD, fV, f2, f1, fN, fD, vw, vwAll, liftO, allD, gmT, gmCons, gmN, gmSub, gmNil, oGet_str, dkey, oC_int, oInt_int, oAdd_int, oSub_int, oLen_lst, oIx_lst, oTup, List.map_cons, List.map_nil, List.length_cons, List.length_nil, List.cons_append, List.nil_append, List.append_nil, List.getElem?_cons_zero, List.getElem?_cons_succ, List.replicate, List.set_cons_zero, List.set_cons_succ, List.set_set, if_true, if_false, Bool.false_eq_true, Option.map_some, Option.map_none, Nat.sub_zero, Nat.reduceSub, Nat.reduceAdd, and_true, true_and, em, pv_cells, List.length_map]
    by_cases hg2 : a < (ns.length : Int)
    · simp only [fNext, fSeq, fIfS, fPar, parG, fAsg, fAsgM, fSet, fPut, oPut, fRet, fAnd, fB, bindD, bindR, bindS, fCons, retD, fV, f2, f1, fN, fD, vw, vwAll, liftO, allD, gmT, gmCons, gmN, gmSub, gmNil, oGet_str, dkey, oC_int, oInt_int, oAdd_int, oSub_int, oLen_lst, oIx_lst, oTup, List.map_cons, List.map_nil, List.length_cons, List.length_nil, List.cons_append, List.nil_append, List.append_nil, List.getElem?_cons_zero, List.getElem?_cons_succ, List.replicate, List.set_cons_zero, List.set_cons_succ, List.set_set, if_true, if_false, Bool.false_eq_true, Option.map_some, Option.map_none, Nat.sub_zero, Nat.reduceSub, Nat.reduceAdd, and_true, true_and, decide_eq_true hg2, p18, oAbs_int, Bool.true_and]
    · simp only [fNext, fSeq, fIfS, fPar, parG, fAsg, fAsgM, fSet, fPut, oPut, fRet, fAnd, fB, bindD, bindR, bindS, fCons, retD, fV, f2, f1, fN, fD, vw, vwAll, liftO, allD, gmT, gmCons, gmN, gmSub, gmNil, oGet_str, dkey, oC_int, oInt_int, oAdd_int, oSub_int, oLen_lst, oIx_lst, oTup, List.map_cons, List.map_nil, List.length_cons, List.length_nil, List.cons_append, List.nil_append, List.append_nil, List.getElem?_cons_zero, List.getElem?_cons_succ, List.replicate, List.set_cons_zero, List.set_cons_succ, List.set_set, if_true, if_false, Bool.false_eq_true, Option.map_some, Option.map_none, Nat.sub_zero, Nat.reduceSub, Nat.reduceAdd, and_true, true_and, decide_eq_false hg2, Bool.false_and]
  clear hbb
  cases bb with
  | true =>
    rw [if_pos rfl]
    simp only [fNext, fSeq, fIfS, fPar, parG, fAsg, fAsgM, fSet, fPut, oPut, fRet, fAnd, fB, bindD, bindR, bindS, fCons, retD, fV, f2, f1, fN, fD, vw, vwAll, liftO, allD, gmT, gmCons, gmN, gmSub, gmNil, oGet_str, dkey, oC_int, oInt_int, oAdd_int, oSub_int, oLen_lst, oIx_lst, oTup, List.map_cons, List.map_nil, List.length_cons, List.length_nil, List.cons_append, List.nil_append, List.append_nil, List.getElem?_cons_zero, List.getElem?_cons_succ, List.replicate, List.set_cons_zero, List.set_cons_succ, List.set_set, if_true, if_false, Bool.false_eq_true, Option.map_some, Option.map_none, Nat.sub_zero, Nat.reduceSub, Nat.reduceAdd, and_true, true_and, em, p18, oAbs_int, oDiv_eq l0 l9', oMod_eq l0, pen_sz, pp_left, hmm, sd]
    exact ⟨_, _, rfl, _, rfl, List.length_set, fin _ _ _ (by omega) tw⟩
  | false =>
  rw [if_neg Bool.false_ne_true]
  refine ws_next (sq_nx ?_)
  refine ws_seqN (ρ2 := [some (.opq i), some (.dat (.int L)), none, some (.dat (.int a)), some (.dat (.int c)), some (.dat (.int (x * 41897 + 30011 * a * a)))]) (m2 := mm) (ev_set (ev_op (ev_op (d := .int x) (by simp only [fNext, fSeq, fIfS, fPar, parG, fAsg, fAsgM, fSet, fPut, oPut, fRet, fAnd, fB, bindD, bindR, bindS, fCons, retD, fV, f2, f1, fN, fD, vw, vwAll, liftO, allD, gmT, gmCons, gmN, gmSub, gmNil, oGet_str, dkey, oC_int, oInt_int, oAdd_int, oSub_int, oLen_lst, oIx_lst, oTup, List.map_cons, List.map_nil, List.length_cons, List.length_nil, List.cons_append, List.nil_append, List.append_nil, List.getElem?_cons_zero, List.getElem?_cons_succ, List.replicate, List.set_cons_zero, List.set_cons_succ, List.set_set, if_true, if_false, Bool.false_eq_true, Option.map_some, Option.map_none, Nat.sub_zero, Nat.reduceSub, Nat.reduceAdd, and_true, true_and, o1]) rfl q1) (ev_op (ev_op rfl rfl q2) rfl q3) rfl)) ?_
  refine ws_seqN (ρ2 := [some (.opq i), some (.dat (.int L)), none, some (.dat (.int a)), some (.dat (.int c)), some (.dat (.int n2))]) (m2 := mm) (by simp only [fNext, fSeq, fIfS, fPar, parG, fAsg, fAsgM, fSet, fPut, oPut, fRet, fAnd, fB, bindD, bindR, bindS, fCons, retD, fV, f2, f1, fN, fD, vw, vwAll, liftO, allD, gmT, gmCons, gmN, gmSub, gmNil, oGet_str, dkey, oC_int, oInt_int, oAdd_int, oSub_int, oLen_lst, oIx_lst, oTup, List.map_cons, List.map_nil, List.length_cons, List.length_nil, List.cons_append, List.nil_append, List.append_nil, List.getElem?_cons_zero, List.getElem?_cons_succ, List.replicate, List.set_cons_zero, List.set_cons_succ, List.set_set, if_true, if_false, Bool.false_eq_true, Option.map_some, Option.map_none, Nat.sub_zero, Nat.reduceSub, Nat.reduceAdd, and_true, true_and, q4, o2]) ?_
  refine ws_seqN (ρ2 := [some (.opq i), some (.dat (.int L)), none, some (.dat (.int a)), some (.dat (.int c)), some (.dat (.int n3))]) (m2 := mm) (by simp only [fNext, fSeq, fIfS, fPar, parG, fAsg, fAsgM, fSet, fPut, oPut, fRet, fAnd, fB, bindD, bindR, bindS, fCons, retD, fV, f2, f1, fN, fD, vw, vwAll, liftO, allD, gmT, gmCons, gmN, gmSub, gmNil, oGet_str, dkey, oC_int, oInt_int, oAdd_int, oSub_int, oLen_lst, oIx_lst, oTup, List.map_cons, List.map_nil, List.length_cons, List.length_nil, List.cons_append, List.nil_append, List.append_nil, List.getElem?_cons_zero, List.getElem?_cons_succ, List.replicate, List.set_cons_zero, List.set_cons_succ, List.set_set, if_true, if_false, Bool.false_eq_true, Option.map_some, Option.map_none, Nat.sub_zero, Nat.reduceSub, Nat.reduceAdd, and_true, true_and, q5, q6, q7, o3]) ?_
  refine ws_seqN (ρ2 := [some (.opq i), some (.dat (.int L)), none, some (.dat (.int a)), some (.dat (.int c)), some (.dat (.int n4))]) (m2 := mm) (by simp only [fNext, fSeq, fIfS, fPar, parG, fAsg, fAsgM, fSet, fPut, oPut, fRet, fAnd, fB, bindD, bindR, bindS, fCons, retD, fV, f2, f1, fN, fD, vw, vwAll, liftO, allD, gmT, gmCons, gmN, gmSub, gmNil, oGet_str, dkey, oC_int, oInt_int, oAdd_int, oSub_int, oLen_lst, oIx_lst, oTup, List.map_cons, List.map_nil, List.length_cons, List.length_nil, List.cons_append, List.nil_append, List.append_nil, List.getElem?_cons_zero, List.getElem?_cons_succ, List.replicate, List.set_cons_zero, List.set_cons_succ, List.set_set, if_true, if_false, Bool.false_eq_true, Option.map_some, Option.map_none, Nat.sub_zero, Nat.reduceSub, Nat.reduceAdd, and_true, true_and, q8, q9, o4]) ?_
  refine ws_ret (wr_eq (y := .dat (.int (n4 * (n4 + 50261) % 4294966589 / 64 % L))) (m2 := mm) (by simp only [fNext, fSeq, fIfS, fPar, parG, fAsg, fAsgM, fSet, fPut, oPut, fRet, fAnd, fB, bindD, bindR, bindS, fCons, retD, fV, f2, f1, fN, fD, vw, vwAll, liftO, allD, gmT, gmCons, gmN, gmSub, gmNil, oGet_str, dkey, oC_int, oInt_int, oAdd_int, oSub_int, oLen_lst, oIx_lst, oTup, List.map_cons, List.map_nil, List.length_cons, List.length_nil, List.cons_append, List.nil_append, List.append_nil, List.getElem?_cons_zero, List.getElem?_cons_succ, List.replicate, List.set_cons_zero, List.set_cons_succ, List.set_set, if_true, if_false, Bool.false_eq_true, Option.map_some, Option.map_none, Nat.sub_zero, Nat.reduceSub, Nat.reduceAdd, and_true, true_and, qa, o5, o6, oMod_eq l0]) ?_)
  rw [hmm]
  exact ⟨_, rfl, List.length_set, fin _ _ _ (by omega) tw⟩
end
end K58
namespace K58
open PySem PySem.Spec PyProof.Rows L2 Pu SeK
open LamX (Tabs)
abbrev alph : Str := "abcdefghijklmnopqrstuvwxyz"
def ofC (cs : List Nat) : Str := ⟨cs.toArray⟩
theorem sgns_ofC (cs : List Nat) : sgns (ofC cs) = cs.map fun c => ofC [c] := by
  unfold sgns ofC
  simp only [List.toList_toArray]
theorem str_ofC (z : Str) : z = ofC z.cps.toList := by
  obtain ⟨a⟩ := z
  unfold ofC
  simp
theorem inT_one (c : Nat) (x : Str) : inT (ofC [c]) x = decide (c ∈ x.cps.toList) := PySem.StrLaws.found_one x c
def isSeqD : D → Bool
  | .lst _ => true | .tup _ => true | _ => false
def tgd (L : List Addr) (d : D) : Prop := (tag L d).isSome = true
theorem isi_seq {L : List Addr} {d : D} (h : (tag L d).isSome = true) : oIsi L [d, .tup [.ty "list", .ty "tuple"]] = some (.bl (isSeqD d)) := by
  cases d with
  | ins C gs =>
    have hc : C ∈ L := Classical.byContradiction fun n => by
      have z : (tag L (.ins C gs)) = none := if_neg n
      rw [z] at h; cases h
    have e : tag L (.ins C gs) = some (.inr C) := if_pos hc
    simp only [oIsi, e]
    rfl
  | ty n => cases h
  | fn a => cases h
  | frl xs => cases h
  | _ => rfl
def isStrD : D → Bool
  | .str _ => true | _ => false
theorem isi_str {L : List Addr} {d : D} (h : (tag L d).isSome = true) : oIsi L [d, .ty "str"] = some (.bl (isStrD d)) := by
  cases d with
  | ins C gs =>
    have hc : C ∈ L := Classical.byContradiction fun n => by
      have z : (tag L (.ins C gs)) = none := if_neg n
      rw [z] at h; cases h
    have e : tag L (.ins C gs) = some (.inr C) := if_pos hc
    simp only [oIsi, e]
    rfl
  | ty n => cases h
  | fn a => cases h
  | frl xs => cases h
  | _ => rfl
def isDicD : D → Bool
  | .dic _ => true | _ => false
theorem isi_dic {L : List Addr} {d : D} (h : (tag L d).isSome = true) : oIsi L [d, .ty "dict"] = some (.bl (isDicD d)) := by
  cases d with
  | ins C gs =>
    have hc : C ∈ L := Classical.byContradiction fun n => by
      have z : (tag L (.ins C gs)) = none := if_neg n
      rw [z] at h; cases h
    have e : tag L (.ins C gs) = some (.inr C) := if_pos hc
    simp only [oIsi, e]
    rfl
  | ty n => cases h
  | fn a => cases h
  | frl xs => cases h
  | _ => rfl
section
variable {P : Program} {w : World} {K : PySem.W.Frag} {mg : Str → Option Value} {base : Heap} {T : List (Addr × Str)} {L : List Addr}
abbrev sIsList : Stmt := top 2
abbrev sIsLetter : Stmt := top 8
abbrev sColours : Stmt := top 11
abbrev sSome : Stmt := top 12
abbrev sLetters : Stmt := top 13
abbrev sAscending : Stmt := top 14
abbrev sBeside : Stmt := top 15
theorem scIsList : FnScope ["value"] ["value"] (defScope sIsList) := ⟨rfl, rfl, rfl, by decide +kernel, rfl, by decide +kernel, by decide +kernel⟩
theorem scIsLetter : FnScope ["value"] ["value"] (defScope sIsLetter) := ⟨rfl, rfl, rfl, by decide +kernel, rfl, by decide +kernel, by decide +kernel⟩
theorem scColours : FnScope ["value", "sign"] ["value"] (defScope sColours) := ⟨rfl, rfl, rfl, by decide +kernel, rfl, by decide +kernel, by decide +kernel⟩
theorem scSome : FnScope ["value", "colours", "sign"] ["value", "colours"] (defScope sSome) := ⟨rfl, rfl, rfl, by decide +kernel, rfl, by decide +kernel, by decide +kernel⟩
theorem scLetters : FnScope ["value", "colours", "letter"] ["value", "colours"] (defScope sLetters) := ⟨rfl, rfl, rfl, by decide +kernel, rfl, by decide +kernel, by decide +kernel⟩
theorem scAscending : FnScope ["signs"] ["signs"] (defScope sAscending) := ⟨rfl, rfl, rfl, by decide +kernel, rfl, by decide +kernel, by decide +kernel⟩
theorem scBeside : FnScope ["beside", "colours", "pair"] ["beside", "colours"] (defScope sBeside) := ⟨rfl, rfl, rfl, by decide +kernel, rfl, by decide +kernel, by decide +kernel⟩
/-- is_list, of anything that can be seen -/
def IsListOk (L : List Addr) (F : List Sl → Mem → Re Sl) : Prop := ∀ m s d, vw m s = some d → (tag L d).isSome = true → F [s] m = some (.ok (.dat (.bl (isSeqD d))), m)
theorem fx_isList {f : Addr} {fd : FuncData} (OW : Own K L) (F : Fun K "is_list" "is_list" sIsList f fd) (z_isinstance : mg "isinstance" = none) (z_list : mg "list" = none) (z_tuple : mg "tuple" = none) : ∃ F, FnX P w K mg base T 1 f fd ["value"] F ∧ IsListOk L F := by
  have nd := scIsList.nd
  refine ⟨_, FnX.of (P := P) (w := w) (mg := mg) (base := base) (T := T) (k := 0) F scIsList (fun cdv A outer s H E hr => (pssx_one (psx_ret (px_callB call_isiU (cd_isi OW) rfl z_isinstance (by decide +kernel) (pax_cons (px_v 0) (pax_cons (px_tup (pax_cons (px_ty (n := "list") rfl z_list (by decide +kernel)) (pax_cons (px_ty (n := "tuple") rfl z_tuple (by decide +kernel)) pax_nil))) pax_nil)))))), ?_⟩
  intro m s d hv ht
  unfold runF
  simp only [fNext, fSeq, fIfS, fPar, parG, fAsg, fAsgM, fSet, fPut, oPut, fRet, fAnd, fB, bindD, bindR, bindS, fCons, retD, fV, fN, fD, vwAll, liftO, allD, gmT, gmCons, gmN, gmSub, gmNil, oGet_str, dkey, oC_int, oInt_int, oAdd_int, oSub_int, oLen_lst, oIx_lst, oTup, List.map_cons, List.map_nil, List.length_cons, List.length_nil, List.cons_append, List.nil_append, List.append_nil, List.getElem?_cons_zero, List.getElem?_cons_succ, List.replicate, List.set_cons_zero, List.set_cons_succ, List.set_set, if_true, if_false, Bool.false_eq_true, Option.map_some, Option.map_none, Nat.sub_zero, Nat.reduceSub, Nat.reduceAdd, and_true, true_and, vw_dat, fAndV, fOrV, fBV, fNot, fOr, fIf, fCall, fDo, hv, isi_seq ht, two_sz, trim_same]
def letterB : D → Bool
  | .str z => decide (z.length = 1) && (decide (z = ".") || inT z alph)
  | _ => false
def smallD : D → Bool
  | .str z => decide (z.length < sizeLine)
  | _ => true
def oLetter (L : List Addr) : List D → Option (Except Er D)
  | [d] => if (tag L d).isSome = true ∧ smallD d = true then some (.ok (.bl (letterB d))) else none
  | _ => none
theorem oLen_str {z : Str} (h : z.length ≤ sizeLine) : oLen [.str z] = some (.int z.length) := by
  show (if _ then _ else _ : Option D) = _
  rw [if_pos h]
theorem neg_len (z : Str) : decide ((z.length : Int) = 1) = decide (z.length = 1) := by
  by_cases h : z.length = 1
  · rw [decide_eq_true h, decide_eq_true (by omega)]
  · rw [decide_eq_false h, decide_eq_false (by omega)]
theorem eqA_int {i j : Int} : oEqA (.int i) (.int j) = some (.bl (decide (i = j))) := by
  have e : (i == j) = decide (i = j) := by by_cases h : i = j <;> simp [h]
  have z : PyData.eqv (.int i) (.int j) = decide (i = j) := by rw [← e]; simp [PyData.eqv]
  show oEq false (.int i) (.int j) = _
  simp only [oEq, toPy]
  rw [if_pos ⟨rfl, rfl⟩, z]
  rfl
theorem neA_int {i j : Int} : oNeA (.int i) (.int j) = some (.bl (!decide (i = j))) := by
  have e : (i == j) = decide (i = j) := by by_cases h : i = j <;> simp [h]
  have z : PyData.eqv (.int i) (.int j) = decide (i = j) := by rw [← e]; simp [PyData.eqv]
  show oEq true (.int i) (.int j) = _
  simp only [oEq, toPy]
  rw [if_pos ⟨rfl, rfl⟩, z]
  rfl
theorem oInT_str {n : Bool} {a b : Str} : oInT n (.str a) (.str b) = some (.bl (if n then !inT a b else inT a b)) := rfl
theorem pure1 {k : Nat} {f : Addr} {fd : FuncData} {ps : List Str} {F : List Sl → Mem → Re Sl} {o : List D → Option (Except Er D)} (h : FnX P w K mg base T k f fd ps F)
    (h1 : ∀ ds m x, o ds = some x → F (ds.map Sl.dat) m = some (Except.map Sl.dat x, m)) : FnX P w K mg base T k f fd ps (pureF o) :=
  h.pure (fun ds m d e => h1 ds m _ e) (fun ds m d e => h1 ds m _ e)
theorem fx_isLetter {f : Addr} {fd : FuncData} {tA tN : Tok} (OW : Own K L) (F : Fun K "is_letter" "is_letter" sIsLetter f fd) (z_isinstance : mg "isinstance" = none) (z_len : mg "len" = none) (z_str : mg "str" = none) (mA : mg "ALPHABET" = some (.str "abcdefghijklmnopqrstuvwxyz" tA)) (mN : mg "NO_LETTER" = some (.str "." tN)) :
    FnX P w K mg base T 1 f fd ["value"] (pureF (oLetter L)) := by
  have nd := scIsLetter.nd
  have q := FnX.of (P := P) (w := w) (mg := mg) (base := base) (T := T) (k := 0) F scIsLetter (fun cdv A outer s H E hr => (pssx_one (psx_ret (px_and (px_callB call_isiU (cd_isi OW) rfl z_isinstance (by decide +kernel) (pax_cons (px_v 0) (pax_cons (px_ty (n := "str") rfl z_str (by decide +kernel)) pax_nil))) (px_and (px_cmp (op_eqA hr.units) od_eqA (px_callB call_lenU cd_len rfl z_len (by decide +kernel) (pax_cons (px_v 0) pax_nil)) px_int (nomark _)) (px_one (px_or (px_cmp (op_eqA hr.units) od_eqA (px_v 0) (px_glob (v := .str ".") rfl mN ⟨_, rfl⟩ (fun _ => .str _)) (nomark _)) (px_one (px_cmp op_in_str od_inT (px_v 0) (px_glob (v := .str "abcdefghijklmnopqrstuvwxyz") rfl mA ⟨_, rfl⟩ (fun _ => .str _)) (by rfl))))))))))
  refine pure1 q (fun ds m x h => ?_)
  unfold oLetter at h
  split at h
  · rename_i d
    split at h
    · rename_i hc
      cases h
      clear q
      unfold runF
      simp only [fNext, fSeq, fIfS, fPar, parG, fAsg, fAsgM, fSet, fPut, oPut, fRet, fAnd, fB, bindD, bindR, bindS, fCons, retD, fV, f2, f1, fN, fD, vw, vwAll, liftO, allD, gmT, gmCons, gmN, gmSub, gmNil, oGet_str, dkey, oC_int, oInt_int, oAdd_int, oSub_int, oLen_lst, oIx_lst, oTup, List.map_cons, List.map_nil, List.length_cons, List.length_nil, List.cons_append, List.nil_append, List.append_nil, List.getElem?_cons_zero, List.getElem?_cons_succ, List.replicate, List.set_cons_zero, List.set_cons_succ, List.set_set, if_true, if_false, Bool.false_eq_true, Option.map_some, Option.map_none, Nat.sub_zero, Nat.reduceSub, Nat.reduceAdd, and_true, true_and, fAndV, fOrV, isi_str hc.1]
      cases d with
      | str z =>
        have hz : z.length ≤ sizeLine := by have h2 := of_decide_eq_true (show decide (z.length < sizeLine) = true from hc.2); omega
        simp only [fNext, fSeq, fIfS, fPar, parG, fAsg, fAsgM, fSet, fPut, oPut, fRet, fAnd, fB, bindD, bindR, bindS, fCons, retD, fV, f2, f1, fN, fD, vw, vwAll, liftO, allD, gmT, gmCons, gmN, gmSub, gmNil, oGet_str, dkey, oC_int, oInt_int, oAdd_int, oSub_int, oLen_lst, oIx_lst, oTup, List.map_cons, List.map_nil, List.length_cons, List.length_nil, List.cons_append, List.nil_append, List.append_nil, List.getElem?_cons_zero, List.getElem?_cons_succ, List.replicate, List.set_cons_zero, List.set_cons_succ, List.set_set, if_true, if_false, Bool.false_eq_true, Option.map_some, Option.map_none, Nat.sub_zero, Nat.reduceSub, Nat.reduceAdd, and_true, true_and, fAndV, fOrV, isStrD, oLen_str hz, eqA_int, neg_len, letterB]
        cases decide (z.length = 1) with
        | false => simp only [fNext, fSeq, fIfS, fPar, parG, fAsg, fAsgM, fSet, fPut, oPut, fRet, fAnd, fB, bindD, bindR, bindS, fCons, retD, fV, f2, f1, fN, fD, vw, vwAll, liftO, allD, gmT, gmCons, gmN, gmSub, gmNil, oGet_str, dkey, oC_int, oInt_int, oAdd_int, oSub_int, oLen_lst, oIx_lst, oTup, List.map_cons, List.map_nil, List.length_cons, List.length_nil, List.cons_append, List.nil_append, List.append_nil, List.getElem?_cons_zero, List.getElem?_cons_succ, List.replicate, List.set_cons_zero, List.set_cons_succ, List.set_set, if_true, if_false, Bool.false_eq_true, Option.map_some, Option.map_none, Nat.sub_zero, Nat.reduceSub, Nat.reduceAdd, and_true, true_and, Bool.false_and, trim_same, Except.map]
        | true =>
          simp only [fNext, fSeq, fIfS, fPar, parG, fAsg, fAsgM, fSet, fPut, oPut, fRet, fAnd, fB, bindD, bindR, bindS, fCons, retD, fV, f2, f1, fN, fD, vw, vwAll, liftO, allD, gmT, gmCons, gmN, gmSub, gmNil, oGet_str, dkey, oC_int, oInt_int, oAdd_int, oSub_int, oLen_lst, oIx_lst, oTup, List.map_cons, List.map_nil, List.length_cons, List.length_nil, List.cons_append, List.nil_append, List.append_nil, List.getElem?_cons_zero, List.getElem?_cons_succ, List.replicate, List.set_cons_zero, List.set_cons_succ, List.set_set, if_true, if_false, Bool.false_eq_true, Option.map_some, Option.map_none, Nat.sub_zero, Nat.reduceSub, Nat.reduceAdd, and_true, true_and, fOrV, oEqA_str, Bool.true_and]
          cases decide (z = ".") with
          | true => simp only [fNext, fSeq, fIfS, fPar, parG, fAsg, fAsgM, fSet, fPut, oPut, fRet, fAnd, fB, bindD, bindR, bindS, fCons, retD, fV, f2, f1, fN, fD, vw, vwAll, liftO, allD, gmT, gmCons, gmN, gmSub, gmNil, oGet_str, dkey, oC_int, oInt_int, oAdd_int, oSub_int, oLen_lst, oIx_lst, oTup, List.map_cons, List.map_nil, List.length_cons, List.length_nil, List.cons_append, List.nil_append, List.append_nil, List.getElem?_cons_zero, List.getElem?_cons_succ, List.replicate, List.set_cons_zero, List.set_cons_succ, List.set_set, if_true, if_false, Bool.false_eq_true, Option.map_some, Option.map_none, Nat.sub_zero, Nat.reduceSub, Nat.reduceAdd, and_true, true_and, Bool.true_or, trim_same, Except.map]
          | false => simp only [fNext, fSeq, fIfS, fPar, parG, fAsg, fAsgM, fSet, fPut, oPut, fRet, fAnd, fB, bindD, bindR, bindS, fCons, retD, fV, f2, f1, fN, fD, vw, vwAll, liftO, allD, gmT, gmCons, gmN, gmSub, gmNil, oGet_str, dkey, oC_int, oInt_int, oAdd_int, oSub_int, oLen_lst, oIx_lst, oTup, List.map_cons, List.map_nil, List.length_cons, List.length_nil, List.cons_append, List.nil_append, List.append_nil, List.getElem?_cons_zero, List.getElem?_cons_succ, List.replicate, List.set_cons_zero, List.set_cons_succ, List.set_set, if_true, if_false, Bool.false_eq_true, Option.map_some, Option.map_none, Nat.sub_zero, Nat.reduceSub, Nat.reduceAdd, and_true, true_and, Bool.false_or, oInT_str, trim_same, Except.map]
      | _ => simp only [fNext, fSeq, fIfS, fPar, parG, fAsg, fAsgM, fSet, fPut, oPut, fRet, fAnd, fB, bindD, bindR, bindS, fCons, retD, fV, f2, f1, fN, fD, vw, vwAll, liftO, allD, gmT, gmCons, gmN, gmSub, gmNil, oGet_str, dkey, oC_int, oInt_int, oAdd_int, oSub_int, oLen_lst, oIx_lst, oTup, List.map_cons, List.map_nil, List.length_cons, List.length_nil, List.cons_append, List.nil_append, List.append_nil, List.getElem?_cons_zero, List.getElem?_cons_succ, List.replicate, List.set_cons_zero, List.set_cons_succ, List.set_set, if_true, if_false, Bool.false_eq_true, Option.map_some, Option.map_none, Nat.sub_zero, Nat.reduceSub, Nat.reduceAdd, and_true, true_and, isStrD, letterB, trim_same, Except.map]
    · cases h
  · cases h
/-- are_some_of -/
def someB (h : Str) : D → Bool
  | .str z => (sgns z).all fun s => inT s h
  | _ => false
def oSome (L : List Addr) : List D → Option (Except Er D)
  | [d, .str h] => if (tag L d).isSome = true ∧ smallD d = true then some (.ok (.bl (someB h d))) else none
  | _ => none
def inB (h : Str) : D → Bool
  | .str s => inT s h
  | _ => false
theorem itA_str {z : Str} : itA (.str z) = some ((sgns z).map D.str) := by
  show some _ = some _
  congr 1
  unfold sgns
  rw [List.map_map]
  rfl
theorem sgns_len (z : Str) : (sgns z).length = z.length := by
  unfold sgns
  rw [List.length_map, Array.length_toList]
  rfl
theorem fx_some {f : Addr} {fd : FuncData} (OW : Own K L) (F : Fun K "are_some_of" "are_some_of" sSome f fd) (z_isinstance : mg "isinstance" = none) (z_all : mg "all" = none) (z_str : mg "str" = none) : FnX P w K mg base T 1 f fd ["value", "colours"] (pureF (oSome L)) := by
  have nd := scSome.nd
  have q := FnX.of (P := P) (w := w) (mg := mg) (base := base) (T := T) (k := 0) F scSome (fun cdv A outer s H E hr => (pssx_one (psx_ret (px_and (px_callB call_isiU (cd_isi OW) rfl z_isinstance (by decide +kernel) (pax_cons (px_v 0) (pax_cons (px_ty (n := "str") rfl z_str (by decide +kernel)) pax_nil))) (px_one (px_callB (cr_all rfl) cd_all rfl z_all (by decide +kernel) (pax_cons (px_lc (own := [("sign", 2)]) rfl nd (pix_any (px_v 0)) (blkOk_by (N := ["value", "colours", "sign"]) (sc := (defScope sSome)) (by decide +kernel)) (fun _ _ _ _ _ => (pgx_name (i := 2) nd rfl (Or.inl rfl))) (by decide) (fun _ _ _ _ _ => ptsx_nil) (fun _ _ _ _ _ => (px_cmp op_in_str od_inT (px_v 2) (px_v 1) (by rfl)))) pax_nil)))))))
  refine pure1 q (fun ds m x h => ?_)
  unfold oSome at h
  split at h
  · rename_i d hh
    split at h
    · rename_i hc
      cases h
      clear q
      unfold runF
      simp only [fNext, fSeq, fIfS, fPar, parG, fAsg, fAsgM, fSet, fPut, oPut, fRet, fAnd, fB, bindD, bindR, bindS, fCons, retD, fV, f2, f1, fN, fD, vw, vwAll, liftO, allD, gmT, gmCons, gmN, gmSub, gmNil, oGet_str, dkey, oC_int, oInt_int, oAdd_int, oSub_int, oLen_lst, oIx_lst, oTup, List.map_cons, List.map_nil, List.length_cons, List.length_nil, List.cons_append, List.nil_append, List.append_nil, List.getElem?_cons_zero, List.getElem?_cons_succ, List.replicate, List.set_cons_zero, List.set_cons_succ, List.set_set, if_true, if_false, Bool.false_eq_true, Option.map_some, Option.map_none, Nat.sub_zero, Nat.reduceSub, Nat.reduceAdd, and_true, true_and, fAndV, isi_str hc.1]
      cases d with
      | str z =>
        have hz : z.length < sizeLine := of_decide_eq_true (show decide (z.length < sizeLine) = true from hc.2)
        simp only [fNext, fSeq, fIfS, fPar, parG, fAsg, fAsgM, fSet, fPut, oPut, fRet, fAnd, fB, bindD, bindR, bindS, fCons, retD, fV, f2, f1, fN, fD, vw, vwAll, liftO, allD, gmT, gmCons, gmN, gmSub, gmNil, oGet_str, dkey, oC_int, oInt_int, oAdd_int, oSub_int, oLen_lst, oIx_lst, oTup, List.map_cons, List.map_nil, List.length_cons, List.length_nil, List.cons_append, List.nil_append, List.append_nil, List.getElem?_cons_zero, List.getElem?_cons_succ, List.replicate, List.set_cons_zero, List.set_cons_succ, List.set_set, if_true, if_false, Bool.false_eq_true, Option.map_some, Option.map_none, Nat.sub_zero, Nat.reduceSub, Nat.reduceAdd, and_true, true_and, isStrD, fLcE, fIterA, itA_str]
        rw [ev_lcD (fun x => .bl (inB hh x)) (by rw [List.length_map, sgns_len]; exact hz)]
        · simp only [fNext, fSeq, fIfS, fPar, parG, fAsg, fAsgM, fSet, fPut, oPut, fRet, fAnd, fB, bindD, bindR, bindS, fCons, retD, fV, f2, f1, fN, fD, vw, vwAll, liftO, allD, gmT, gmCons, gmN, gmSub, gmNil, oGet_str, dkey, oC_int, oInt_int, oAdd_int, oSub_int, oLen_lst, oIx_lst, oTup, List.map_cons, List.map_nil, List.length_cons, List.length_nil, List.cons_append, List.nil_append, List.append_nil, List.getElem?_cons_zero, List.getElem?_cons_succ, List.replicate, List.set_cons_zero, List.set_cons_succ, List.set_set, if_true, if_false, Bool.false_eq_true, Option.map_some, Option.map_none, Nat.sub_zero, Nat.reduceSub, Nat.reduceAdd, and_true, true_and, oAll_map, trim_same, Except.map, someB, List.all_map]
          rfl
        · intro x hx
          obtain ⟨s, _, rfl⟩ := List.mem_map.mp hx
          refine ⟨_, rfl, rfl, ?_⟩
          simp only [fNext, fSeq, fIfS, fPar, parG, fAsg, fAsgM, fSet, fPut, oPut, fRet, fAnd, fB, bindD, bindR, bindS, fCons, retD, fV, f2, f1, fN, fD, vw, vwAll, liftO, allD, gmT, gmCons, gmN, gmSub, gmNil, oGet_str, dkey, oC_int, oInt_int, oAdd_int, oSub_int, oLen_lst, oIx_lst, oTup, List.map_cons, List.map_nil, List.length_cons, List.length_nil, List.cons_append, List.nil_append, List.append_nil, List.getElem?_cons_zero, List.getElem?_cons_succ, List.replicate, List.set_cons_zero, List.set_cons_succ, List.set_set, if_true, if_false, Bool.false_eq_true, Option.map_some, Option.map_none, Nat.sub_zero, Nat.reduceSub, Nat.reduceAdd, and_true, true_and, wipeR, gN, oInT_str, inB]
      | _ => simp only [fNext, fSeq, fIfS, fPar, parG, fAsg, fAsgM, fSet, fPut, oPut, fRet, fAnd, fB, bindD, bindR, bindS, fCons, retD, fV, f2, f1, fN, fD, vw, vwAll, liftO, allD, gmT, gmCons, gmN, gmSub, gmNil, oGet_str, dkey, oC_int, oInt_int, oAdd_int, oSub_int, oLen_lst, oIx_lst, oTup, List.map_cons, List.map_nil, List.length_cons, List.length_nil, List.cons_append, List.nil_append, List.append_nil, List.getElem?_cons_zero, List.getElem?_cons_succ, List.replicate, List.set_cons_zero, List.set_cons_succ, List.set_set, if_true, if_false, Bool.false_eq_true, Option.map_some, Option.map_none, Nat.sub_zero, Nat.reduceSub, Nat.reduceAdd, and_true, true_and, isStrD, someB, trim_same, Except.map]
    · cases h
  · cases h
/-- ascending -/
def ascT (z : Str) : Str := Txt.join "" (srt (onceS (sgns z)))
end
end K58
namespace K58
open PySem PySem.Spec PyProof.Rows L2 Pu SeK
open LamX (Tabs)
theorem val_run {gg : Rho → Mem → RS} {n : Nat} {ss : List Sl} {m : Mem} {v : Sl} (h : WS (gg (ss.map some ++ List.replicate (n - ss.length) none) m) fun o m' => o = .rt v ∧ m' = m) : runF gg n ss m = some (.ok v, m) := by
  obtain ⟨o, m', e, rfl, rfl⟩ := h
  unfold runF
  rw [e]
  exact trim_same
section
variable {P : Program} {w : World} {K : PySem.W.Frag} {mg : Str → Option Value} {base : Heap} {T : List (Addr × Str)} {L : List Addr}
/-- are_colours -/
def coloursB : D → Bool
  | .str z => decide (1 ≤ z.length) && decide (z.length ≤ 4) && ((sgns z).all (fun s => inT s alph) && decide ((onceS (sgns z)).length = z.length))
  | _ => false
def oColours (L : List Addr) : List D → Option (Except Er D)
  | [d] => if (tag L d).isSome = true ∧ smallD d = true then some (.ok (.bl (coloursB d))) else none
  | _ => none
theorem lenSet_str {z : Str} (h : z.length + 1 < scanBound) : oLenSet [.str z] = some (.int ((onceS (sgns z)).length)) := by
  have hl : (inSet (.str z)) = some ((sgns z).map Sum.inr) := rfl
  show (match inSet (.str z) with | some ks => if ks.length + 1 < scanBound then some (D.int (onceK ks).length) else none | none => none) = _
  rw [hl]
  dsimp only
  rw [if_pos (by rw [List.length_map, sgns_len]; exact h), once_inr, List.length_map]
theorem fx_colours {f : Addr} {fd : FuncData} {tA tM : Tok} (OW : Own K L) (F : Fun K "are_colours" "are_colours" sColours f fd) (z_isinstance : mg "isinstance" = none) (z_len : mg "len" = none) (z_all : mg "all" = none) (z_set : mg "set" = none) (z_str : mg "str" = none)
    (mA : mg "ALPHABET" = some (.str "abcdefghijklmnopqrstuvwxyz" tA)) (mM : mg "MOST_COLOURS" = some (.int 4 tM)) : FnX P w K mg base T 1 f fd ["value"] (pureF (oColours L)) := by
  have nd := scColours.nd
  have q := FnX.of (P := P) (w := w) (mg := mg) (base := base) (T := T) (k := 0) F scColours (fun cdv A outer s H E hr => (pssx_cons (psx_if (PWX.pt (pwx_or (ptx_not (ptx_val (px_callB call_isiU (cd_isi OW) rfl z_isinstance (by decide +kernel) (pax_cons (px_v 0) (pax_cons (px_ty (n := "str") rfl z_str (by decide +kernel)) pax_nil))))) (pwx_or1 (ptx_not (ptx_chain op_le od_C op_le od_C px_int (px_callB call_lenU cd_len rfl z_len (by decide +kernel) (pax_cons (px_v 0) pax_nil)) (px_glob (v := .int 4) rfl mM ⟨_, rfl⟩ (fun _ => .int _)))))))
(pssx_one (psx_ret px_bl))
pssx_nil)
(pssx_one (psx_ret (px_and (px_callB (cr_all rfl) cd_all rfl z_all (by decide +kernel) (pax_cons (px_lc (own := [("sign", 1)]) rfl nd (pix_any (px_v 0)) (blkOk_by (N := ["value", "sign"]) (sc := (defScope sColours)) (by decide +kernel)) (fun _ _ _ _ _ => (pgx_name (i := 1) nd rfl (Or.inl rfl))) (by decide) (fun _ _ _ _ _ => ptsx_nil) (fun _ _ _ _ _ => (px_cmp op_in_str od_inT (px_v 1) (px_glob (v := .str "abcdefghijklmnopqrstuvwxyz") rfl mA ⟨_, rfl⟩ (fun _ => .str _)) (by rfl)))) pax_nil)) (px_one (px_cmp (op_eqA hr.units) od_eqA (px_callBT (cr_setK rfl) cr_lenK cd_lenSet rfl z_len (by decide +kernel) rfl z_set (by decide +kernel) (pax_cons (px_v 0) pax_nil)) (px_callB call_lenU cd_len rfl z_len (by decide +kernel) (pax_cons (px_v 0) pax_nil)) (nomark _))))))))
  refine pure1 q (fun ds m x h => ?_)
  unfold oColours at h
  split at h
  · rename_i d
    split at h
    · rename_i hc
      cases h
      clear q
      unfold runF
      simp only [fNext, fSeq, fIfS, fPar, parG, fAsg, fAsgM, fSet, fPut, oPut, fRet, fAnd, fB, bindD, bindR, bindS, fCons, retD, fV, f2, f1, fN, fD, vw, vwAll, liftO, allD, gmT, gmCons, gmN, gmSub, gmNil, oGet_str, dkey, oC_int, oInt_int, oAdd_int, oSub_int, oLen_lst, oIx_lst, oTup, List.map_cons, List.map_nil, List.length_cons, List.length_nil, List.cons_append, List.nil_append, List.append_nil, List.getElem?_cons_zero, List.getElem?_cons_succ, List.replicate, List.set_cons_zero, List.set_cons_succ, List.set_set, if_true, if_false, Bool.false_eq_true, Option.map_some, Option.map_none, Nat.sub_zero, Nat.reduceSub, Nat.reduceAdd, and_true, true_and, fOr, fNot, isi_str hc.1]
      cases d with
      | str z =>
        have hz : z.length < sizeLine := of_decide_eq_true (show decide (z.length < sizeLine) = true from hc.2)
        have e1 : decide ((1 : Int) ≤ (z.length : Int)) = decide (1 ≤ z.length) := by
          by_cases h : 1 ≤ z.length
          · rw [decide_eq_true h, decide_eq_true (by omega)]
          · rw [decide_eq_false h, decide_eq_false (by omega)]
        have e4 : decide ((z.length : Int) ≤ 4) = decide (z.length ≤ 4) := by
          by_cases h : z.length ≤ 4
          · rw [decide_eq_true h, decide_eq_true (by omega)]
          · rw [decide_eq_false h, decide_eq_false (by omega)]
        simp only [fNext, fSeq, fIfS, fPar, parG, fAsg, fAsgM, fSet, fPut, oPut, fRet, fAnd, fB, bindD, bindR, bindS, fCons, retD, fV, f2, f1, fN, fD, vw, vwAll, liftO, allD, gmT, gmCons, gmN, gmSub, gmNil, oGet_str, dkey, oC_int, oInt_int, oAdd_int, oSub_int, oLen_lst, oIx_lst, oTup, List.map_cons, List.map_nil, List.length_cons, List.length_nil, List.cons_append, List.nil_append, List.append_nil, List.getElem?_cons_zero, List.getElem?_cons_succ, List.replicate, List.set_cons_zero, List.set_cons_succ, List.set_set, if_true, if_false, Bool.false_eq_true, Option.map_some, Option.map_none, Nat.sub_zero, Nat.reduceSub, Nat.reduceAdd, and_true, true_and, fOr, fNot, isStrD, Bool.not_true, fChain, oLen_str (Nat.le_of_lt hz), e1, coloursB]
        by_cases h1 : 1 ≤ z.length
        · simp only [fNext, fSeq, fIfS, fPar, parG, fAsg, fAsgM, fSet, fPut, oPut, fRet, fAnd, fB, bindD, bindR, bindS, fCons, retD, fV, f2, f1, fN, fD, vw, vwAll, liftO, allD, gmT, gmCons, gmN, gmSub, gmNil, oGet_str, dkey, oC_int, oInt_int, oAdd_int, oSub_int, oLen_lst, oIx_lst, oTup, List.map_cons, List.map_nil, List.length_cons, List.length_nil, List.cons_append, List.nil_append, List.append_nil, List.getElem?_cons_zero, List.getElem?_cons_succ, List.replicate, List.set_cons_zero, List.set_cons_succ, List.set_set, if_true, if_false, Bool.false_eq_true, Option.map_some, Option.map_none, Nat.sub_zero, Nat.reduceSub, Nat.reduceAdd, and_true, true_and, fNot, decide_eq_true h1, e4, Bool.true_and]
          by_cases h4 : z.length ≤ 4
          · simp only [fNext, fSeq, fIfS, fPar, parG, fAsg, fAsgM, fSet, fPut, oPut, fRet, fAnd, fB, bindD, bindR, bindS, fCons, retD, fV, f2, f1, fN, fD, vw, vwAll, liftO, allD, gmT, gmCons, gmN, gmSub, gmNil, oGet_str, dkey, oC_int, oInt_int, oAdd_int, oSub_int, oLen_lst, oIx_lst, oTup, List.map_cons, List.map_nil, List.length_cons, List.length_nil, List.cons_append, List.nil_append, List.append_nil, List.getElem?_cons_zero, List.getElem?_cons_succ, List.replicate, List.set_cons_zero, List.set_cons_succ, List.set_set, if_true, if_false, Bool.false_eq_true, Option.map_some, Option.map_none, Nat.sub_zero, Nat.reduceSub, Nat.reduceAdd, and_true, true_and, fNot, decide_eq_true h4, Bool.not_true, fAndV, fLcE, fIterA, itA_str]
            rw [ev_lcD (fun x => .bl (inB alph x)) (by rw [List.length_map, sgns_len]; exact hz)]
            · simp only [fNext, fSeq, fIfS, fPar, parG, fAsg, fAsgM, fSet, fPut, oPut, fRet, fAnd, fB, bindD, bindR, bindS, fCons, retD, fV, f2, f1, fN, fD, vw, vwAll, liftO, allD, gmT, gmCons, gmN, gmSub, gmNil, oGet_str, dkey, oC_int, oInt_int, oAdd_int, oSub_int, oLen_lst, oIx_lst, oTup, List.map_cons, List.map_nil, List.length_cons, List.length_nil, List.cons_append, List.nil_append, List.append_nil, List.getElem?_cons_zero, List.getElem?_cons_succ, List.replicate, List.set_cons_zero, List.set_cons_succ, List.set_set, if_true, if_false, Bool.false_eq_true, Option.map_some, Option.map_none, Nat.sub_zero, Nat.reduceSub, Nat.reduceAdd, and_true, true_and, oAll_map, List.all_map]
              have e : ((sgns z).all (inB alph ∘ D.str)) = (sgns z).all (fun s => inT s alph) := rfl
              rw [e]
              cases (sgns z).all (fun s => inT s alph) with
              | false => simp only [fNext, fSeq, fIfS, fPar, parG, fAsg, fAsgM, fSet, fPut, oPut, fRet, fAnd, fB, bindD, bindR, bindS, fCons, retD, fV, f2, f1, fN, fD, vw, vwAll, liftO, allD, gmT, gmCons, gmN, gmSub, gmNil, oGet_str, dkey, oC_int, oInt_int, oAdd_int, oSub_int, oLen_lst, oIx_lst, oTup, List.map_cons, List.map_nil, List.length_cons, List.length_nil, List.cons_append, List.nil_append, List.append_nil, List.getElem?_cons_zero, List.getElem?_cons_succ, List.replicate, List.set_cons_zero, List.set_cons_succ, List.set_set, if_true, if_false, Bool.false_eq_true, Option.map_some, Option.map_none, Nat.sub_zero, Nat.reduceSub, Nat.reduceAdd, and_true, true_and, trim_same, Except.map, Bool.false_and, Bool.true_and]
              | true =>
                have hs : z.length + 1 < scanBound := by unfold scanBound; omega
                have e5 : decide (((onceS (sgns z)).length : Int) = (z.length : Int)) = decide ((onceS (sgns z)).length = z.length) := by
                  by_cases h : (onceS (sgns z)).length = z.length
                  · rw [decide_eq_true h, decide_eq_true (by omega)]
                  · rw [decide_eq_false h, decide_eq_false (by omega)]
                simp only [fNext, fSeq, fIfS, fPar, parG, fAsg, fAsgM, fSet, fPut, oPut, fRet, fAnd, fB, bindD, bindR, bindS, fCons, retD, fV, f2, f1, fN, fD, vw, vwAll, liftO, allD, gmT, gmCons, gmN, gmSub, gmNil, oGet_str, dkey, oC_int, oInt_int, oAdd_int, oSub_int, oLen_lst, oIx_lst, oTup, List.map_cons, List.map_nil, List.length_cons, List.length_nil, List.cons_append, List.nil_append, List.append_nil, List.getElem?_cons_zero, List.getElem?_cons_succ, List.replicate, List.set_cons_zero, List.set_cons_succ, List.set_set, if_true, if_false, Bool.false_eq_true, Option.map_some, Option.map_none, Nat.sub_zero, Nat.reduceSub, Nat.reduceAdd, and_true, true_and, lenSet_str hs, oLen_str (Nat.le_of_lt hz), eqA_int, e5, trim_same, Except.map, Bool.true_and]
            · intro x hx
              obtain ⟨s, _, rfl⟩ := List.mem_map.mp hx
              refine ⟨_, rfl, rfl, ?_⟩
              simp only [fNext, fSeq, fIfS, fPar, parG, fAsg, fAsgM, fSet, fPut, oPut, fRet, fAnd, fB, bindD, bindR, bindS, fCons, retD, fV, f2, f1, fN, fD, vw, vwAll, liftO, allD, gmT, gmCons, gmN, gmSub, gmNil, oGet_str, dkey, oC_int, oInt_int, oAdd_int, oSub_int, oLen_lst, oIx_lst, oTup, List.map_cons, List.map_nil, List.length_cons, List.length_nil, List.cons_append, List.nil_append, List.append_nil, List.getElem?_cons_zero, List.getElem?_cons_succ, List.replicate, List.set_cons_zero, List.set_cons_succ, List.set_set, if_true, if_false, Bool.false_eq_true, Option.map_some, Option.map_none, Nat.sub_zero, Nat.reduceSub, Nat.reduceAdd, and_true, true_and, wipeR, gN, oInT_str, inB]
          · simp only [fNext, fSeq, fIfS, fPar, parG, fAsg, fAsgM, fSet, fPut, oPut, fRet, fAnd, fB, bindD, bindR, bindS, fCons, retD, fV, f2, f1, fN, fD, vw, vwAll, liftO, allD, gmT, gmCons, gmN, gmSub, gmNil, oGet_str, dkey, oC_int, oInt_int, oAdd_int, oSub_int, oLen_lst, oIx_lst, oTup, List.map_cons, List.map_nil, List.length_cons, List.length_nil, List.cons_append, List.nil_append, List.append_nil, List.getElem?_cons_zero, List.getElem?_cons_succ, List.replicate, List.set_cons_zero, List.set_cons_succ, List.set_set, if_true, if_false, Bool.false_eq_true, Option.map_some, Option.map_none, Nat.sub_zero, Nat.reduceSub, Nat.reduceAdd, and_true, true_and, fNot, decide_eq_false h4, Bool.not_false, trim_same, Except.map, Bool.false_and]
        · simp only [fNext, fSeq, fIfS, fPar, parG, fAsg, fAsgM, fSet, fPut, oPut, fRet, fAnd, fB, bindD, bindR, bindS, fCons, retD, fV, f2, f1, fN, fD, vw, vwAll, liftO, allD, gmT, gmCons, gmN, gmSub, gmNil, oGet_str, dkey, oC_int, oInt_int, oAdd_int, oSub_int, oLen_lst, oIx_lst, oTup, List.map_cons, List.map_nil, List.length_cons, List.length_nil, List.cons_append, List.nil_append, List.append_nil, List.getElem?_cons_zero, List.getElem?_cons_succ, List.replicate, List.set_cons_zero, List.set_cons_succ, List.set_set, if_true, if_false, Bool.false_eq_true, Option.map_some, Option.map_none, Nat.sub_zero, Nat.reduceSub, Nat.reduceAdd, and_true, true_and, fNot, decide_eq_false h1, Bool.not_false, trim_same, Except.map, Bool.false_and]
      | _ => simp only [fNext, fSeq, fIfS, fPar, parG, fAsg, fAsgM, fSet, fPut, oPut, fRet, fAnd, fB, bindD, bindR, bindS, fCons, retD, fV, f2, f1, fN, fD, vw, vwAll, liftO, allD, gmT, gmCons, gmN, gmSub, gmNil, oGet_str, dkey, oC_int, oInt_int, oAdd_int, oSub_int, oLen_lst, oIx_lst, oTup, List.map_cons, List.map_nil, List.length_cons, List.length_nil, List.cons_append, List.nil_append, List.append_nil, List.getElem?_cons_zero, List.getElem?_cons_succ, List.replicate, List.set_cons_zero, List.set_cons_succ, List.set_set, if_true, if_false, Bool.false_eq_true, Option.map_some, Option.map_none, Nat.sub_zero, Nat.reduceSub, Nat.reduceAdd, and_true, true_and, fOr, fNot, isStrD, Bool.not_false, coloursB, trim_same, Except.map]
    · cases h
  · cases h
/-! ascending -/
theorem srt_mem {xs : List Str} {x : Str} : x ∈ srt xs ↔ x ∈ xs := (srt_perm xs).mem_iff
theorem sgn_len {z s : Str} (h : s ∈ sgns z) : s.length = 1 := by
  unfold sgns at h
  obtain ⟨c, _, rfl⟩ := List.mem_map.mp h
  rfl
theorem sum_ones {xs : List Str} (h : ∀ s ∈ xs, s.length = 1) : (xs.map (·.length)).sum = xs.length := by
  induction xs with
  | nil => rfl
  | cons x r ih =>
    rw [List.map_cons, List.sum_cons, ih fun s hs => h s (List.mem_cons_of_mem _ hs), h x List.mem_cons_self, List.length_cons]
    omega
def AscOk (F : List Sl → Mem → Re Sl) : Prop := ∀ m z, z.length < 64 → F [.dat (.str z)] m = some (.ok (.dat (.str (ascT z))), m)
theorem sortSet_str {z : Str} (h : z.length < 64) : oSortSet [.str z] = some (.lst ((srt (onceS (sgns z))).map D.str)) := by
  have e : (inSet (.str z)).bind inrs = some (sgns z) := inrs_map _
  show (match (inSet (.str z)).bind inrs with | some zs => if zs.length < 64 then some (D.lst ((srt (onceS zs)).map D.str)) else none | none => none) = _
  rw [e]
  dsimp only
  rw [if_pos (by rw [sgns_len]; exact h)]
theorem join_ok {xs : List Str} (h1 : ∀ s ∈ xs, s.length = 1) (h2 : xs.length ≤ 1000) : ((xs.map (·.length)).sum + xs.length * (Str.ofString "").length ≤ 16777216) := by
  rw [sum_ones h1, show (Str.ofString "").length = 0 from rfl]
  omega
theorem fx_asc {f : Addr} {fd : FuncData} (F : Fun K "ascending" "ascending" sAscending f fd) (z_sorted : mg "sorted" = none) (z_set : mg "set" = none) : ∃ F, FnX P w K mg base T 1 f fd ["signs"] F ∧ AscOk F := by
  have nd := scAscending.nd
  refine ⟨_, FnX.of (P := P) (w := w) (mg := mg) (base := base) (T := T) (k := 0) F scAscending (fun cdv A outer s H E hr => (pssx_one (psx_ret (px_join px_str (px_callBT (cr_setK rfl) (cr_sortK rfl) cd_sortSet rfl z_sorted (by decide +kernel) rfl z_set (by decide +kernel) (pax_cons (px_v 0) pax_nil)))))), ?_⟩
  intro m z hz
  have h1 : ∀ s ∈ srt (onceS (sgns z)), s.length = 1 := fun s hs => sgn_len (once_mem.mp (srt_mem.mp hs))
  have h2 : (srt (onceS (sgns z))).length ≤ 1000 := by
    rw [(srt_perm _).length_eq]
    have := once_le (sgns z)
    rw [sgns_len] at this
    omega
  unfold runF
  simp only [fNext, fSeq, fIfS, fPar, parG, fAsg, fAsgM, fSet, fPut, oPut, fRet, fAnd, fB, bindD, bindR, bindS, fCons, retD, fV, f2, f1, fN, fD, vw, vwAll, liftO, allD, gmT, gmCons, gmN, gmSub, gmNil, oGet_str, dkey, oC_int, oInt_int, oAdd_int, oSub_int, oLen_lst, oIx_lst, oTup, List.map_cons, List.map_nil, List.length_cons, List.length_nil, List.cons_append, List.nil_append, List.append_nil, List.getElem?_cons_zero, List.getElem?_cons_succ, List.replicate, List.set_cons_zero, List.set_cons_succ, List.set_set, if_true, if_false, Bool.false_eq_true, Option.map_some, Option.map_none, Nat.sub_zero, Nat.reduceSub, Nat.reduceAdd, and_true, true_and, fJoinT, isStrS, sortSet_str hz, elemsM, strsOf_map]
  rw [if_pos (join_ok h1 h2)]
  simp only [fNext, fSeq, fIfS, fPar, parG, fAsg, fAsgM, fSet, fPut, oPut, fRet, fAnd, fB, bindD, bindR, bindS, fCons, retD, fV, f2, f1, fN, fD, vw, vwAll, liftO, allD, gmT, gmCons, gmN, gmSub, gmNil, oGet_str, dkey, oC_int, oInt_int, oAdd_int, oSub_int, oLen_lst, oIx_lst, oTup, List.map_cons, List.map_nil, List.length_cons, List.length_nil, List.cons_append, List.nil_append, List.append_nil, List.getElem?_cons_zero, List.getElem?_cons_succ, List.replicate, List.set_cons_zero, List.set_cons_succ, List.set_set, if_true, if_false, Bool.false_eq_true, Option.map_some, Option.map_none, Nat.sub_zero, Nat.reduceSub, Nat.reduceAdd, and_true, true_and, trim_same]
  rfl
/-! are_letters_of -/
def lettersB (h : Str) : D → Bool
  | .non => true
  | .dic kvs => kvs.all fun kv => letterB (keyD kv.1) && match valD kvs kv.1 with
    | some v => someB h v
    | none => false
  | _ => false
def okKv (L : List Addr) (kvs : List (Key × D)) : Prop := kvs.length < sizeLine ∧ (∀ kv ∈ kvs, smallD (keyD kv.1) = true) ∧ ∀ kv ∈ kvs, ∃ v, valD kvs kv.1 = some v ∧ (tag L v).isSome = true ∧ smallD v = true
theorem key_tag {k : Key} : (tag L (keyD k)).isSome = true := by cases k <;> rfl
theorem key_dk {k : Key} : dkey (keyD k) = some k := by cases k <;> rfl
/-- what s is seen as -/
def See (m : Mem) (s : Sl) (d : D) : Prop := s = .dat d ∨ ∃ i, s = .opq i ∧ ((∃ kvs, m[i]? = some (.dic kvs) ∧ d = .dic kvs) ∨ ∃ xs, m[i]? = some (.lst (xs.map Sl.dat)) ∧ d = .lst xs)
theorem See.vw {m : Mem} {s : Sl} {d : D} (h : See m s d) : vw m s = some d := by
  rcases h with rfl | ⟨i, rfl, ⟨kvs, e, rfl⟩ | ⟨xs, e, rfl⟩⟩
  · rfl
  · simp only [Pu.vw, e]
  · simp only [Pu.vw, e, allD_map]
    rfl
def LettersOk (L : List Addr) (F : List Sl → Mem → Re Sl) : Prop := ∀ m s d h, See m s d → (tag L d).isSome = true → (∀ kvs, d = .dic kvs → okKv L kvs) → F [s, .dat (.str h)] m = some (.ok (.dat (.bl (lettersB h d))), m)
def letF (h : Str) (kvs : List (Key × D)) (d : D) : Bool := match dkey d with
    | some k => (letterB d && match valD kvs k with
      | some v => someB h v
      | none => false)
    | none => false
theorem oGet_key {kvs : List (Key × D)} {k : Key} : oGet (.dic kvs) (keyD k) = valD kvs k := by
  show (dkey (keyD k)).bind (fun k => valD kvs k) = _
  rw [key_dk]
  rfl
theorem isNon_eq {d : D} {b : Bool} : oIsN b d .non = some (.bl (if b then !isNon d else isNon d)) := rfl
theorem orR_1 {α : Type} {f g : Rho → Mem → Re α} {ρ : Rho} {m : Mem} {x : Except Er α × Mem} (h : f ρ m = some x) : orR f g ρ m = some x := by unfold orR; rw [h]
theorem orR_2 {α : Type} {f g : Rho → Mem → Re α} {ρ : Rho} {m : Mem} (h : f ρ m = none) : orR f g ρ m = g ρ m := by unfold orR; rw [h]
theorem fx_letters {f aT aS : Addr} {fd fdT fdS : FuncData} (OW : Own K L) (F : Fun K "are_letters_of" "are_letters_of" sLetters f fd) (z_isinstance : mg "isinstance" = none) (z_all : mg "all" = none) (z_dict : mg "dict" = none)
    (GT : FnX P w K mg base T 1 aT fdT ["value"] (pureF (oLetter L))) (AT : At K mg "is_letter" aT fdT ["value"]) (GS : FnX P w K mg base T 1 aS fdS ["value", "colours"] (pureF (oSome L))) (AS : At K mg "are_some_of" aS fdS ["value", "colours"]) :
    ∃ F, FnX P w K mg base T 2 f fd ["value", "colours"] F ∧ LettersOk L F := by
  have nd := scLetters.nd
  refine ⟨_, FnX.of (P := P) (w := w) (mg := mg) (base := base) (T := T) (k := 1) F scLetters (fun cdv A outer s H E hr => (pssx_cons (psx_if (ptx_cmp op_isN od_isN (px_v 0) px_non (nomark _))
(pssx_one (psx_ret px_bl))
pssx_nil)
(pssx_cons (psx_if (ptx_not (ptx_val (px_callB call_isiU (cd_isi OW) rfl z_isinstance (by decide +kernel) (pax_cons (px_v 0) (pax_cons (px_ty (n := "dict") rfl z_dict (by decide +kernel)) pax_nil)))))
(pssx_one (psx_ret px_bl))
pssx_nil)
(pssx_one (psx_ret (px_callB (cr_all rfl) cd_all rfl z_all (by decide +kernel) (pax_cons (PX.or (px_lc (own := [("letter", 2)]) rfl nd (pix_any (px_v 0)) (blkOk_by (N := ["value", "colours", "letter"]) (sc := (defScope sLetters)) (by decide +kernel)) (fun _ _ _ _ _ => (pgx_name (i := 2) nd rfl (Or.inl rfl))) (by decide) (fun _ _ _ _ _ => ptsx_nil) (fun _ _ _ _ _ => (px_and (px_call (GT.mono (by decide)) hr rfl AT.mg AT.kp AT.bd .nil (fun _ => .nil) L2.passL (pax_cons (px_v 2) pax_nil)) (px_one (px_call (GS.mono (by decide)) hr rfl AS.mg AS.kp AS.bd .nil (fun _ => .nil) L2.passL (pax_cons (px_get (hu_of hr) (px_v 0) (px_v 2)) (pax_cons (px_v 1) pax_nil))))))) (px_lcL (j := 0) (own := [("letter", 2)]) rfl nd (pix_any (px_v 0)) (blkOk_by (N := ["value", "colours", "letter"]) (sc := (defScope sLetters)) (by decide +kernel)) (fun _ _ _ _ _ => (pgx_name (i := 2) nd rfl (Or.inl rfl))) (by decide) (fun _ _ _ _ _ => ptsx_nil) (fun _ _ _ _ _ => (px_and (px_call (GT.mono (by decide)) hr rfl AT.mg AT.kp AT.bd .nil (fun _ => .nil) L2.passL (pax_cons (px_v 2) pax_nil)) (px_one (px_call (GS.mono (by decide)) hr rfl AS.mg AS.kp AS.bd .nil (fun _ => .nil) L2.passL (pax_cons (px_get (hu_of hr) (px_v 0) (px_v 2)) (pax_cons (px_v 1) pax_nil)))))))) pax_nil))))))), ?_⟩
  intro m s d h hs ht hk
  have hv := hs.vw
  refine val_run ?_
  simp only [List.map_cons, List.map_nil, List.length_cons, List.length_nil, Nat.reduceAdd, Nat.reduceSub, List.replicate, List.cons_append, List.nil_append]
  refine ws_seq (ws_if (wr_eq (y := isNon d) (m2 := m) (by simp only [fNext, fSeq, fIfS, fPar, parG, fAsg, fAsgM, fSet, fPut, oPut, fRet, fAnd, fB, bindD, bindR, bindS, fCons, retD, fV, f2, f1, fN, fD, vwAll, liftO, allD, gmT, gmCons, gmN, gmSub, gmNil, oGet_str, dkey, oC_int, oInt_int, oAdd_int, oSub_int, oLen_lst, oIx_lst, oTup, List.map_cons, List.map_nil, List.length_cons, List.length_nil, List.cons_append, List.nil_append, List.append_nil, List.getElem?_cons_zero, List.getElem?_cons_succ, List.replicate, List.set_cons_zero, List.set_cons_succ, List.set_set, if_true, if_false, Bool.false_eq_true, Option.map_some, Option.map_none, Nat.sub_zero, Nat.reduceSub, Nat.reduceAdd, and_true, true_and, vw_dat, fAndV, fOrV, fBV, fNot, fOr, fIf, fCall, fDo, hv, isNon_eq]) ?_))
  cases hd : isNon d with
  | true =>
    rw [if_pos rfl]
    cases d <;> first | cases hd | skip
    simp only [fNext, fSeq, fIfS, fPar, parG, fAsg, fAsgM, fSet, fPut, oPut, fRet, fAnd, fB, bindD, bindR, bindS, fCons, retD, fV, f2, f1, fN, fD, vwAll, liftO, allD, gmT, gmCons, gmN, gmSub, gmNil, oGet_str, dkey, oC_int, oInt_int, oAdd_int, oSub_int, oLen_lst, oIx_lst, oTup, List.map_cons, List.map_nil, List.length_cons, List.length_nil, List.cons_append, List.nil_append, List.append_nil, List.getElem?_cons_zero, List.getElem?_cons_succ, List.replicate, List.set_cons_zero, List.set_cons_succ, List.set_set, if_true, if_false, Bool.false_eq_true, Option.map_some, Option.map_none, Nat.sub_zero, Nat.reduceSub, Nat.reduceAdd, and_true, true_and, vw_dat, fAndV, fOrV, fBV, fNot, fOr, fIf, fCall, fDo, lettersB]
    exact ⟨_, _, rfl, rfl, rfl⟩
  | false =>
  rw [if_neg Bool.false_ne_true]
  refine ws_next (sq_nx ?_)
  refine ws_seq (ws_if (wr_eq (y := !isDicD d) (m2 := m) (by simp only [fNext, fSeq, fIfS, fPar, parG, fAsg, fAsgM, fSet, fPut, oPut, fRet, fAnd, fB, bindD, bindR, bindS, fCons, retD, fV, f2, f1, fN, fD, vwAll, liftO, allD, gmT, gmCons, gmN, gmSub, gmNil, oGet_str, dkey, oC_int, oInt_int, oAdd_int, oSub_int, oLen_lst, oIx_lst, oTup, List.map_cons, List.map_nil, List.length_cons, List.length_nil, List.cons_append, List.nil_append, List.append_nil, List.getElem?_cons_zero, List.getElem?_cons_succ, List.replicate, List.set_cons_zero, List.set_cons_succ, List.set_set, if_true, if_false, Bool.false_eq_true, Option.map_some, Option.map_none, Nat.sub_zero, Nat.reduceSub, Nat.reduceAdd, and_true, true_and, vw_dat, fAndV, fOrV, fBV, fNot, fOr, fIf, fCall, fDo, fNot, hv, isi_dic ht]) ?_))
  cases hc : isDicD d with
  | false =>
    rw [Bool.not_false, if_pos rfl]
    refine ws_ret (wr_eq (y := .dat (.bl false)) (m2 := m) rfl ⟨?_, rfl⟩)
    cases d with
    | non => cases hd
    | dic k => cases hc
    | _ => rfl
  | true =>
  rw [if_neg (by simp)]
  refine ws_next (sq_nx ?_)
  cases d <;> first | (cases hc; done) | skip
  rename_i kvs
  obtain ⟨k1, k2, k3⟩ := hk kvs rfl
  refine ws_ret (wr_eq (y := .dat (.bl (lettersB h (.dic kvs)))) (m2 := m) ?_ ⟨rfl, rfl⟩)
  have comp : ∀ (A : Rho → Mem → Re Sl) (m0 : Mem), (∀ k ∈ kvs, A [some (.dat (.dic kvs)), some (.dat (.str h)), some (.dat (keyD k.1))] m0 = some (.ok (.dat (.bl (letF h kvs (keyD k.1)))), m0)) → fLcE (fIterA (fV 0)) (gN 2) pYes A [2] [some (.dat (.dic kvs)), some (.dat (.str h)), none] m0 = some (.ok (.dat (.lst ((kvs.map fun kv => keyD kv.1).map fun d => .bl (letF h kvs d)))), m0) := fun A m0 hA => by
    unfold fLcE
    rw [ev_bind (x := kvs.map fun kv => keyD kv.1) (m2 := m0) rfl]
    refine ev_lcD (fun d => .bl (letF h kvs d)) (by rw [List.length_map]; exact k1) fun x hx => ?_
    obtain ⟨kv, hm, rfl⟩ := List.mem_map.mp hx
    exact ⟨_, rfl, rfl, hA kv hm⟩
  have elt : ∀ (m0 : Mem), ∀ k ∈ kvs, (fAndV (fCall (pureF (oLetter L)) [] (fCons (fV 2) (retD []))) (fCall (pureF (oSome L)) [] (fCons (bindD (fV 0) fun s => bindD (fV 2) fun t _ m => f2 oGet s t m) (fCons (fV 1) (retD []))))) [some (.dat (.dic kvs)), some (.dat (.str h)), some (.dat (keyD k.1))] m0 = some (.ok (.dat (.bl (letF h kvs (keyD k.1)))), m0) := fun m0 kv hm => by
    obtain ⟨v, e1, e2, e3⟩ := k3 kv hm
    have p1 : pureF (oLetter L) [.dat (keyD kv.1)] m0 = some (.ok (.dat (.bl (letterB (keyD kv.1)))), m0) := pure_ok (ds := [keyD kv.1]) (if_pos ⟨key_tag, k2 kv hm⟩)
    have p2 : pureF (oSome L) [.dat v, .dat (.str h)] m0 = some (.ok (.dat (.bl (someB h v))), m0) := pure_ok (ds := [v, .str h]) (if_pos ⟨e2, e3⟩)
    have lf : letF h kvs (keyD kv.1) = (letterB (keyD kv.1) && someB h v) := by
      unfold letF
      rw [key_dk]
      dsimp only
      rw [e1]
    simp only [fNext, fSeq, fIfS, fPar, parG, fAsg, fAsgM, fSet, fPut, oPut, fRet, fAnd, fB, bindD, bindR, bindS, fCons, retD, fV, f2, f1, fN, fD, vw, vwAll, liftO, allD, gmT, gmCons, gmN, gmSub, gmNil, oGet_str, dkey, oC_int, oInt_int, oAdd_int, oSub_int, oLen_lst, oIx_lst, oTup, List.map_cons, List.map_nil, List.length_cons, List.length_nil, List.cons_append, List.nil_append, List.append_nil, List.getElem?_cons_zero, List.getElem?_cons_succ, List.replicate, List.set_cons_zero, List.set_cons_succ, List.set_set, if_true, if_false, Bool.false_eq_true, Option.map_some, Option.map_none, Nat.sub_zero, Nat.reduceSub, Nat.reduceAdd, and_true, true_and, fAndV, fCall, p1, oGet_key, e1, p2, lf]
    cases letterB (keyD kv.1) with
    | false => simp only [fNext, fSeq, fIfS, fPar, parG, fAsg, fAsgM, fSet, fPut, oPut, fRet, fAnd, fB, bindD, bindR, bindS, fCons, retD, fV, f2, f1, fN, fD, vw, vwAll, liftO, allD, gmT, gmCons, gmN, gmSub, gmNil, oGet_str, dkey, oC_int, oInt_int, oAdd_int, oSub_int, oLen_lst, oIx_lst, oTup, List.map_cons, List.map_nil, List.length_cons, List.length_nil, List.cons_append, List.nil_append, List.append_nil, List.getElem?_cons_zero, List.getElem?_cons_succ, List.replicate, List.set_cons_zero, List.set_cons_succ, List.set_set, if_true, if_false, Bool.false_eq_true, Option.map_some, Option.map_none, Nat.sub_zero, Nat.reduceSub, Nat.reduceAdd, and_true, true_and, Bool.false_and]
    | true => simp only [fNext, fSeq, fIfS, fPar, parG, fAsg, fAsgM, fSet, fPut, oPut, fRet, fAnd, fB, bindD, bindR, bindS, fCons, retD, fV, f2, f1, fN, fD, vw, vwAll, liftO, allD, gmT, gmCons, gmN, gmSub, gmNil, oGet_str, dkey, oC_int, oInt_int, oAdd_int, oSub_int, oLen_lst, oIx_lst, oTup, List.map_cons, List.map_nil, List.length_cons, List.length_nil, List.cons_append, List.nil_append, List.append_nil, List.getElem?_cons_zero, List.getElem?_cons_succ, List.replicate, List.set_cons_zero, List.set_cons_succ, List.set_set, if_true, if_false, Bool.false_eq_true, Option.map_some, Option.map_none, Nat.sub_zero, Nat.reduceSub, Nat.reduceAdd, and_true, true_and, p2, Bool.true_and]
  have fin : oAll [.lst ((kvs.map fun kv => keyD kv.1).map fun d => .bl (letF h kvs d))] = some (.bl (lettersB h (.dic kvs))) := by
    rw [oAll_map, List.all_map]
    congr 2
    show kvs.all _ = kvs.all _
    congr 1
    funext kv
    show letF h kvs (keyD kv.1) = _
    unfold letF
    rw [key_dk]
  have lcv : orR (fLcE (fIterA (fV 0)) (gN 2) pYes (fAndV (fCall (pureF (oLetter L)) [] (fCons (fV 2) (retD []))) (fCall (pureF (oSome L)) [] (fCons (bindD (fV 0) fun s => bindD (fV 2) fun t _ m => f2 oGet s t m) (fCons (fV 1) (retD []))))) [2]) (fFrL 0 (fLcE (fIterA (fV 0)) (gN 2) pYes (fAndV (fCall (pureF (oLetter L)) [] (fCons (fV 2) (retD []))) (fCall (pureF (oSome L)) [] (fCons (bindD (fV 0) fun s => bindD (fV 2) fun t _ m => f2 oGet s t m) (fCons (fV 1) (retD []))))) [2])) [some s, some (.dat (.str h)), none] m = some (.ok (.dat (.lst ((kvs.map fun kv => keyD kv.1).map fun d => .bl (letF h kvs d)))), m) := by
    rcases hs with rfl | ⟨i, rfl, ⟨kvs', e, hk2⟩ | ⟨xs, e, hk2⟩⟩
    · exact orR_1 (comp _ m (elt m))
    · cases hk2
      rw [orR_2 (by rfl)]
      have ht2 : thingD m i = some (.dic kvs) := by unfold thingD; rw [e]
      show (match thingD m i with | some d => _ | none => none) = _
      rw [ht2]
      dsimp only
      have hf : frzL i (.dic kvs) [some (.opq i), some (.dat (.str h)), none] = [some (.dat (.dic kvs)), some (.dat (.str h)), none] := by
        show [frzS i (.dic kvs) (some (.opq i)), _, _] = _
        unfold frzS
        simp only [if_true]
      rw [hf, comp _ [] (elt [])]
      dsimp only
      rw [if_pos]
      rw [List.all_map]
      exact List.all_eq_true.mpr fun _ _ => rfl
    · cases hk2
  refine (ev_bind (x := [.dat (.lst ((kvs.map fun kv => keyD kv.1).map fun d => .bl (letF h kvs d)))]) (m2 := m) ?_).trans ?_
  · unfold fCons
    refine (ev_bind lcv).trans ?_
    rfl
  · simp only [fNext, fSeq, fIfS, fPar, parG, fAsg, fAsgM, fSet, fPut, oPut, fRet, fAnd, fB, bindD, bindR, bindS, fCons, retD, fV, f2, f1, fN, fD, vw, vwAll, liftO, allD, gmT, gmCons, gmN, gmSub, gmNil, oGet_str, dkey, oC_int, oInt_int, oAdd_int, oSub_int, oLen_lst, oIx_lst, oTup, List.map_cons, List.map_nil, List.length_cons, List.length_nil, List.cons_append, List.nil_append, List.append_nil, List.getElem?_cons_zero, List.getElem?_cons_succ, List.replicate, List.set_cons_zero, List.set_cons_succ, List.set_set, if_true, if_false, Bool.false_eq_true, Option.map_some, Option.map_none, Nat.sub_zero, Nat.reduceSub, Nat.reduceAdd, and_true, true_and, fin]
/-! check_beside -/
def pairB (h : Str) : D → Bool
  | .str z => (sgns z).all (fun s => inT s h) && decide (z.length = 2)
  | _ => false
def erR (C : Addr) (d : D) : Er := ⟨C, some [("value", d)]⟩
def okPair (L : List Addr) (d : D) : Prop := (tag L d).isSome = true ∧ smallD d = true
def besideR (C : Addr) (h : Str) (xs : List D) : Except Er D := match xs.find? fun x => !pairB h x with
  | some x => .error (erR C x)
  | none => .ok .non
def elemsD : D → Option (List D)
  | .lst xs => some xs | .tup xs => some xs | _ => none
def BesideOk (L : List Addr) (C : Addr) (F : List Sl → Mem → Re Sl) : Prop := (∀ m d h, (tag L d).isSome = true → elemsD d = none → F [.dat d, .dat (.str h)] m = some (.error (erR C d), m)) ∧
  (∀ m s d h xs, See m s d → (tag L d).isSome = true → elemsD d = some xs → (∀ x ∈ xs, okPair L x) → F [s, .dat (.str h)] m = some (Except.map Sl.dat (besideR C h xs), m))
theorem seq_none {d : D} (h : elemsD d = none) : isSeqD d = false := by cases d <;> first | rfl | cases h
theorem seq_some {d : D} {xs : List D} (h : elemsD d = some xs) : isSeqD d = true := by cases d <;> first | rfl | cases h
theorem neg_two (z : Str) : decide ((z.length : Int) = 2) = decide (z.length = 2) := by
  by_cases h : z.length = 2
  · rw [decide_eq_true h, decide_eq_true (by omega)]
  · rw [decide_eq_false h, decide_eq_false (by omega)]
/-- a for over data, whose body leaves the store alone -/
theorem for_pure {g : Sl → Rho → Option Rho} {b : Rho → Mem → RS} {m : Mem} {C : Addr} {h : Str} {u : Sl → Rho} : ∀ {xs : List D} {ρ : Rho}, (∃ s0, ρ = u s0) ∨ (∀ x, g (.dat x) ρ = some (u (.dat x))) → (∀ x s0, g (.dat x) (u s0) = some (u (.dat x))) →
    (∀ x ∈ xs, b (u (.dat x)) m = if pairB h x = true then some (.nx (u (.dat x)), m) else some (.er (erR C x), m)) →
    ∃ ρ2, fFor g b xs ρ m = (match xs.find? fun x => !pairB h x with
      | some x => some (.er (erR C x), m)
      | none => some (.nx ρ2, m))
  | [], ρ, _, _, _ => ⟨ρ, rfl⟩
  | x :: xs, ρ, h0, hg, hb => by
    have e1 : g (.dat x) ρ = some (u (.dat x)) := by
      rcases h0 with ⟨s0, rfl⟩ | h0
      · exact hg x s0
      · exact h0 x
    obtain ⟨ρ2, ih⟩ := for_pure (xs := xs) (ρ := u (.dat x)) (C := C) (h := h) (.inl ⟨_, rfl⟩) hg (fun y hy => hb y (List.mem_cons_of_mem _ hy))
    refine ⟨ρ2, ?_⟩
    unfold fFor
    simp only [e1, hb x List.mem_cons_self]
    cases hp : pairB h x with
    | true => simp only [if_true, ih, List.find?_cons, hp, Bool.not_true]
    | false => simp only [Bool.false_eq_true, if_false, List.find?_cons, hp, Bool.not_false]
theorem forL_pure {i : Nat} {ss : List Sl} {g : Sl → Rho → Option Rho} {b : Rho → Mem → RS} {m : Mem} {C : Addr} {h : Str} {u : Sl → Rho} (hm : m[i]? = some (.lst ss)) : ∀ {xs : List D} {ρ : Rho}, (∃ s0, ρ = u s0) ∨ (∀ x, g (.dat x) ρ = some (u (.dat x))) → (∀ x s0, g (.dat x) (u s0) = some (u (.dat x))) →
    (∀ x ∈ xs, b (u (.dat x)) m = if pairB h x = true then some (.nx (u (.dat x)), m) else some (.er (erR C x), m)) →
    ∃ ρ2, fForL i ss g b (xs.map Sl.dat) ρ m = (match xs.find? fun x => !pairB h x with
      | some x => some (.er (erR C x), m)
      | none => some (.nx ρ2, m))
  | [], ρ, _, _, _ => ⟨ρ, by rw [List.map_nil]; unfold fForL; rw [if_pos hm]; rfl⟩
  | x :: xs, ρ, h0, hg, hb => by
    have e1 : g (.dat x) ρ = some (u (.dat x)) := by
      rcases h0 with ⟨s0, rfl⟩ | h0
      · exact hg x s0
      · exact h0 x
    obtain ⟨ρ2, ih⟩ := forL_pure hm (xs := xs) (ρ := u (.dat x)) (C := C) (h := h) (.inl ⟨_, rfl⟩) hg (fun y hy => hb y (List.mem_cons_of_mem _ hy))
    refine ⟨ρ2, ?_⟩
    rw [List.map_cons]
    unfold fForL
    rw [if_pos hm]
    simp only [e1, hb x List.mem_cons_self]
    cases hp : pairB h x with
    | true => simp only [if_true, ih, List.find?_cons, hp, Bool.not_true]
    | false => simp only [Bool.false_eq_true, if_false, List.find?_cons, hp, Bool.not_false]
theorem itA_el {d : D} {xs : List D} (h : elemsD d = some xs) : itA d = some xs := by cases d <;> first | (cases h; rfl) | cases h
theorem beside_run {A b : Rho → Mem → RS} {m : Mem} {s : Sl} {d : D} {h : Str} {C : Addr} {xs : List D} (hs : See m s d) (hx : elemsD d = some xs) (hA : A [some s, some (.dat (.str h)), none] m = some (.nx [some s, some (.dat (.str h)), none], m))
    (hb : ∀ x ∈ xs, b [some s, some (.dat (.str h)), some (.dat x)] m = if pairB h x = true then some (.nx [some s, some (.dat (.str h)), some (.dat x)], m) else some (.er (erR C x), m)) :
    runF (fSeq A (orS (fForS (fIterA (fV 0)) (gN 2) b) (fForM (fV 0) (gN 2) b))) 3 [s, .dat (.str h)] m = some (Except.map Sl.dat (besideR C h xs), m) := by
  have loop : ∃ ρ2, orS (fForS (fIterA (fV 0)) (gN 2) b) (fForM (fV 0) (gN 2) b) [some s, some (.dat (.str h)), none] m = (match xs.find? fun x => !pairB h x with
      | some x => some (.er (erR C x), m)
      | none => some (.nx ρ2, m)) := by
    rcases hs with rfl | ⟨i, rfl, ⟨kvs, e, rfl⟩ | ⟨ys, e, rfl⟩⟩
    · obtain ⟨ρ2, e2⟩ := for_pure (g := gN 2) (b := b) (m := m) (C := C) (h := h) (u := fun s0 => [some (.dat d), some (.dat (.str h)), some s0]) (xs := xs) (ρ := [some (.dat d), some (.dat (.str h)), none]) (.inr fun x => rfl) (fun x s0 => rfl) hb
      refine ⟨ρ2, ?_⟩
      have e3 : fForS (fIterA (fV 0)) (gN 2) b [some (.dat d), some (.dat (.str h)), none] m = fFor (gN 2) b xs [some (.dat d), some (.dat (.str h)), none] m := by
        unfold fForS fIterA
        rw [ev_bind (x := .dat d) (m2 := m) rfl]
        dsimp only
        rw [itA_el hx]
        rfl
      unfold orS
      rw [e3, e2]
      cases xs.find? fun x => !pairB h x <;> rfl
    · cases hx
    · cases hx
      obtain ⟨ρ2, e2⟩ := forL_pure (i := i) (ss := xs.map Sl.dat) (g := gN 2) (b := b) (m := m) (C := C) (h := h) (u := fun s0 => [some (.opq i), some (.dat (.str h)), some s0]) e (xs := xs) (ρ := [some (.opq i), some (.dat (.str h)), none]) (.inr fun x => rfl) (fun x s0 => rfl) hb
      refine ⟨ρ2, ?_⟩
      have e3 : fForS (fIterA (fV 0)) (gN 2) b [some (.opq i), some (.dat (.str h)), none] m = none := rfl
      have e4 : fForM (fV 0) (gN 2) b [some (.opq i), some (.dat (.str h)), none] m = fForL i (xs.map Sl.dat) (gN 2) b (xs.map Sl.dat) [some (.opq i), some (.dat (.str h)), none] m := by
        show (match m[i]? with | some (.lst ss) => _ | _ => none) = _
        rw [e]
      unfold orS
      rw [e3]
      dsimp only
      rw [e4, e2]
  obtain ⟨ρ2, e2⟩ := loop
  unfold runF
  show (match fSeq A _ [some s, some (.dat (.str h)), none] m with | some (.nx _, m') => _ | some (.rt s, m') => _ | some (.er e, m') => _ | _ => none) = _
  rw [ev_seq hA, e2]
  unfold besideR
  cases xs.find? fun x => !pairB h x with
  | none => exact trim_same
  | some x => exact trim_same
open EV in
theorem fx_beside {f aL aS C : Addr} {fd fdL fdS : FuncData} {FL : List Sl → Mem → Re Sl} (F : Fun K "check_beside" "check_beside" sBeside f fd) (z_len : mg "len" = none) (TE1 : Err P w K mg base "BadRule" C ["value"])
    (GL : FnX P w K mg base T 1 aL fdL ["value"] FL) (AL : At K mg "is_list" aL fdL ["value"]) (oL : IsListOk L FL) (GS : FnX P w K mg base T 1 aS fdS ["value", "colours"] (pureF (oSome L))) (AS : At K mg "are_some_of" aS fdS ["value", "colours"]) :
    ∃ F, FnX P w K mg base T 3 f fd ["beside", "colours"] F ∧ BesideOk L C F := by
  have nd := scBeside.nd
  refine ⟨_, FnX.of (P := P) (w := w) (mg := mg) (base := base) (T := T) (k := 2) F scBeside (fun cdv A outer s H E hr => (pssx_cons (psx_if (ptx_not (ptx_val (px_call (GL.mono (by decide)) hr rfl AL.mg AL.kp AL.bd .nil (fun _ => .nil) (passE (T := T)) (pax_cons (px_v 0) pax_nil))))
(pssx_one (psx_raise (i := 0) (takes_of rfl rfl rfl rfl) rfl TE1 (hr.mono (by decide)) rfl rfl (Or.inl rfl)))
pssx_nil)
(pssx_one (PSX.or (psx_for (passes_of rfl) rfl (pix_any (px_v 0)) (pgx_name (i := 2) nd rfl (Or.inl rfl))
(pssx_one (psx_if (PWX.pt (pwx_or (ptx_not (ptx_val (px_call (GS.mono (by decide)) hr rfl AS.mg AS.kp AS.bd .nil (fun _ => .nil) (passE (T := T)) (pax_cons (px_v 2) (pax_cons (px_v 1) pax_nil))))) (pwx_or1 (ptx_cmp (op_neA hr.units) od_neA (px_callB call_lenU cd_len rfl z_len (by decide +kernel) (pax_cons (px_v 2) pax_nil)) px_int (nomark _)))))
(pssx_one (psx_raise (i := 2) (takes_of rfl rfl rfl rfl) rfl TE1 (hr.mono (by decide)) rfl rfl (Or.inl rfl)))
pssx_nil))) (psx_forM (passes_of rfl) rfl (px_v 0) (pgx_name (i := 2) nd rfl (Or.inl rfl))
(pssx_one (psx_if (PWX.pt (pwx_or (ptx_not (ptx_val (px_call (GS.mono (by decide)) hr rfl AS.mg AS.kp AS.bd .nil (fun _ => .nil) (passE (T := T)) (pax_cons (px_v 2) (pax_cons (px_v 1) pax_nil))))) (pwx_or1 (ptx_cmp (op_neA hr.units) od_neA (px_callB call_lenU cd_len rfl z_len (by decide +kernel) (pax_cons (px_v 2) pax_nil)) px_int (nomark _)))))
(pssx_one (psx_raise (i := 2) (takes_of rfl rfl rfl rfl) rfl TE1 (hr.mono (by decide)) rfl rfl (Or.inl rfl)))
pssx_nil))))))), ?_, ?_⟩
  · intro m d h ht hn
    have e1 := oL m (.dat d) d rfl ht
    rw [seq_none hn] at e1
    unfold runF
    simp only [fNext, fSeq, fIfS, fPar, parG, fAsg, fAsgM, fSet, fPut, oPut, fRet, fAnd, fB, bindD, bindR, bindS, fCons, retD, fV, f2, f1, fN, fD, vw, vwAll, liftO, allD, gmT, gmCons, gmN, gmSub, gmNil, oGet_str, dkey, oC_int, oInt_int, oAdd_int, oSub_int, oLen_lst, oIx_lst, oTup, List.map_cons, List.map_nil, List.length_cons, List.length_nil, List.cons_append, List.nil_append, List.append_nil, List.getElem?_cons_zero, List.getElem?_cons_succ, List.replicate, List.set_cons_zero, List.set_cons_succ, List.set_set, if_true, if_false, Bool.false_eq_true, Option.map_some, Option.map_none, Nat.sub_zero, Nat.reduceSub, Nat.reduceAdd, and_true, true_and, fCall, fNot, e1, Bool.not_false, fEr, trim_same]
    rfl
  · intro m s d h xs hs ht hx hp
    have e1 := oL m s d hs.vw ht
    rw [seq_some hx] at e1
    refine beside_run hs hx ?_ fun x hm => ?_
    · simp only [fNext, fSeq, fIfS, fPar, parG, fAsg, fAsgM, fSet, fPut, oPut, fRet, fAnd, fB, bindD, bindR, bindS, fCons, retD, fV, f2, f1, fN, fD, vwAll, liftO, allD, gmT, gmCons, gmN, gmSub, gmNil, oGet_str, dkey, oC_int, oInt_int, oAdd_int, oSub_int, oLen_lst, oIx_lst, oTup, List.map_cons, List.map_nil, List.length_cons, List.length_nil, List.cons_append, List.nil_append, List.append_nil, List.getElem?_cons_zero, List.getElem?_cons_succ, List.replicate, List.set_cons_zero, List.set_cons_succ, List.set_set, if_true, if_false, Bool.false_eq_true, Option.map_some, Option.map_none, Nat.sub_zero, Nat.reduceSub, Nat.reduceAdd, and_true, true_and, vw_dat, fAndV, fOrV, fBV, fNot, fOr, fIf, fCall, fDo, fCall, fNot, e1, Bool.not_true]
    · have p1 : pureF (oSome L) [.dat x, .dat (.str h)] m = some (.ok (.dat (.bl (someB h x))), m) := pure_ok (ds := [x, .str h]) (if_pos (hp x hm))
      simp only [fNext, fSeq, fIfS, fPar, parG, fAsg, fAsgM, fSet, fPut, oPut, fRet, fAnd, fB, bindD, bindR, bindS, fCons, retD, fV, f2, f1, fN, fD, vw, vwAll, liftO, allD, gmT, gmCons, gmN, gmSub, gmNil, oGet_str, dkey, oC_int, oInt_int, oAdd_int, oSub_int, oLen_lst, oIx_lst, oTup, List.map_cons, List.map_nil, List.length_cons, List.length_nil, List.cons_append, List.nil_append, List.append_nil, List.getElem?_cons_zero, List.getElem?_cons_succ, List.replicate, List.set_cons_zero, List.set_cons_succ, List.set_set, if_true, if_false, Bool.false_eq_true, Option.map_some, Option.map_none, Nat.sub_zero, Nat.reduceSub, Nat.reduceAdd, and_true, true_and, fCall, fNot, fOr, p1]
      cases x with
      | str z =>
        have hz : z.length < sizeLine := of_decide_eq_true (show decide (z.length < sizeLine) = true from (hp _ hm).2)
        simp only [someB, pairB]
        rcases Bool.eq_false_or_eq_true ((sgns z).all (fun s => inT s h)) with hq | hq
        · simp only [fNext, fSeq, fIfS, fPar, parG, fAsg, fAsgM, fSet, fPut, oPut, fRet, fAnd, fB, bindD, bindR, bindS, fCons, retD, fV, f2, f1, fN, fD, vw, vwAll, liftO, allD, gmT, gmCons, gmN, gmSub, gmNil, oGet_str, dkey, oC_int, oInt_int, oAdd_int, oSub_int, oLen_lst, oIx_lst, oTup, List.map_cons, List.map_nil, List.length_cons, List.length_nil, List.cons_append, List.nil_append, List.append_nil, List.getElem?_cons_zero, List.getElem?_cons_succ, List.replicate, List.set_cons_zero, List.set_cons_succ, List.set_set, if_true, if_false, Bool.false_eq_true, Option.map_some, Option.map_none, Nat.sub_zero, Nat.reduceSub, Nat.reduceAdd, and_true, true_and, hq, Bool.not_true, Bool.true_and, oLen_str (Nat.le_of_lt hz), neA_int, neg_two]
          by_cases h2 : z.length = 2
          · simp only [fNext, fSeq, fIfS, fPar, parG, fAsg, fAsgM, fSet, fPut, oPut, fRet, fAnd, fB, bindD, bindR, bindS, fCons, retD, fV, f2, f1, fN, fD, vw, vwAll, liftO, allD, gmT, gmCons, gmN, gmSub, gmNil, oGet_str, dkey, oC_int, oInt_int, oAdd_int, oSub_int, oLen_lst, oIx_lst, oTup, List.map_cons, List.map_nil, List.length_cons, List.length_nil, List.cons_append, List.nil_append, List.append_nil, List.getElem?_cons_zero, List.getElem?_cons_succ, List.replicate, List.set_cons_zero, List.set_cons_succ, List.set_set, if_true, if_false, Bool.false_eq_true, Option.map_some, Option.map_none, Nat.sub_zero, Nat.reduceSub, Nat.reduceAdd, and_true, true_and, decide_eq_true h2, Bool.not_true]
          · simp only [fNext, fSeq, fIfS, fPar, parG, fAsg, fAsgM, fSet, fPut, oPut, fRet, fAnd, fB, bindD, bindR, bindS, fCons, retD, fV, f2, f1, fN, fD, vw, vwAll, liftO, allD, gmT, gmCons, gmN, gmSub, gmNil, oGet_str, dkey, oC_int, oInt_int, oAdd_int, oSub_int, oLen_lst, oIx_lst, oTup, List.map_cons, List.map_nil, List.length_cons, List.length_nil, List.cons_append, List.nil_append, List.append_nil, List.getElem?_cons_zero, List.getElem?_cons_succ, List.replicate, List.set_cons_zero, List.set_cons_succ, List.set_set, if_true, if_false, Bool.false_eq_true, Option.map_some, Option.map_none, Nat.sub_zero, Nat.reduceSub, Nat.reduceAdd, and_true, true_and, decide_eq_false h2, Bool.not_false, fEr]; rfl
        · simp only [fNext, fSeq, fIfS, fPar, parG, fAsg, fAsgM, fSet, fPut, oPut, fRet, fAnd, fB, bindD, bindR, bindS, fCons, retD, fV, f2, f1, fN, fD, vw, vwAll, liftO, allD, gmT, gmCons, gmN, gmSub, gmNil, oGet_str, dkey, oC_int, oInt_int, oAdd_int, oSub_int, oLen_lst, oIx_lst, oTup, List.map_cons, List.map_nil, List.length_cons, List.length_nil, List.cons_append, List.nil_append, List.append_nil, List.getElem?_cons_zero, List.getElem?_cons_succ, List.replicate, List.set_cons_zero, List.set_cons_succ, List.set_set, if_true, if_false, Bool.false_eq_true, Option.map_some, Option.map_none, Nat.sub_zero, Nat.reduceSub, Nat.reduceAdd, and_true, true_and, hq, Bool.not_false, Bool.false_and, fEr]; rfl
      | _ => simp only [fNext, fSeq, fIfS, fPar, parG, fAsg, fAsgM, fSet, fPut, oPut, fRet, fAnd, fB, bindD, bindR, bindS, fCons, retD, fV, f2, f1, fN, fD, vw, vwAll, liftO, allD, gmT, gmCons, gmN, gmSub, gmNil, oGet_str, dkey, oC_int, oInt_int, oAdd_int, oSub_int, oLen_lst, oIx_lst, oTup, List.map_cons, List.map_nil, List.length_cons, List.length_nil, List.cons_append, List.nil_append, List.append_nil, List.getElem?_cons_zero, List.getElem?_cons_succ, List.replicate, List.set_cons_zero, List.set_cons_succ, List.set_set, if_true, if_false, Bool.false_eq_true, Option.map_some, Option.map_none, Nat.sub_zero, Nat.reduceSub, Nat.reduceAdd, and_true, true_and, someB, pairB, Bool.not_false, fEr]; rfl
end
end K58
namespace Pu
open PySem PySem.Spec PyProof.Rows L2
theorem fLcM_map {g : Sl → Rho → Option Rho} {p : Rho → Mem → Re Bool} {f : Rho → Mem → Re Sl} {ρ : Rho} {m : Mem} {h : D → D} : ∀ {ds : List D}, (∀ d ∈ ds, ∃ ρ1, g (.dat d) ρ = some ρ1 ∧ p ρ1 m = some (.ok true, m) ∧ f ρ1 m = some (.ok (.dat (h d)), m)) → fLcM g p f ρ ds m = some ((ds.map h).map Sl.dat, m)
  | [], _ => rfl
  | d :: ds, k => by
    obtain ⟨ρ1, e1, e2, e3⟩ := k d List.mem_cons_self
    have z := fLcM_map (ds := ds) fun d hd => k d (List.mem_cons_of_mem _ hd)
    unfold fLcM
    simp only [e1, e2, e3, z, List.map_cons]
theorem ev_lcDM {g : Sl → Rho → Option Rho} {p : Rho → Mem → Re Bool} {f : Rho → Mem → Re Sl} {vs : List Nat} {ρ : Rho} {m : Mem} {ds : List D} (h : D → D) (hz : ds.length < sizeLine) (hd : ∀ d ∈ ds, ∃ ρ1, g (.dat d) (wipeR ρ vs) = some ρ1 ∧ p ρ1 m = some (.ok true, m) ∧ f ρ1 m = some (.ok (.dat (h d)), m)) :
    fLcDM g p f vs ds ρ m = some (.ok (.opq m.length), m ++ [.lst ((ds.map h).map Sl.dat)]) := by
  unfold fLcDM
  rw [if_pos hz, fLcM_map hd]
/-- the store of a def: the caller's, its tape changed, and what was made -/
def LM (m : Mem) (i : Nat) (o : MO) (ls : List MO) : Mem := m.set i o ++ ls
section
variable {m : Mem} {i j : Nat} {o o' X : MO} {ls r : List MO}
theorem LM.start (h : m[i]? = some o) : m = LM m i o [] := by
  unfold LM
  rw [List.append_nil]
  obtain ⟨hl, e⟩ := List.getElem?_eq_some_iff.mp h
  rw [← e, List.set_getElem_self]
theorem LM.app : LM m i o ls ++ r = LM m i o (ls ++ r) := by unfold LM; rw [List.append_assoc]
theorem LM.len : (LM m i o ls).length = m.length + ls.length := by unfold LM; rw [List.length_append, List.length_set]
theorem LM.get : (LM m i o ls)[m.length + j]? = ls[j]? := by
  unfold LM
  rw [List.getElem?_append_right (by rw [List.length_set]; omega), List.length_set, Nat.add_sub_cancel_left]
theorem LM.get0 : (LM m i o ls)[m.length]? = ls[0]? := LM.get (j := 0)
theorem LM.set : (LM m i o ls).set (m.length + j) X = LM m i o (ls.set j X) := by
  unfold LM
  rw [List.set_append_right _ _ (by rw [List.length_set]; omega), List.length_set, Nat.add_sub_cancel_left]
theorem LM.set0 : (LM m i o ls).set m.length X = LM m i o (ls.set 0 X) := LM.set (j := 0)
theorem LM.tape (h : i < m.length) : (LM m i o ls)[i]? = some o := by
  unfold LM
  rw [List.getElem?_append_left (by rw [List.length_set]; exact h), List.getElem?_set_self h]
theorem LM.setT (h : i < m.length) : (LM m i o ls).set i o' = LM m i o' ls := by
  unfold LM
  rw [List.set_append_left _ _ (by rw [List.length_set]; exact h), List.set_set]
end
/-- the store holds nothing beyond itself -/
def AllOk (m : Mem) : Prop := m.all (okMO m.length) = true
theorem okMO_mono {o : MO} {a b : Nat} (h : okMO a o = true) (l : a ≤ b) : okMO b o = true := by
  cases o with
  | lst xs =>
    refine List.all_eq_true.mpr fun s hs => ?_
    have z := List.all_eq_true.mp h s hs
    cases s with
    | dat d => rfl
    | opq i => exact decide_eq_true (Nat.lt_of_lt_of_le (of_decide_eq_true z) l)
  | _ => rfl
theorem AllOk.pen {m : Mem} {i : Nat} {o o' : MO} {ls : List MO} (h : AllOk (LM m i o ls)) (ho : okMO 0 o' = true) : AllOk (LM m i o' ls) := by
  unfold AllOk at h ⊢
  rw [LM.len] at h ⊢
  refine List.all_eq_true.mpr fun x hx => ?_
  unfold LM at hx h
  rcases List.mem_append.mp hx with hx | hx
  · rcases List.mem_or_eq_of_mem_set hx with hm | rfl
    · obtain ⟨k, hk, e⟩ := List.mem_iff_getElem.mp hm
      by_cases c : k = i
      · subst c
        obtain ⟨k2, hk2, e2⟩ := List.mem_iff_getElem.mp hx
        by_cases c2 : k2 = k
        · subst c2
          rw [List.getElem_set_self] at e2
          rw [← e2]; exact okMO_mono ho (Nat.zero_le _)
        · rw [List.getElem_set_ne (Ne.symm c2)] at e2
          exact List.all_eq_true.mp h x (List.mem_append_left _ (List.mem_iff_getElem.mpr ⟨k2, by simpa using hk2, by rw [List.getElem_set_ne (Ne.symm c2)]; exact e2⟩))
      · exact List.all_eq_true.mp h x (List.mem_append_left _ (List.mem_iff_getElem.mpr ⟨k, by simpa using hk, by rw [List.getElem_set_ne (Ne.symm c)]; exact e⟩))
    · exact okMO_mono ho (Nat.zero_le _)
  · exact List.all_eq_true.mp h x (List.mem_append_right _ hx)
theorem trimLM {m : Mem} {i : Nat} {o o' : MO} {ls xs : List MO} {d : D} (h : AllOk (LM m i o ls)) (ho : okMO 0 o' = true) : trim (LM m i o ls).length (.ok (.dat d)) (LM m i o' (ls ++ xs)) = some (.ok (.dat d), LM m i o' ls) := by
  have e : (LM m i o' (ls ++ xs)).take (LM m i o ls).length = LM m i o' ls := by
    rw [← LM.app, LM.len, ← LM.len (m := m) (i := i) (o := o') (ls := ls), List.take_left']
    rfl
  have h2 := h.pen ho
  unfold AllOk at h2
  unfold trim
  by_cases c : (LM m i o' (ls ++ xs)).length = (LM m i o ls).length
  · rw [if_pos c]
    have hx : xs = [] := by
      rw [LM.len, LM.len, List.length_append] at c
      exact List.length_eq_zero_iff.mp (by omega)
    rw [hx, List.append_nil]
  · rw [if_neg c, e, show (LM m i o ls).length = (LM m i o' ls).length by rw [LM.len, LM.len], if_pos h2]
    rfl
theorem AllOk.app {m : Mem} {xs : List MO} (h : AllOk m) (hx : ∀ x ∈ xs, okMO (m.length + xs.length) x = true) : AllOk (m ++ xs) := by
  unfold AllOk at h ⊢
  rw [List.length_append]
  refine List.all_eq_true.mpr fun x hm => ?_
  rcases List.mem_append.mp hm with hm | hm
  · exact okMO_mono (List.all_eq_true.mp h x hm) (by omega)
  · exact hx x hm
end Pu
namespace Pu
open PySem PySem.Spec PyProof.Rows L2 SeK
open LamX (Tabs)
/-! ### a dict of the store becomes data: it is locked -/
def oFzD (s : Sl) (m : Mem) : Re Sl := match s with
  | .dat _ => none
  | .opq i => match m[i]? with
    | some (.dic kvs) => some (.ok (.dat (.dic kvs)), m.set i (.fz (.dic kvs)))
    | _ => none
section
variable {X : Cx} {T : List (Addr × Str)} {E : XK} {a : Expr} {f : Rho → Mem → Re Sl}
theorem px_fzD (ha : PX X T E a f) : PX X T E a (bindD f fun s _ m => oFzD s m) := by
  obtain ⟨t, p, s⟩ := ha
  refine ⟨_, pe_lk p, ?_⟩
  have z := s.bind (R2 := IsS X.K) (u := fun x σ H1 (Q : VK) => ∃ d kvs, x = V.ref d ∧ H1 d = some (.dK kvs) ∧ ∀ od, Q x (upd H1 d (.frz od (.dK kvs)))) (g := fun s _ m => oFzD s m) fun H0 H am x s q ρ m σ r m' Q mo eo e gl => ?_
  · exact z
  cases q with
  | dat q => cases e
  | opq q =>
    rename_i i l
    dsimp only [oFzD] at e
    split at e
    · rename_i kvs hm
      cases e
      obtain ⟨l2, e1, ⟨u, e0, e3, ws, rfl, t3⟩ | ⟨_, z, _⟩⟩ := mo.is i _ hm
      · rw [q] at e1
        cases e1
        refine ⟨l, ws, rfl, e3, fun od => ?_⟩
        have s0 : Same H0 (upd H0 l (.frz od (.dK ws))) := Same.new e0
        have hmem : l ∈ am := List.mem_of_getElem? q
        have nt : ∀ ps, HO.frz od (.dK ws) ≠ .tbl ps := fun _ z => nomatch z
        have ex : Ex H0 H (upd H0 l (.frz od (.dK ws))) (upd H l (.frz od (.dK ws))) am am := ⟨s0, ⟨[], by simp, by simp⟩, fun b o h _ n => by rw [upd_ne (by rintro rfl; exact n hmem)]; exact h, fun b h => by
          by_cases c : b = l
          · subst c; exact absurd h (not_fre upd_same nt)
          · exact fun o e => h o (by rw [upd_ne c]; exact e), fun b n h k => by rw [upd_ne (by rintro rfl; exact n hmem)]; exact h⟩
        refine gl _ _ _ _ ex ⟨by rw [List.length_set]; exact mo.len, mo.nd, fun j w h => ?_, fun b w h => ?_, fun b hb hf => mo.tr b hb (ex.kp b hf), fun b ps h => ?_, tabs_but mo.tb e3 (fun _ z => nomatch z) (fun _ _ z => nomatch z) (fun b w nn e => by rw [upd_ne nn]; exact e)⟩ (.dat (.dic upd_same (t3.same s0)))
        · by_cases c : i = j
          · subst c
            rw [List.getElem?_set_self (by rw [← mo.len]; exact (List.getElem?_eq_some_iff.mp q).1)] at h
            cases h
            exact ⟨l, q, .inr ⟨_, rfl, .dic upd_same (t3.same s0)⟩⟩
          · rw [List.getElem?_set_ne c] at h
            obtain ⟨b, f1, ⟨w2, f2, f3, z⟩ | ⟨d, f2, z⟩⟩ := mo.is j w h
            · have nb : b ≠ l := by
                rintro rfl
                obtain ⟨h1, e4⟩ := List.getElem?_eq_some_iff.mp q
                obtain ⟨h2, e5⟩ := List.getElem?_eq_some_iff.mp f1
                exact c ((List.getElem_inj mo.nd).mp (e4.trans e5.symm))
              exact ⟨b, f1, .inl ⟨w2, by rw [upd_ne nb]; exact f2, by rw [upd_ne nb]; exact f3, z.ex ex⟩⟩
            · exact ⟨b, f1, .inr ⟨d, f2, z.same s0⟩⟩
        · by_cases c : b = l
          · subst c; rw [upd_same] at h ⊢; exact h
          · rw [upd_ne c] at h ⊢; exact mo.sub _ _ h
        · by_cases c : b = l
          · subst c; rw [upd_same] at h; cases h
          · rw [upd_ne c] at h; exact mo.nt _ _ h
      · cases z
    · cases e
end
end Pu
namespace Pu
open PySem PySem.Spec PyProof.Rows L2 SeK
section
variable {P : Program} {w : World} {K : PySem.W.Frag} {T : List (Addr × Str)} {mg : Str → Option Value} {base : Heap}
/-- a def with defaults computes what its body tells -/
theorem FnX.ofD {x qual : Str} {st : Stmt} {dvs : List V} {kws : List (Str × V)} {f : Addr} {fd : FuncData} {N ps : List Str} {k : Nat} {g : Rho → Mem → RS} (F : FunD K x qual (defArgs st) (defBody st) (defScope st) dvs kws f fd) (S : FnScope N ps (defScope st))
    (hbody : ∀ (cdv : Value) (A : Around) (outer : List Env) (s : Shared) (H : Hp) (E : XK), Room k (A.deeper (envOfC qual (defScope st) s.heap.objs.size f cdv)) →
      PSsX (cxOf (L2.CX P w) P w K mg base N qual (defScope st) f cdv A outer s H E) T E (defBody st) g) : FnX P w K mg base T (k + 1) f fd ps (runF g N.length) := by
  refine ⟨F.ok (CX := L2.CX P w) S (fun vs H Q E h => h.1) fun cdv A outer s H vs Q E hr h => ?_⟩
  obtain ⟨hl, H0, am, m, ss, r, m', mo, q, e, gl⟩ := h
  obtain ⟨t, p, sd⟩ := hbody cdv A outer s H E hr
  refine ⟨t, p, ?_⟩
  unfold runF at e
  cases hg : g (ss.map some ++ List.replicate (N.length - ss.length) none) m with
  | none => rw [hg] at e; cases e
  | some z =>
    obtain ⟨o, m1⟩ := z
    rw [hg] at e
    have eo : EnvOk K H0 am (ss.map some ++ List.replicate (N.length - ss.length) none) (L2.start N vs) := env_start q
    refine sd H0 am H _ m _ o m1 _ mo eo hg ?_
    cases o with
    | nx ρ =>
      have g2 := trim_ok mo.len e gl
      exact fun σ H1 H' am' ex mo' eo' => g2 .non H1 H' am' ex mo' (.dat .non)
    | rt s =>
      have g2 := trim_ok mo.len e gl
      exact fun v H1 H' am' ex mo' q' => g2 v H1 H' am' ex mo' q'
    | er x =>
      have g2 := trim_ok mo.len e gl
      exact g2
    | bk ρ => cases e
    | ct ρ => cases e
end
end Pu
namespace K58
open PySem PySem.Spec PyProof.Rows L2 Pu SeK
open LamX (Tabs)
abbrev sInit : Stmt := inClass (top 16) 0
abbrev sEq : Stmt := inClass (top 16) 1
theorem scInit : FnScope ["self", "colours", "beside", "letters", "told", "letter", "pair"] ["self", "colours", "beside", "letters"] (defScope sInit) := ⟨rfl, rfl, rfl, by decide +kernel, rfl, by decide +kernel, by decide +kernel⟩
theorem scEq : FnScope ["self", "other"] ["self", "other"] (defScope sEq) := ⟨rfl, rfl, rfl, by decide +kernel, rfl, by decide +kernel, by decide +kernel⟩
theorem ev_fld {C : Addr} {n : Str} {fo fv : Rho → Mem → Re Sl} {ρ : Rho} {m m1 : Mem} {i : Nat} {d : D} {gs : List (Str × D)} (hv : fv ρ m = some (.ok (.dat d), m1)) (ho : fo ρ m1 = some (.ok (.opq i), m1)) (hm : m1[i]? = some (.ins C gs)) (hl : gs.length < 1000) : fFld C n fo fv ρ m = some (.nx ρ, m1.set i (.ins C (putFD n d gs))) := by
  unfold fFld
  simp only [hv, bindS_ok, ho, hm, true_and]
  rw [if_pos hl]
theorem ev_call1 {o : List D → Option D} {f : Rho → Mem → Re Sl} {ρ : Rho} {m : Mem} {d c : D} (hf : f ρ m = some (.ok (.dat d), m)) (ho : o [d] = some c) : bindD (fCons f (retD [])) (fun ss _ m => fN o ss m) ρ m = some (.ok (.dat c), m) := by
  refine (ev_bind (x := [.dat d]) (m2 := m) ?_).trans ?_
  · unfold fCons
    exact (ev_bind hf).trans rfl
  · show fN o [.dat d] m = _
    unfold fN
    simp only [vwAll_dat, vwAll_nil, Option.map_some, ho, liftO]
theorem ev_callV {o : List D → Option D} {f : Rho → Mem → Re Sl} {ρ : Rho} {m : Mem} {s : Sl} {d c : D} (hf : f ρ m = some (.ok s, m)) (hv : vw m s = some d) (ho : o [d] = some c) : bindD (fCons f (retD [])) (fun ss _ m => fN o ss m) ρ m = some (.ok (.dat c), m) := by
  refine (ev_bind (x := [s]) (m2 := m) ?_).trans ?_
  · unfold fCons
    exact (ev_bind hf).trans rfl
  · show fN o [s] m = _
    have e : vwAll m [s] = some [d] := by
      show (match vw m s, vwAll m [] with | some d, some ds => some (d :: ds) | _, _ => none) = _
      rw [hv]
      rfl
    unfold fN
    simp only [e, ho, liftO]
theorem pfB {a d : D} : putFD "beside" d [("colours", a)] = ([("colours", a), ("beside", d)] : List (Str × D)) := by
  have n1 : (("colours" : Str) = "beside") = False := eq_false (by decide +kernel)
  simp [putFD, n1]
theorem pfL {a b d : D} : putFD "letters" d [("colours", a), ("beside", b)] = ([("colours", a), ("beside", b), ("letters", d)] : List (Str × D)) := by
  have n1 : (("colours" : Str) = "letters") = False := eq_false (by decide +kernel)
  have n2 : (("beside" : Str) = "letters") = False := eq_false (by decide +kernel)
  simp [putFD, n1, n2]
theorem val_runM {gg : Rho → Mem → RS} {n : Nat} {ss : List Sl} {m m2 : Mem} (h : WS (gg (ss.map some ++ List.replicate (n - ss.length) none) m) fun o m' => (∃ ρ, o = .nx ρ) ∧ m' = m2 ∧ m2.length = m.length) : runF gg n ss m = some (.ok (.dat .non), m2) := by
  obtain ⟨o, m', e, ⟨ρ, rfl⟩, rfl, hl⟩ := h
  unfold runF
  rw [e]
  show trim _ _ _ = _
  unfold trim
  rw [if_pos hl]
structure RuleC (K : PySem.W.Frag) (mg : Str → Option Value) (L : List Addr) (CR : Addr) : Prop where
  ow : Own K L
  cR : Cls K CR
  nC : NoAttr K CR "colours"
  nB : NoAttr K CR "beside"
  nL : NoAttr K CR "letters"
  iR : CR ∈ L
  mR : mg "Rule" = some (.ref CR)
/-! what a rule holds -/
def sgD (signs : List (Str × Str)) : List (Key × D) := signs.map fun q => (Sum.inr q.1, .str q.2)
def ordT (z : Str) : Str := Txt.join "" (srt (sgns z))
def besS (ps : List Str) : List Str := srt (onceS (ps.map ordT))
def valS (signs : List (Str × Str)) (z : Str) : Str := match signs.find? fun q => decide (q.1 = z) with
  | some q => q.2
  | none => ""
def letS (signs : List (Str × Str)) : List (Key × D) := (srt (signs.map (·.1))).map fun z => (Sum.inr z, .str (ascT (valS signs z)))
def ruleF (h : Str) (ps : List Str) (signs : List (Str × Str)) : List (Str × D) := [("colours", .str (ascT h)), ("beside", .tup ((besS ps).map D.str)), ("letters", .dic (letS signs))]
theorem valD_sg {signs : List (Str × Str)} {z : Str} (h : z ∈ signs.map (·.1)) : valD (sgD signs) (Sum.inr z) = some (.str (valS signs z)) := by
  unfold valD sgD valS
  rw [List.find?_map]
  have e : ((fun kv : Key × D => decide (kv.1 = Sum.inr z)) ∘ fun q : Str × Str => ((Sum.inr q.1 : Key), D.str q.2)) = fun q => decide (q.1 = z) := by
    funext q
    show decide ((Sum.inr q.1 : Key) = Sum.inr z) = _
    by_cases c : q.1 = z
    · rw [decide_eq_true c, decide_eq_true (by rw [c])]
    · rw [decide_eq_false c, decide_eq_false (fun e => c (by injection e))]
  rw [e]
  cases hf : signs.find? fun q => decide (q.1 = z) with
  | some q => rfl
  | none =>
    obtain ⟨q, hq, rfl⟩ := List.mem_map.mp h
    have := List.find?_eq_none.mp hf q hq
    simp at this
theorem inrs_sg (signs : List (Str × Str)) : inrs ((sgD signs).map (·.1)) = some (signs.map (·.1)) := by
  have e : (sgD signs).map (·.1) = (signs.map (·.1)).map Sum.inr := by
    unfold sgD
    rw [List.map_map, List.map_map]
    rfl
  rw [e, inrs_map]
structure GoodR (h : Str) (ps : List Str) (signs : List (Str × Str)) : Prop where
  c : coloursB (.str h) = true
  p : ∀ p ∈ ps, pairB h (.str p) = true
  pl : ps.length < 64
  l : lettersB h (.dic (sgD signs)) = true
  ln : signs.length < 64
  nd : (signs.map (·.1)).Nodup
  lv : ∀ q ∈ signs, q.1.length < 64 ∧ q.2.length < 64
theorem small_str {z : Str} (h : z.length < 64) : smallD (.str z) = true := by
  have e := sizeLine_eq
  exact decide_eq_true (by omega)
theorem colours_len {h : Str} (c : coloursB (.str h) = true) : h.length ≤ 4 := by
  unfold coloursB at c
  simp only [Bool.and_eq_true, decide_eq_true_eq] at c
  exact c.1.2
theorem pair_len {h z : Str} (c : pairB h (.str z) = true) : z.length = 2 := by
  unfold pairB at c
  simp only [Bool.and_eq_true, decide_eq_true_eq] at c
  exact c.2
theorem okKv_sg {L : List Addr} {signs : List (Str × Str)} (h : signs.length < 64) (lv : ∀ q ∈ signs, q.1.length < 64 ∧ q.2.length < 64) : okKv L (sgD signs) := by
  have e := sizeLine_eq
  refine ⟨by unfold sgD; rw [List.length_map]; omega, fun kv hk => ?_, fun kv hk => ?_⟩
  · obtain ⟨q, hq, rfl⟩ := List.mem_map.mp hk
    exact small_str (lv q hq).1
  · obtain ⟨q, hq, rfl⟩ := List.mem_map.mp hk
    refine ⟨_, valD_sg (List.mem_map_of_mem (f := (·.1)) hq), rfl, small_str ?_⟩
    unfold valS
    cases hf : signs.find? fun (q2 : Str × Str) => decide (q2.1 = q.1) with
    | some q2 => exact (lv q2 (List.mem_of_find?_eq_some hf)).2
    | none => show 0 < 64; decide
def InitOk (L : List Addr) (CR CB : Addr) (F : List Sl → Mem → Re Sl) : Prop :=
  (∀ m i h sb bd (ps : List Str) sl signs, m[i]? = some (.ins CR []) → GoodR h ps signs → See m sb bd → (tag L bd).isSome = true → elemsD bd = some (ps.map D.str) → (See m sl (.dic (sgD signs)) ∨ (sl = .dat .non ∧ signs = [])) → F [.opq i, .dat (.str h), sb, sl] m = some (.ok (.dat .non), m.set i (.ins CR (ruleF h ps signs)))) ∧
  (∀ m i d sb sl, okPair L d → coloursB d = false → F [.opq i, .dat d, sb, sl] m = some (.error (erR CB d), m)) ∧
  (∀ m i h bd sl, coloursB (.str h) = true → (tag L bd).isSome = true → elemsD bd = none → F [.opq i, .dat (.str h), .dat bd, sl] m = some (.error (erR CB bd), m)) ∧
  (∀ m i h bd xs sl x, coloursB (.str h) = true → (tag L bd).isSome = true → elemsD bd = some xs → (∀ x ∈ xs, okPair L x) → (xs.find? fun x => !pairB h x) = some x → F [.opq i, .dat (.str h), .dat bd, sl] m = some (.error (erR CB x), m)) ∧
  (∀ m i h bd (ps : List Str) l, coloursB (.str h) = true → (tag L bd).isSome = true → elemsD bd = some (ps.map D.str) → (∀ p ∈ ps, pairB h (.str p) = true) → (tag L l).isSome = true → (∀ kvs, l = .dic kvs → okKv L kvs) → lettersB h l = false → F [.opq i, .dat (.str h), .dat bd, .dat l] m = some (.error (erR CB l), m))
theorem putD_new {kvs : List (Key × D)} {k : Key} {v : D} (h : k ∉ kvs.map (·.1)) : putD kvs k v = kvs ++ [(k, v)] := by
  unfold putD
  rw [if_neg]
  intro c
  obtain ⟨kv, h1, h2⟩ := List.any_eq_true.mp c
  exact h (List.mem_map.mpr ⟨kv, h1, of_decide_eq_true h2⟩)
theorem fDc_map {g : Sl → Rho → Option Rho} {p : Rho → Mem → Re Bool} {fk fv : Rho → Mem → Re Sl} {ρ : Rho} {m : Mem} {vf : Str → D} : ∀ {zs : List Str} {acc : List (Key × D)}, zs.Nodup → (∀ z ∈ zs, (Sum.inr z : Key) ∉ acc.map (·.1)) →
    (∀ z ∈ zs, ∃ ρ1, g (.dat (.str z)) ρ = some ρ1 ∧ p ρ1 m = some (.ok true, m) ∧ fk ρ1 m = some (.ok (.dat (.str z)), m) ∧ fv ρ1 m = some (.ok (.dat (vf z)), m)) →
    fDc g p fk fv ρ (zs.map D.str) m acc = some (acc ++ zs.map (fun z => ((Sum.inr z : Key), vf z)), m)
  | [], acc, _, _, _ => by simp [fDc]
  | z :: zs, acc, nd, hd, h => by
    obtain ⟨ρ1, e1, e2, e3, e4⟩ := h z List.mem_cons_self
    have nd2 := List.nodup_cons.mp nd
    rw [List.map_cons]
    unfold fDc
    simp only [e1, e2, e3, e4, dkey]
    rw [putD_new (hd z List.mem_cons_self), fDc_map nd2.2 (fun y hy => ?_) (fun y hy => h y (List.mem_cons_of_mem _ hy)), List.append_assoc]
    · rfl
    · rw [List.map_append, List.mem_append]
      rintro (c | c)
      · exact hd y (List.mem_cons_of_mem _ hy) c
      · simp at c
        subst c
        exact nd2.1 hy
theorem ev_dcD {g : Sl → Rho → Option Rho} {p : Rho → Mem → Re Bool} {fk fv : Rho → Mem → Re Sl} {vs : List Nat} {ρ : Rho} {m : Mem} {zs : List Str} (vf : Str → D) (hz : zs.length < sizeLine) (nd : zs.Nodup)
    (h : ∀ z ∈ zs, ∃ ρ1, g (.dat (.str z)) (wipeR ρ vs) = some ρ1 ∧ p ρ1 m = some (.ok true, m) ∧ fk ρ1 m = some (.ok (.dat (.str z)), m) ∧ fv ρ1 m = some (.ok (.dat (vf z)), m)) :
    fDcD g p fk fv vs (zs.map D.str) ρ m = some (.ok (.dat (.dic (zs.map fun z => ((Sum.inr z : Key), vf z)))), m) := by
  unfold fDcD
  rw [if_pos (by rw [List.length_map]; exact hz), fDc_map nd (fun _ _ => by simp) h]
  rfl
theorem See.set {m : Mem} {s : Sl} {d : D} {i : Nat} {C : Addr} {gs : List (Str × D)} {o : MO} (h : See m s d) (hm : m[i]? = some (.ins C gs)) : See (m.set i o) s d := by
  rcases h with rfl | ⟨j, rfl, ⟨kvs, e, rfl⟩ | ⟨xs, e, rfl⟩⟩
  · exact .inl rfl
  · have c : i ≠ j := by rintro rfl; rw [hm] at e; cases e
    exact .inr ⟨j, rfl, .inl ⟨kvs, by rw [List.getElem?_set_ne c]; exact e, rfl⟩⟩
  · have c : i ≠ j := by rintro rfl; rw [hm] at e; cases e
    exact .inr ⟨j, rfl, .inr ⟨xs, by rw [List.getElem?_set_ne c]; exact e, rfl⟩⟩
theorem ord_ev {m : Mem} {z : Str} (h : z.length < 64) {f : Rho → Mem → Re Sl} {ρ : Rho} (hf : f ρ m = some (.ok (.dat (.str z)), m)) : fJoinT (retD (.dat (.str ""))) (bindD (fCons f (retD [])) fun ss _ m => fN oSort ss m) ρ m = some (.ok (.dat (.str (ordT z))), m) := by
  have e : oSort [.str z] = some (.lst ((srt (sgns z)).map D.str)) := by
    show (if _ then _ else _ : Option D) = _
    exact if_pos h
  have h1 : ∀ s ∈ srt (sgns z), s.length = 1 := fun s hs => sgn_len (srt_mem.mp hs)
  have h2 : (srt (sgns z)).length ≤ 1000 := by rw [(srt_perm _).length_eq, sgns_len]; omega
  simp only [fNext, fSeq, fIfS, fPar, parG, fAsg, fAsgM, fSet, fPut, oPut, fRet, fAnd, fB, bindD, bindR, bindS, fCons, retD, fV, f2, f1, fN, fD, vw, vwAll, liftO, allD, gmT, gmCons, gmN, gmSub, gmNil, oGet_str, dkey, oC_int, oInt_int, oAdd_int, oSub_int, oLen_lst, oIx_lst, oTup, List.map_cons, List.map_nil, List.length_cons, List.length_nil, List.cons_append, List.nil_append, List.append_nil, List.getElem?_cons_zero, List.getElem?_cons_succ, List.replicate, List.set_cons_zero, List.set_cons_succ, List.set_set, if_true, if_false, Bool.false_eq_true, Option.map_some, Option.map_none, Nat.sub_zero, Nat.reduceSub, Nat.reduceAdd, and_true, true_and, fJoinT, isStrS, hf, e, elemsM, strsOf_map]
  rw [if_pos (join_ok h1 h2)]
  rfl
section
variable {P : Program} {w : World} {K : PySem.W.Frag} {mg : Str → Option Value} {base : Heap} {T : List (Addr × Str)} {L : List Addr}
open EV in
theorem fx_init {f aC aB aE aA CR CB : Addr} {fd fdC fdB fdE fdA : FuncData} {FB FE FA : List Sl → Mem → Re Sl} (F : FunD K "__init__" "Rule.__init__" (defArgs sInit) (defBody sInit) (defScope sInit) [.non] [] f fd) (RC : RuleC K mg L CR) (z_tuple : mg "tuple" = none) (z_sorted : mg "sorted" = none) (z_set : mg "set" = none) (TE1 : Err P w K mg base "BadRule" CB ["value"])
    (GC : FnX P w K mg base T 1 aC fdC ["value"] (pureF (oColours L))) (AC : At K mg "are_colours" aC fdC ["value"])
    (GB : FnX P w K mg base T 3 aB fdB ["beside", "colours"] FB) (AB : At K mg "check_beside" aB fdB ["beside", "colours"]) (oB : BesideOk L CB FB)
    (GE : FnX P w K mg base T 2 aE fdE ["value", "colours"] FE) (AE : At K mg "are_letters_of" aE fdE ["value", "colours"]) (oE : LettersOk L FE)
    (GA : FnX P w K mg base T 1 aA fdA ["signs"] FA) (AA : At K mg "ascending" aA fdA ["signs"]) (oA : AscOk FA) :
    ∃ F, FnX P w K mg base T 4 f fd ["self", "colours", "beside", "letters"] F ∧ InitOk L CR CB F := by
  have nd := scInit.nd
  refine ⟨_, FnX.ofD (P := P) (w := w) (mg := mg) (base := base) (T := T) (k := 3) F scInit (fun cdv A outer s H E hr => (pssx_cons (psx_if (ptx_not (ptx_val (px_call (GC.mono (by decide)) hr rfl AC.mg AC.kp AC.bd .nil (fun _ => .nil) (passE (T := T)) (pax_cons (px_v 1) pax_nil))))
(pssx_one (psx_raise (i := 1) (takes_of rfl rfl rfl rfl) rfl TE1 (hr.mono (by decide)) rfl rfl (by first | exact Or.inl rfl | exact Or.inr (Or.inl rfl) | exact Or.inr (Or.inr rfl))))
pssx_nil)
(pssx_cons (psx_expr (px_call (GB.mono (by decide)) hr rfl AB.mg AB.kp AB.bd .nil (fun _ => .nil) (passE (T := T)) (pax_cons (px_v 2) (pax_cons (px_v 1) pax_nil))))
(pssx_cons (psx_if (ptx_not (ptx_val (px_call (GE.mono (by decide)) hr rfl AE.mg AE.kp AE.bd .nil (fun _ => .nil) (passE (T := T)) (pax_cons (px_v 3) (pax_cons (px_v 1) pax_nil)))))
(pssx_one (psx_raise (i := 3) (takes_of rfl rfl rfl rfl) rfl TE1 (hr.mono (by decide)) rfl rfl (by first | exact Or.inl rfl | exact Or.inr (Or.inl rfl) | exact Or.inr (Or.inr rfl))))
pssx_nil)
(pssx_cons (psx_set (i := 4) nd rfl (Or.inr rfl) (px_ifExp (ptx_cmp op_isN od_isN (px_v 3) px_non (nomark _)) px_dnewD (px_v 3)))
(pssx_cons (psx_fld RC.cR RC.nC (px_v 0) (px_call (GA.mono (by decide)) hr rfl AA.mg AA.kp AA.bd .nil (fun _ => .nil) (passE (T := T)) (pax_cons (px_v 1) pax_nil)))
(pssx_cons (psx_fld RC.cR RC.nB (px_v 0) (px_callTy call_tuple_of cd_tuple rfl z_tuple (by decide +kernel) (pax_cons (px_callBT (cr_setK rfl) (cr_sortK rfl) cd_sortSet rfl z_sorted (by decide +kernel) rfl z_set (by decide +kernel) (pax_cons (PX.or (px_lc (own := [("pair", 6)]) rfl nd (pix_any (px_v 2)) (blkOk_by (N := ["self", "colours", "beside", "letters", "told", "letter", "pair"]) (sc := (defScope sInit)) (by decide +kernel)) (fun _ _ _ _ _ => (pgx_name (i := 6) nd rfl (Or.inl rfl))) (by decide) (fun _ _ _ _ _ => ptsx_nil) (fun _ _ _ _ _ => (px_join px_str (px_callB (cr_sortU rfl) cd_sort rfl z_sorted (by decide +kernel) (pax_cons (px_v 6) pax_nil))))) (px_lcL (j := 2) (own := [("pair", 6)]) rfl nd (pix_any (px_v 2)) (blkOk_by (N := ["self", "colours", "beside", "letters", "told", "letter", "pair"]) (sc := (defScope sInit)) (by decide +kernel)) (fun _ _ _ _ _ => (pgx_name (i := 6) nd rfl (Or.inl rfl))) (by decide) (fun _ _ _ _ _ => ptsx_nil) (fun _ _ _ _ _ => (px_join px_str (px_callB (cr_sortU rfl) cd_sort rfl z_sorted (by decide +kernel) (pax_cons (px_v 6) pax_nil)))))) pax_nil)) pax_nil)))
(pssx_one (psx_fld RC.cR RC.nL (px_v 0) (px_dc (own := [("letter", 5)]) rfl nd (pix_any (px_callB (cr_sortU rfl) cd_sort rfl z_sorted (by decide +kernel) (pax_cons (px_v 4) pax_nil))) (blkOk_by (N := ["self", "colours", "beside", "letters", "told", "letter", "pair"]) (sc := (defScope sInit)) (by decide +kernel)) (fun _ _ _ _ _ => (pgx_name (i := 5) nd rfl (Or.inl rfl))) (by decide) (fun _ _ _ _ _ => ptsx_nil) (fun _ _ _ _ _ => (px_v 5)) (fun _ _ _ _ _ => (px_call (GA.mono (by decide)) hr rfl AA.mg AA.kp AA.bd .nil (fun _ => .nil) L2.passL (pax_cons (px_get (hu_of hr) (px_v 4) (px_v 5)) pax_nil))))))))))))), ?_, ?_, ?_, ?_, ?_⟩
  · intro m i h sb bd ps sl signs hi g hs ht he hl
    have lenh := colours_len g.c
    have hil : i < m.length := (List.getElem?_eq_some_iff.mp hi).1
    have p1 : pureF (oColours L) [.dat (.str h)] m = some (.ok (.dat (.bl true)), m) := g.c ▸ pure_ok (ds := [.str h]) (if_pos ⟨rfl, small_str (by omega)⟩)
    have fnd : (ps.map D.str).find? (fun x => !pairB h x) = none := List.find?_eq_none.mpr fun x hx => by
      obtain ⟨p, hp, rfl⟩ := List.mem_map.mp hx
      rw [g.p p hp]; simp
    have p2 := oB.2 m sb bd h _ hs ht he fun x hx => by
      obtain ⟨p, hp, rfl⟩ := List.mem_map.mp hx
      exact ⟨rfl, small_str (by have := pair_len (g.p p hp); omega)⟩
    unfold besideR at p2
    rw [fnd] at p2
    obtain ⟨st, hst, hst2⟩ : ∃ st, See m st (.dic (sgD signs)) ∧ (fIf (fB (bindD (fV 3) fun s => bindD (retD (.dat .non)) fun t _ m => f2 (oIsN false) s t m)) (retD (.dat (.dic []))) (fV 3)) [some (.opq i), some (.dat (.str h)), some sb, some sl, none, none, none] m = some (.ok st, m) := by
      rcases hl with hl | ⟨rfl, rfl⟩
      · refine ⟨sl, hl, ?_⟩
        simp only [fNext, fSeq, fIfS, fPar, parG, fAsg, fAsgM, fSet, fPut, oPut, fRet, fAnd, fB, bindD, bindR, bindS, fCons, retD, fV, f2, f1, fN, fD, vwAll, liftO, allD, gmT, gmCons, gmN, gmSub, gmNil, oGet_str, dkey, oC_int, oInt_int, oAdd_int, oSub_int, oLen_lst, oIx_lst, oTup, List.map_cons, List.map_nil, List.length_cons, List.length_nil, List.cons_append, List.nil_append, List.append_nil, List.getElem?_cons_zero, List.getElem?_cons_succ, List.replicate, List.set_cons_zero, List.set_cons_succ, List.set_set, if_true, if_false, Bool.false_eq_true, Option.map_some, Option.map_none, Nat.sub_zero, Nat.reduceSub, Nat.reduceAdd, and_true, true_and, vw_dat, fAndV, fOrV, fBV, fNot, fOr, fIf, fCall, fDo, fIf, hl.vw, isNon_eq, Pu.isNon]
      · refine ⟨.dat (.dic []), .inl rfl, ?_⟩
        simp only [fNext, fSeq, fIfS, fPar, parG, fAsg, fAsgM, fSet, fPut, oPut, fRet, fAnd, fB, bindD, bindR, bindS, fCons, retD, fV, f2, f1, fN, fD, vwAll, liftO, allD, gmT, gmCons, gmN, gmSub, gmNil, oGet_str, dkey, oC_int, oInt_int, oAdd_int, oSub_int, oLen_lst, oIx_lst, oTup, List.map_cons, List.map_nil, List.length_cons, List.length_nil, List.cons_append, List.nil_append, List.append_nil, List.getElem?_cons_zero, List.getElem?_cons_succ, List.replicate, List.set_cons_zero, List.set_cons_succ, List.set_set, if_true, if_false, Bool.false_eq_true, Option.map_some, Option.map_none, Nat.sub_zero, Nat.reduceSub, Nat.reduceAdd, and_true, true_and, vw_dat, fAndV, fOrV, fBV, fNot, fOr, fIf, fCall, fDo, fIf, isNon_eq, Pu.isNon]
    have p3 : FE [sl, .dat (.str h)] m = some (.ok (.dat (.bl true)), m) := by
      rcases hl with hl | ⟨rfl, rfl⟩
      · rw [oE m sl _ h hl rfl fun kvs e => by cases e; exact okKv_sg g.ln g.lv, g.l]
      · exact oE m (.dat .non) .non h (.inl rfl) rfl fun kvs e => by cases e
    obtain ⟨m1, hm1⟩ : ∃ m1, m1 = m.set i (.ins CR [("colours", .str (ascT h))]) := ⟨_, rfl⟩
    obtain ⟨m2, hm2⟩ : ∃ m2, m2 = m.set i (.ins CR [("colours", .str (ascT h)), ("beside", .tup ((besS ps).map D.str))]) := ⟨_, rfl⟩
    refine val_runM ?_
    simp only [List.map_cons, List.map_nil, List.length_cons, List.length_nil, Nat.reduceAdd, Nat.reduceSub, List.replicate, List.cons_append, List.nil_append]
    refine ws_seq (ws_if (wr_eq (y := false) (m2 := m) (by simp only [fNext, fSeq, fIfS, fPar, parG, fAsg, fAsgM, fSet, fPut, oPut, fRet, fAnd, fB, bindD, bindR, bindS, fCons, retD, fV, f2, f1, fN, fD, vw, vwAll, liftO, allD, gmT, gmCons, gmN, gmSub, gmNil, oGet_str, dkey, oC_int, oInt_int, oAdd_int, oSub_int, oLen_lst, oIx_lst, oTup, List.map_cons, List.map_nil, List.length_cons, List.length_nil, List.cons_append, List.nil_append, List.append_nil, List.getElem?_cons_zero, List.getElem?_cons_succ, List.replicate, List.set_cons_zero, List.set_cons_succ, List.set_set, if_true, if_false, Bool.false_eq_true, Option.map_some, Option.map_none, Nat.sub_zero, Nat.reduceSub, Nat.reduceAdd, and_true, true_and, fCall, fNot, p1, Bool.not_true]) ?_))
    rw [if_neg Bool.false_ne_true]
    refine ws_next (sq_nx ?_)
    refine ws_seqN (ρ2 := [some (.opq i), some (.dat (.str h)), some sb, some sl, none, none, none]) (m2 := m) (by simp only [fNext, fSeq, fIfS, fPar, parG, fAsg, fAsgM, fSet, fPut, oPut, fRet, fAnd, fB, bindD, bindR, bindS, fCons, retD, fV, f2, f1, fN, fD, vwAll, liftO, allD, gmT, gmCons, gmN, gmSub, gmNil, oGet_str, dkey, oC_int, oInt_int, oAdd_int, oSub_int, oLen_lst, oIx_lst, oTup, List.map_cons, List.map_nil, List.length_cons, List.length_nil, List.cons_append, List.nil_append, List.append_nil, List.getElem?_cons_zero, List.getElem?_cons_succ, List.replicate, List.set_cons_zero, List.set_cons_succ, List.set_set, if_true, if_false, Bool.false_eq_true, Option.map_some, Option.map_none, Nat.sub_zero, Nat.reduceSub, Nat.reduceAdd, and_true, true_and, vw_dat, fAndV, fOrV, fBV, fNot, fOr, fIf, fCall, fDo, fCall, fDo, p2, Except.map]) ?_
    refine ws_seq (ws_if (wr_eq (y := false) (m2 := m) (by simp only [fNext, fSeq, fIfS, fPar, parG, fAsg, fAsgM, fSet, fPut, oPut, fRet, fAnd, fB, bindD, bindR, bindS, fCons, retD, fV, f2, f1, fN, fD, vwAll, liftO, allD, gmT, gmCons, gmN, gmSub, gmNil, oGet_str, dkey, oC_int, oInt_int, oAdd_int, oSub_int, oLen_lst, oIx_lst, oTup, List.map_cons, List.map_nil, List.length_cons, List.length_nil, List.cons_append, List.nil_append, List.append_nil, List.getElem?_cons_zero, List.getElem?_cons_succ, List.replicate, List.set_cons_zero, List.set_cons_succ, List.set_set, if_true, if_false, Bool.false_eq_true, Option.map_some, Option.map_none, Nat.sub_zero, Nat.reduceSub, Nat.reduceAdd, and_true, true_and, vw_dat, fAndV, fOrV, fBV, fNot, fOr, fIf, fCall, fDo, fCall, fNot, p3, Bool.not_true]) ?_))
    rw [if_neg Bool.false_ne_true]
    refine ws_next (sq_nx ?_)
    refine ws_seqN (ρ2 := [some (.opq i), some (.dat (.str h)), some sb, some sl, some st, none, none]) (m2 := m) (ev_set hst2) ?_
    have hi1 : m1[i]? = some (.ins CR [("colours", .str (ascT h))]) := by rw [hm1]; exact List.getElem?_set_self hil
    have hi2 : m2[i]? = some (.ins CR [("colours", .str (ascT h)), ("beside", .tup ((besS ps).map D.str))]) := by rw [hm2]; exact List.getElem?_set_self hil
    have hs1 : See m1 sb bd := by rw [hm1]; exact hs.set hi
    have ht2 : See m2 st (.dic (sgD signs)) := by rw [hm2]; exact hst.set hi
    have m21 : m2 = m1.set i (.ins CR (putFD "beside" (.tup ((besS ps).map D.str)) [("colours", .str (ascT h))])) := by rw [hm1, hm2, pfB, List.set_set]
    refine ws_seqN (ρ2 := [some (.opq i), some (.dat (.str h)), some sb, some sl, some st, none, none]) (m2 := m1) (hm1 ▸ ev_fld (d := .str (ascT h)) (by simp only [fNext, fSeq, fIfS, fPar, parG, fAsg, fAsgM, fSet, fPut, oPut, fRet, fAnd, fB, bindD, bindR, bindS, fCons, retD, fV, f2, f1, fN, fD, vw, vwAll, liftO, allD, gmT, gmCons, gmN, gmSub, gmNil, oGet_str, dkey, oC_int, oInt_int, oAdd_int, oSub_int, oLen_lst, oIx_lst, oTup, List.map_cons, List.map_nil, List.length_cons, List.length_nil, List.cons_append, List.nil_append, List.append_nil, List.getElem?_cons_zero, List.getElem?_cons_succ, List.replicate, List.set_cons_zero, List.set_cons_succ, List.set_set, if_true, if_false, Bool.false_eq_true, Option.map_some, Option.map_none, Nat.sub_zero, Nat.reduceSub, Nat.reduceAdd, and_true, true_and, fCall, oA m h (by omega)]) rfl hi (by show 0 < 1000; decide)) ?_
    have lcB : ∀ (ρ : Rho) (m0 : Mem) (D2 : D), ρ.length = 7 → ρ[2]? = some (some (.dat D2)) → itA D2 = some (ps.map D.str) →
        fLcE (fIterA (fV 2)) (gN 6) pYes (fJoinT (retD (.dat (.str ""))) (bindD (fCons (fV 6) (retD [])) fun ss _ m => fN oSort ss m)) [6] ρ m0 = some (.ok (.dat (.lst ((ps.map ordT).map D.str))), m0) := fun ρ m0 D2 h7 h2 hD => by
      unfold fLcE
      have e0 : fIterA (fV 2) ρ m0 = some (.ok (ps.map D.str), m0) := by
        unfold fIterA
        refine (ev_bind (x := .dat D2) (m2 := m0) (by unfold fV; rw [h2])).trans ?_
        dsimp only
        rw [hD]
      rw [ev_bind e0]
      refine (ev_lcD (fun d => match d with | .str z => .str (ordT z) | _ => .non) (by rw [List.length_map]; have := g.pl; have := sizeLine_eq; omega) fun x hx => ?_).trans ?_
      · obtain ⟨p, hp, rfl⟩ := List.mem_map.mp hx
        refine ⟨_, rfl, rfl, ?_⟩
        refine ord_ev (z := p) (by have := pair_len (g.p p hp); omega) ?_
        unfold fV
        have : ((ρ.set 6 none).set 6 (some (Sl.dat (D.str p))))[6]? = some (some (.dat (.str p))) := List.getElem?_set_self (by rw [List.length_set]; omega)
        show (match ((ρ.set 6 none).set 6 (some (Sl.dat (D.str p))))[6]? with | some (some s) => _ | _ => none) = _
        rw [this]
      · rw [List.map_map, List.map_map]
        rfl
    have itB : itA bd = some (ps.map D.str) := itA_el he
    refine ws_seqN (ρ2 := [some (.opq i), some (.dat (.str h)), some sb, some sl, some st, none, none]) (m2 := m2) (m21 ▸ ev_fld (d := .tup ((besS ps).map D.str)) (ev_call1 (ev_call1 (d := .lst ((ps.map ordT).map D.str)) ?_ (c := .lst ((besS ps).map D.str)) ?_) rfl) rfl hi1 (by show 1 < 1000; decide)) ?_
    · rcases hs1 with rfl | ⟨j, rfl, ⟨kvs, e, rfl⟩ | ⟨xs, e, rfl⟩⟩
      · exact orR_1 (lcB _ m1 bd rfl rfl itB)
      · cases he
      · cases he
        refine (orR_2 (by rfl)).trans ?_
        have ht3 : thingD m1 j = some (.frl (ps.map D.str)) := by unfold thingD; rw [e]; dsimp only; rw [allD_map]; rfl
        show (match thingD m1 j with | some d => _ | none => none) = _
        rw [ht3]
        dsimp only
        have e5 : (frzL j (.frl (ps.map D.str)) [some (.opq i), some (.dat (.str h)), some (.opq j), some sl, some st, none, none])[2]? = some (some (.dat (.frl (ps.map D.str)))) := by
          show some (frzS j _ (some (.opq j))) = _
          unfold frzS
          simp only [if_true]
        rw [lcB _ [] (.frl (ps.map D.str)) (by unfold frzL; rw [List.length_map]; rfl) e5 rfl]
        dsimp only
        rw [if_pos]
        rw [List.map_map, List.all_map]
        exact List.all_eq_true.mpr fun _ _ => rfl
    · have e : (inSet (.lst ((ps.map ordT).map D.str))).bind inrs = some (ps.map ordT) := by
        show (keysD _).bind inrs = _
        rw [keysD_strs]
        exact inrs_map _
      show (match (inSet (.lst ((ps.map ordT).map D.str))).bind inrs with | some zs => if zs.length < 64 then some (D.lst ((srt (onceS zs)).map D.str)) else none | none => none) = _
      rw [e]
      dsimp only
      rw [if_pos (by rw [List.length_map]; exact g.pl)]
      rfl
    have fin : m.set i (.ins CR (ruleF h ps signs)) = m2.set i (.ins CR (putFD "letters" (.dic (letS signs)) [("colours", .str (ascT h)), ("beside", .tup ((besS ps).map D.str))])) := by
      rw [hm2, pfL, List.set_set]
      rfl
    rw [fin]
    refine ⟨_, _, ev_fld (d := .dic (letS signs)) ?_ rfl hi2 (by show 2 < 1000; decide), ⟨_, rfl⟩, rfl, by rw [List.length_set, hm2, List.length_set]⟩
    have so : oSort [.dic (sgD signs)] = some (.lst ((srt (signs.map (·.1))).map D.str)) := by
      show (match inrs ((sgD signs).map (·.1)) with | some zs => if zs.length < 64 then some (D.lst ((srt zs).map D.str)) else none | none => none) = _
      rw [inrs_sg]
      dsimp only
      rw [if_pos (by rw [List.length_map]; exact g.ln)]
    unfold fDcE
    refine (ev_bind (x := (srt (signs.map (·.1))).map D.str) (m2 := m2) ?_).trans ?_
    · unfold fIterA
      refine (ev_bind (ev_callV (s := st) rfl ht2.vw so)).trans ?_
      rfl
    · refine ev_dcD (fun z => .str (ascT (valS signs z))) (by rw [(srt_perm _).length_eq, List.length_map]; have := g.ln; have := sizeLine_eq; omega) ((srt_perm _).nodup_iff.mpr g.nd) fun z hz => ?_
      have hz2 := srt_mem.mp hz
      obtain ⟨q, hq, hq2⟩ := List.mem_map.mp hz2
      have hl64 : (valS signs z).length < 64 := by
        unfold valS
        cases hf : signs.find? fun (q2 : Str × Str) => decide (q2.1 = z) with
        | some q2 => exact (g.lv q2 (List.mem_of_find?_eq_some hf)).2
        | none => show 0 < 64; decide
      have og : oGet (.dic (sgD signs)) (.str z) = some (.str (valS signs z)) := valD_sg hz2
      refine ⟨_, rfl, rfl, rfl, ?_⟩
      simp only [fNext, fSeq, fIfS, fPar, parG, fAsg, fAsgM, fSet, fPut, oPut, fRet, fAnd, fB, bindD, bindR, bindS, fCons, retD, fV, f2, f1, fN, fD, vwAll, liftO, allD, gmT, gmCons, gmN, gmSub, gmNil, oGet_str, dkey, oC_int, oInt_int, oAdd_int, oSub_int, oLen_lst, oIx_lst, oTup, List.map_cons, List.map_nil, List.length_cons, List.length_nil, List.cons_append, List.nil_append, List.append_nil, List.getElem?_cons_zero, List.getElem?_cons_succ, List.replicate, List.set_cons_zero, List.set_cons_succ, List.set_set, if_true, if_false, Bool.false_eq_true, Option.map_some, Option.map_none, Nat.sub_zero, Nat.reduceSub, Nat.reduceAdd, and_true, true_and, vw_dat, fAndV, fOrV, fBV, fNot, fOr, fIf, fCall, fDo, wipeR, gN, fCall, ht2.vw, og, oA m2 _ hl64]
  · intro m i d sb sl hd hc
    have p1 : pureF (oColours L) [.dat d] m = some (.ok (.dat (.bl false)), m) := hc ▸ pure_ok (ds := [d]) (if_pos hd)
    unfold runF
    simp only [fNext, fSeq, fIfS, fPar, parG, fAsg, fAsgM, fSet, fPut, oPut, fRet, fAnd, fB, bindD, bindR, bindS, fCons, retD, fV, f2, f1, fN, fD, vw, vwAll, liftO, allD, gmT, gmCons, gmN, gmSub, gmNil, oGet_str, dkey, oC_int, oInt_int, oAdd_int, oSub_int, oLen_lst, oIx_lst, oTup, List.map_cons, List.map_nil, List.length_cons, List.length_nil, List.cons_append, List.nil_append, List.append_nil, List.getElem?_cons_zero, List.getElem?_cons_succ, List.replicate, List.set_cons_zero, List.set_cons_succ, List.set_set, if_true, if_false, Bool.false_eq_true, Option.map_some, Option.map_none, Nat.sub_zero, Nat.reduceSub, Nat.reduceAdd, and_true, true_and, fCall, fNot, p1, Bool.not_false, fEr, trim_same, erR]
  · intro m i h bd sl hc ht hn
    have p1 : pureF (oColours L) [.dat (.str h)] m = some (.ok (.dat (.bl true)), m) := hc ▸ pure_ok (ds := [.str h]) (if_pos ⟨rfl, small_str (by have := colours_len hc; omega)⟩)
    have p2 := oB.1 m bd h ht hn
    unfold runF
    simp only [fNext, fSeq, fIfS, fPar, parG, fAsg, fAsgM, fSet, fPut, oPut, fRet, fAnd, fB, bindD, bindR, bindS, fCons, retD, fV, f2, f1, fN, fD, vw, vwAll, liftO, allD, gmT, gmCons, gmN, gmSub, gmNil, oGet_str, dkey, oC_int, oInt_int, oAdd_int, oSub_int, oLen_lst, oIx_lst, oTup, List.map_cons, List.map_nil, List.length_cons, List.length_nil, List.cons_append, List.nil_append, List.append_nil, List.getElem?_cons_zero, List.getElem?_cons_succ, List.replicate, List.set_cons_zero, List.set_cons_succ, List.set_set, if_true, if_false, Bool.false_eq_true, Option.map_some, Option.map_none, Nat.sub_zero, Nat.reduceSub, Nat.reduceAdd, and_true, true_and, fCall, fNot, p1, Bool.not_true, fDo, p2, trim_same]
  · intro m i h bd xs sl x hc ht he hx hf
    have p1 : pureF (oColours L) [.dat (.str h)] m = some (.ok (.dat (.bl true)), m) := hc ▸ pure_ok (ds := [.str h]) (if_pos ⟨rfl, small_str (by have := colours_len hc; omega)⟩)
    have p2 := oB.2 m (.dat bd) bd h xs (.inl rfl) ht he hx
    unfold besideR at p2
    rw [hf] at p2
    unfold runF
    simp only [fNext, fSeq, fIfS, fPar, parG, fAsg, fAsgM, fSet, fPut, oPut, fRet, fAnd, fB, bindD, bindR, bindS, fCons, retD, fV, f2, f1, fN, fD, vw, vwAll, liftO, allD, gmT, gmCons, gmN, gmSub, gmNil, oGet_str, dkey, oC_int, oInt_int, oAdd_int, oSub_int, oLen_lst, oIx_lst, oTup, List.map_cons, List.map_nil, List.length_cons, List.length_nil, List.cons_append, List.nil_append, List.append_nil, List.getElem?_cons_zero, List.getElem?_cons_succ, List.replicate, List.set_cons_zero, List.set_cons_succ, List.set_set, if_true, if_false, Bool.false_eq_true, Option.map_some, Option.map_none, Nat.sub_zero, Nat.reduceSub, Nat.reduceAdd, and_true, true_and, fCall, fNot, p1, Bool.not_true, fDo, p2, Except.map, trim_same]
  · intro m i h bd ps l hc ht he hp tl hk hb
    have p1 : pureF (oColours L) [.dat (.str h)] m = some (.ok (.dat (.bl true)), m) := hc ▸ pure_ok (ds := [.str h]) (if_pos ⟨rfl, small_str (by have := colours_len hc; omega)⟩)
    have fnd : (ps.map D.str).find? (fun x => !pairB h x) = none := List.find?_eq_none.mpr fun x hx => by
      obtain ⟨p, hp', rfl⟩ := List.mem_map.mp hx
      rw [hp p hp']; simp
    have p2 := oB.2 m (.dat bd) bd h _ (.inl rfl) ht he fun x hx => by
      obtain ⟨p, hp', rfl⟩ := List.mem_map.mp hx
      exact ⟨rfl, small_str (by have := pair_len (hp p hp'); omega)⟩
    unfold besideR at p2
    rw [fnd] at p2
    have p3 := oE m (.dat l) l h (.inl rfl) tl hk
    rw [hb] at p3
    unfold runF
    simp only [fNext, fSeq, fIfS, fPar, parG, fAsg, fAsgM, fSet, fPut, oPut, fRet, fAnd, fB, bindD, bindR, bindS, fCons, retD, fV, f2, f1, fN, fD, vw, vwAll, liftO, allD, gmT, gmCons, gmN, gmSub, gmNil, oGet_str, dkey, oC_int, oInt_int, oAdd_int, oSub_int, oLen_lst, oIx_lst, oTup, List.map_cons, List.map_nil, List.length_cons, List.length_nil, List.cons_append, List.nil_append, List.append_nil, List.getElem?_cons_zero, List.getElem?_cons_succ, List.replicate, List.set_cons_zero, List.set_cons_succ, List.set_set, if_true, if_false, Bool.false_eq_true, Option.map_some, Option.map_none, Nat.sub_zero, Nat.reduceSub, Nat.reduceAdd, and_true, true_and, fCall, fNot, p1, Bool.not_true, fDo, p2, Except.map, p3, Bool.not_false, fEr, trim_same, erR]
/-! __eq__ -/
def isC (C : Addr) : D → Bool
  | .ins C' _ => decide (C' = C)
  | _ => false
theorem isi_own {d : D} {C : Addr} (h : (tag L d).isSome = true) (hC : C ∈ L) : oIsi L [d, .fn C] = some (.bl (isC C d)) := by
  cases d <;> simp [oIsi, tag, tyOf', isT, isC, hC] at h ⊢
  simp [h, hC]
theorem nCB : (("beside" : Str) == "colours") = false := by decide +kernel
theorem nCL : (("letters" : Str) == "colours") = false := by decide +kernel
theorem nBL : (("letters" : Str) == "beside") = false := by decide +kernel
theorem lkC {h : Str} {ps : List Str} {sg : List (Str × Str)} : List.lookup ("colours" : Str) (ruleF h ps sg) = some (.str (ascT h)) := by
  unfold ruleF
  rw [List.lookup_cons, beq_self_eq_true]
theorem lkB {h : Str} {ps : List Str} {sg : List (Str × Str)} : List.lookup ("beside" : Str) (ruleF h ps sg) = some (.tup ((besS ps).map D.str)) := by
  unfold ruleF
  rw [List.lookup_cons, nCB, List.lookup_cons, beq_self_eq_true]
theorem lkL {h : Str} {ps : List Str} {sg : List (Str × Str)} : List.lookup ("letters" : Str) (ruleF h ps sg) = some (.dic (letS sg)) := by
  unfold ruleF
  rw [List.lookup_cons, nCL, List.lookup_cons, nBL, List.lookup_cons, beq_self_eq_true]
theorem flat_let {sg : List (Str × Str)} : flatKv (letS sg) = true := by
  unfold flatKv letS
  rw [List.all_map]
  exact List.all_eq_true.mpr fun _ _ => rfl
def eqB (h : Str) (ps : List Str) (sg : List (Str × Str)) (h2 : Str) (ps2 : List Str) (sg2 : List (Str × Str)) : Bool := decide (ascT h = ascT h2) && (decide (besS ps = besS ps2) && eqKv (letS sg) (letS sg2))
def EqOk (L : List Addr) (CR : Addr) (F : List Sl → Mem → Re Sl) : Prop := (∀ m h ps sg h2 ps2 sg2, F [.dat (.ins CR (ruleF h ps sg)), .dat (.ins CR (ruleF h2 ps2 sg2))] m = some (.ok (.dat (.bl (eqB h ps sg h2 ps2 sg2))), m)) ∧
  ∀ m h ps sg d, (tag L d).isSome = true → isC CR d = false → F [.dat (.ins CR (ruleF h ps sg)), .dat d] m = some (.ok (.dat (.bl false)), m)
theorem fx_eq {f CR : Addr} {fd : FuncData} (F : Fun K "__eq__" "Rule.__eq__" sEq f fd) (RC : RuleC K mg L CR) (z_isinstance : mg "isinstance" = none) : ∃ F, FnX P w K mg base T 1 f fd ["self", "other"] F ∧ EqOk L CR F := by
  have nd := scEq.nd
  have OW := RC.ow
  refine ⟨_, FnX.of (P := P) (w := w) (mg := mg) (base := base) (T := T) (k := 0) F scEq (fun cdv A outer s H E hr => (pssx_cons (psx_if (PWX.pt (pwx_or (ptx_not (ptx_val (px_callB call_isiU (cd_isi OW) rfl z_isinstance (by decide +kernel) (pax_cons (px_v 1) (pax_cons (px_glob (v := .ref CR) rfl RC.mR rfl (fun _ => .fn CR)) pax_nil))))) (pwx_or1 (ptx_cmp (op_neA hr.units) od_neA (px_attr RC.cR RC.nC (px_v 0)) (px_attr RC.cR RC.nC (px_v 1)) (nomark _)))))
(pssx_one (psx_ret px_bl))
pssx_nil)
(pssx_one (psx_ret (px_and (px_cmp (op_eqA hr.units) od_eqA (px_attr RC.cR RC.nB (px_v 0)) (px_attr RC.cR RC.nB (px_v 1)) (nomark _)) (px_one (px_cmp (op_eqA hr.units) od_eqA (px_attr RC.cR RC.nL (px_v 0)) (px_attr RC.cR RC.nL (px_v 1)) (nomark _)))))))), ?_, ?_⟩
  · intro m h ps sg h2 ps2 sg2
    have ti : (tag L (.ins CR (ruleF h2 ps2 sg2))).isSome = true := by
      show (if CR ∈ L then some (Sum.inr CR) else none : Option (String ⊕ Addr)).isSome = true
      rw [if_pos RC.iR]
      rfl
    have c1 : isC CR (.ins CR (ruleF h2 ps2 sg2)) = true := decide_eq_true rfl
    unfold runF
    simp only [fNext, fSeq, fIfS, fPar, parG, fAsg, fAsgM, fSet, fPut, oPut, fRet, fAnd, fB, bindD, bindR, bindS, fCons, retD, fV, f2, f1, fN, fD, vw, vwAll, liftO, allD, gmT, gmCons, gmN, gmSub, gmNil, oGet_str, dkey, oC_int, oInt_int, oAdd_int, oSub_int, oLen_lst, oIx_lst, oTup, List.map_cons, List.map_nil, List.length_cons, List.length_nil, List.cons_append, List.nil_append, List.append_nil, List.getElem?_cons_zero, List.getElem?_cons_succ, List.replicate, List.set_cons_zero, List.set_cons_succ, List.set_set, if_true, if_false, Bool.false_eq_true, Option.map_some, Option.map_none, Nat.sub_zero, Nat.reduceSub, Nat.reduceAdd, and_true, true_and, fOr, fNot, isi_own ti RC.iR, c1, Bool.not_true, fAttr, lkC, oNeA_str, eqB]
    by_cases e1 : ascT h = ascT h2
    · simp only [fNext, fSeq, fIfS, fPar, parG, fAsg, fAsgM, fSet, fPut, oPut, fRet, fAnd, fB, bindD, bindR, bindS, fCons, retD, fV, f2, f1, fN, fD, vw, vwAll, liftO, allD, gmT, gmCons, gmN, gmSub, gmNil, oGet_str, dkey, oC_int, oInt_int, oAdd_int, oSub_int, oLen_lst, oIx_lst, oTup, List.map_cons, List.map_nil, List.length_cons, List.length_nil, List.cons_append, List.nil_append, List.append_nil, List.getElem?_cons_zero, List.getElem?_cons_succ, List.replicate, List.set_cons_zero, List.set_cons_succ, List.set_set, if_true, if_false, Bool.false_eq_true, Option.map_some, Option.map_none, Nat.sub_zero, Nat.reduceSub, Nat.reduceAdd, and_true, true_and, fAndV, decide_eq_true e1, Bool.not_true, fAttr, lkB, oEqA_tstrs, Bool.true_and]
      by_cases e2 : besS ps = besS ps2
      · simp only [fNext, fSeq, fIfS, fPar, parG, fAsg, fAsgM, fSet, fPut, oPut, fRet, fAnd, fB, bindD, bindR, bindS, fCons, retD, fV, f2, f1, fN, fD, vw, vwAll, liftO, allD, gmT, gmCons, gmN, gmSub, gmNil, oGet_str, dkey, oC_int, oInt_int, oAdd_int, oSub_int, oLen_lst, oIx_lst, oTup, List.map_cons, List.map_nil, List.length_cons, List.length_nil, List.cons_append, List.nil_append, List.append_nil, List.getElem?_cons_zero, List.getElem?_cons_succ, List.replicate, List.set_cons_zero, List.set_cons_succ, List.set_set, if_true, if_false, Bool.false_eq_true, Option.map_some, Option.map_none, Nat.sub_zero, Nat.reduceSub, Nat.reduceAdd, and_true, true_and, fAttr, decide_eq_true e2, lkL, oEqA_dic flat_let flat_let, Bool.true_and, trim_same]
      · simp only [fNext, fSeq, fIfS, fPar, parG, fAsg, fAsgM, fSet, fPut, oPut, fRet, fAnd, fB, bindD, bindR, bindS, fCons, retD, fV, f2, f1, fN, fD, vw, vwAll, liftO, allD, gmT, gmCons, gmN, gmSub, gmNil, oGet_str, dkey, oC_int, oInt_int, oAdd_int, oSub_int, oLen_lst, oIx_lst, oTup, List.map_cons, List.map_nil, List.length_cons, List.length_nil, List.cons_append, List.nil_append, List.append_nil, List.getElem?_cons_zero, List.getElem?_cons_succ, List.replicate, List.set_cons_zero, List.set_cons_succ, List.set_set, if_true, if_false, Bool.false_eq_true, Option.map_some, Option.map_none, Nat.sub_zero, Nat.reduceSub, Nat.reduceAdd, and_true, true_and, decide_eq_false e2, Bool.false_and, trim_same]
    · simp only [fNext, fSeq, fIfS, fPar, parG, fAsg, fAsgM, fSet, fPut, oPut, fRet, fAnd, fB, bindD, bindR, bindS, fCons, retD, fV, f2, f1, fN, fD, vw, vwAll, liftO, allD, gmT, gmCons, gmN, gmSub, gmNil, oGet_str, dkey, oC_int, oInt_int, oAdd_int, oSub_int, oLen_lst, oIx_lst, oTup, List.map_cons, List.map_nil, List.length_cons, List.length_nil, List.cons_append, List.nil_append, List.append_nil, List.getElem?_cons_zero, List.getElem?_cons_succ, List.replicate, List.set_cons_zero, List.set_cons_succ, List.set_set, if_true, if_false, Bool.false_eq_true, Option.map_some, Option.map_none, Nat.sub_zero, Nat.reduceSub, Nat.reduceAdd, and_true, true_and, decide_eq_false e1, Bool.not_false, Bool.false_and, trim_same]
  · intro m h ps sg d ht hc
    unfold runF
    simp only [fNext, fSeq, fIfS, fPar, parG, fAsg, fAsgM, fSet, fPut, oPut, fRet, fAnd, fB, bindD, bindR, bindS, fCons, retD, fV, f2, f1, fN, fD, vw, vwAll, liftO, allD, gmT, gmCons, gmN, gmSub, gmNil, oGet_str, dkey, oC_int, oInt_int, oAdd_int, oSub_int, oLen_lst, oIx_lst, oTup, List.map_cons, List.map_nil, List.length_cons, List.length_nil, List.cons_append, List.nil_append, List.append_nil, List.getElem?_cons_zero, List.getElem?_cons_succ, List.replicate, List.set_cons_zero, List.set_cons_succ, List.set_set, if_true, if_false, Bool.false_eq_true, Option.map_some, Option.map_none, Nat.sub_zero, Nat.reduceSub, Nat.reduceAdd, and_true, true_and, fOr, fNot, isi_own ht RC.iR, hc, Bool.not_false, trim_same]
end
end K58
namespace K58
open PySem PySem.Spec PyProof.Rows L2 Pu SeK
open LamX (Tabs)
/-- a pen -/
def PenO (o : MO) (n : Nat) : Prop := ∃ ns a r, o = .dic (pen ns a r) ∧ ns.length ≤ 63 ∧ 0 ≤ a ∧ a ≤ (n : Int)
theorem PenO.more {o : MO} {n k : Nat} (h : PenO o n) (l : n ≤ k) : PenO o k := by
  obtain ⟨ns, a, r, e, h2, h3, h4⟩ := h
  exact ⟨ns, a, r, e, h2, h3, by omega⟩
theorem PenO.ok {o : MO} {n : Nat} (h : PenO o n) : okMO 0 o = true := by obtain ⟨ns, a, r, rfl, _⟩ := h; rfl
theorem PenO.at {o : MO} {n : Nat} (h : PenO o n) {m : Mem} {i : Nat} {ls : List MO} (hi : i < m.length) : PenAt (LM m i o ls) i n := by
  obtain ⟨ns, a, r, rfl, z⟩ := h
  exact ⟨ns, a, r, LM.tape hi, z⟩
theorem lm_back {m m2 : Mem} {i n : Nat} {o : MO} {ls : List MO} (hi : i < m.length) (p : PenAt m2 i n) (q : PenBut i (LM m i o ls) m2) : ∃ o', m2 = LM m i o' ls ∧ PenO o' n := by
  obtain ⟨o', rfl, _⟩ := q
  rw [LM.setT hi] at p ⊢
  obtain ⟨ns, a, r, e, z⟩ := p
  rw [LM.tape hi] at e
  cases e
  exact ⟨_, rfl, ns, a, r, rfl, z⟩
theorem DrawOk.lm {F : List Sl → Mem → Re Sl} {m : Mem} {i n : Nat} {o : MO} {ls : List MO} (h : DrawOk F) (hi : i < m.length) (t : PenO o n) (hn : n ≤ 1000000) {L : Int} (l0 : 0 < L) (l9 : L ≤ 1000000) : ∃ (d : Int) (o' : MO), F [.opq i, .dat (.int L)] (LM m i o ls) = some (.ok (.dat (.int d)), LM m i o' ls) ∧ 0 ≤ d ∧ d < L ∧ PenO o' (n + 1) := by
  obtain ⟨d, m2, e, a, b, p, q⟩ := h _ i n L (t.at hi) hn l0 l9
  obtain ⟨o', rfl, t'⟩ := lm_back hi p q
  exact ⟨d, o', e, a, b, t'⟩
section
variable {P : Program} {w : World} {K : PySem.W.Frag} {mg : Str → Option Value} {base : Heap} {T : List (Addr × Str)} {L : List Addr}
abbrev sPick : Stmt := top 20
abbrev sShuf : Stmt := top 21
theorem scPick : FnScope ["_law_pen", "_law_some"] ["_law_pen", "_law_some"] (defScope sPick) := ⟨rfl, rfl, rfl, by decide +kernel, rfl, by decide +kernel, by decide +kernel⟩
theorem scShuf : FnScope ["_law_pen", "_law_some", "_law_left", "_law_found"] ["_law_pen", "_law_some"] (defScope sShuf) := ⟨rfl, rfl, rfl, by decide +kernel, rfl, by decide +kernel, by decide +kernel⟩
def PickOk (F : List Sl → Mem → Re Sl) : Prop := ∀ (m : Mem) (i n : Nat) (o : MO) (ls : List MO) (xs : List D), i < m.length → PenO o n → n ≤ 1000000 → 0 < xs.length → xs.length ≤ 1000 → ∃ (x : D) (o' : MO), F [.opq i, .dat (.lst xs)] (LM m i o ls) = some (.ok (.dat x), LM m i o' ls) ∧ x ∈ xs ∧ PenO o' (n + 1)
theorem lm_tr {m : Mem} {i : Nat} {o o' : MO} {ls : List MO} (x : Except Er Sl) : trim (LM m i o ls).length x (LM m i o' ls) = some (x, LM m i o' ls) := by
  unfold trim
  rw [if_pos (by rw [LM.len, LM.len])]
theorem fx_pick {f aD : Addr} {fd fdD : FuncData} {FD : List Sl → Mem → Re Sl} (F : Fun K "_law_pick" "_law_pick" sPick f fd) (z_len : mg "len" = none) (GD : FnX P w K mg base T 1 aD fdD psPS FD) (AD : At K mg "_law_draw" aD fdD psPS) (oD : DrawOk FD) : ∃ F, FnX P w K mg base T 2 f fd ["_law_pen", "_law_some"] F ∧ PickOk F := by
  have nd := scPick.nd
  refine ⟨_, FnX.of (P := P) (w := w) (mg := mg) (base := base) (T := T) (k := 1) F scPick (fun cdv A outer s H E hr => (pssx_one (psx_ret (px_ix (px_v 1) (px_call (GD.mono (by decide)) hr rfl AD.mg AD.kp AD.bd .nil (fun _ => .nil) (passE (T := T)) (pax_cons (px_v 0) (pax_cons (px_callB call_lenU cd_len rfl z_len (by decide +kernel) (pax_cons (px_v 1) pax_nil)) pax_nil))))))), ?_⟩
  intro m i n o ls xs hi hp hn h0 h9
  obtain ⟨d, o', e, d0, d9, hp'⟩ := oD.lm (ls := ls) hi hp hn (L := (xs.length : Int)) (by omega) (by omega)
  obtain ⟨x, hx⟩ : ∃ x, xs[d.toNat]? = some x := ⟨_, List.getElem?_eq_getElem (by omega)⟩
  have hat : L2.atI xs d = some x := by
    have z := L2.atI_nat (xs := xs) (j := d.toNat) hx
    rwa [Int.toNat_of_nonneg d0] at z
  refine ⟨x, o', ?_, List.mem_of_getElem? hx, hp'⟩
  unfold runF
  simp only [fNext, fSeq, fIfS, fPar, parG, fAsg, fAsgM, fSet, fPut, oPut, fRet, fAnd, fB, bindD, bindR, bindS, fCons, retD, fV, f2, f1, fN, fD, vw, vwAll, liftO, allD, gmT, gmCons, gmN, gmSub, gmNil, oGet_str, dkey, oC_int, oInt_int, oAdd_int, oSub_int, oLen_lst, oIx_lst, oTup, List.map_cons, List.map_nil, List.length_cons, List.length_nil, List.cons_append, List.nil_append, List.append_nil, List.getElem?_cons_zero, List.getElem?_cons_succ, List.replicate, List.set_cons_zero, List.set_cons_succ, List.set_set, if_true, if_false, Bool.false_eq_true, Option.map_some, Option.map_none, Nat.sub_zero, Nat.reduceSub, Nat.reduceAdd, and_true, true_and, fCall, e, hat, lm_tr]
/-! shuffled -/
abbrev sl (xs : List Str) : List Sl := xs.map fun z => .dat (.str z)
theorem allD_sl (xs : List Str) : allD (sl xs) = some (xs.map D.str) := by
  have e : sl xs = (xs.map D.str).map Sl.dat := by rw [List.map_map]; rfl
  rw [e, allD_map]
def ShufOk (F : List Sl → Mem → Re Sl) : Prop := ∀ (m : Mem) (i n : Nat) (o : MO) (ls : List MO) (xs : List Str) (s : Sl), i < m.length → PenO o n → n ≤ 900000 → AllOk (LM m i o ls) → (s = .dat (.lst (xs.map D.str)) ∨ ∃ z, s = .dat (.str z) ∧ xs = sgns z) → xs.length ≤ 100 →
  ∃ (ys : List Str) (o' : MO), F [.opq i, s] (LM m i o ls) = some (.ok (.dat (.lst (ys.map D.str))), LM m i o' ls) ∧ ys.Perm xs ∧ PenO o' (n + xs.length)
theorem fWh_step {p : Rho → Mem → Re Bool} {b : Rho → Mem → RS} {n : Nat} {ρ ρ2 : Rho} {m m1 m2 : Mem} (hp : p ρ m = some (.ok true, m1)) (hb : b ρ m1 = some (.nx ρ2, m2)) : fWh p b (n + 1) ρ m = fWh p b n ρ2 m2 := by
  simp only [fWh, hp, bindS_ok, if_true, hb]
theorem dat_run {gg : Rho → Mem → RS} {n : Nat} {ss : List Sl} {m m' m2 : Mem} {d : D} (h : gg (ss.map some ++ List.replicate (n - ss.length) none) m = some (.rt (.dat d), m')) (ht : trim m.length (.ok (.dat d)) m' = some (.ok (.dat d), m2)) : runF gg n ss m = some (.ok (.dat d), m2) := by
  unfold runF
  rw [h]
  exact ht
theorem map_erase {α β : Type} (f : α → β) : ∀ (l : List α) (k : Nat), (l.map f).eraseIdx k = (l.eraseIdx k).map f
  | [], _ => rfl
  | _ :: _, 0 => rfl
  | x :: l, k + 1 => by
    show f x :: (l.map f).eraseIdx k = f x :: (l.eraseIdx k).map f
    rw [map_erase f l k]
theorem perm_erase {α : Type} : ∀ {l : List α} {k : Nat} (h : k < l.length), (l[k] :: l.eraseIdx k).Perm l
  | x :: l, 0, _ => List.Perm.refl _
  | x :: l, k + 1, h => by
    have h' : k < l.length := by simpa using h
    exact (List.Perm.swap x l[k] (l.eraseIdx k)).trans ((perm_erase h').cons x)
theorem neA_nil {xs : List Str} : oNeA (.lst (xs.map D.str)) (.lst []) = some (.bl (!decide (xs = []))) := oNeA_strs (ys := [])
theorem shuf_turn {FD : List Sl → Mem → Re Sl} (oD : DrawOk FD) {m : Mem} {i : Nat} {s : Sl} (hi : i < m.length) {ls : List MO} {a : Nat} (ha : a = ls.length) : ∀ (N : Nat) {xs ys : List Str} {o : MO} {n : Nat}, xs.length = N → N ≤ 100 → ys.length + N ≤ 100 → PenO o n → n + N ≤ 1000000 →
    ∃ (zs : List Str) (o' : MO), fWh (fB (bindD (fV 2) fun s => bindD (bindD (retD []) fun ss _ m => fD oLst ss m) fun t _ m => f2 oNeA s t m)) (fDo (fAppend (fV 3) (fPopAt (fV 2) (fCall FD [] (fCons (fV 0) (fCons (bindD (fCons (fV 2) (retD [])) fun ss _ m => fN oLen ss m) (retD []))))))) (N + 1) [some (.opq i), some s, some (.opq (m.length + a)), some (.opq (m.length + (a + 1)))] (LM m i o (ls ++ [.lst (sl xs), .lst (sl ys)])) =
        some (.nx [some (.opq i), some s, some (.opq (m.length + a)), some (.opq (m.length + (a + 1)))], LM m i o' (ls ++ [.lst [], .lst (sl zs)])) ∧ zs.Perm (ys ++ xs) ∧ PenO o' (n + N) := by
  have gA : ∀ (o : MO) (X Y : MO), (LM m i o (ls ++ [X, Y]))[m.length + a]? = some X := fun o X Y => by
    rw [LM.get, ha, List.getElem?_append_right (Nat.le_refl _), Nat.sub_self]; rfl
  have gB : ∀ (o : MO) (X Y : MO), (LM m i o (ls ++ [X, Y]))[m.length + (a + 1)]? = some Y := fun o X Y => by
    rw [LM.get, ha, List.getElem?_append_right (by omega), show ls.length + 1 - ls.length = 1 by omega]; rfl
  have sA : ∀ (o : MO) (X Y Z : MO), (LM m i o (ls ++ [X, Y])).set (m.length + a) Z = LM m i o (ls ++ [Z, Y]) := fun o X Y Z => by
    rw [LM.set, ha, List.set_append_right _ _ (Nat.le_refl _), Nat.sub_self]; rfl
  have sB : ∀ (o : MO) (X Y Z : MO), (LM m i o (ls ++ [X, Y])).set (m.length + (a + 1)) Z = LM m i o (ls ++ [X, Z]) := fun o X Y Z => by
    rw [LM.set, ha, List.set_append_right _ _ (by omega), show ls.length + 1 - ls.length = 1 by omega]; rfl
  intro N
  induction N with
  | zero =>
    intro xs ys o n hx _ hy hp hn
    have : xs = [] := List.length_eq_zero_iff.mp hx
    subst this
    refine ⟨ys, o, ?_, by simp, hp⟩
    have e0 : oLst [] = some (.lst []) := rfl
    have e1 : oNeA (.lst []) (.lst []) = some (.bl false) := neq_nil0
    unfold fWh
    simp only [fNext, fSeq, fIfS, fPar, parG, fAsg, fAsgM, fSet, fPut, oPut, fRet, fAnd, fB, bindD, bindR, bindS, fCons, retD, fV, f2, f1, fN, fD, vw, vwAll, liftO, allD, gmT, gmCons, gmN, gmSub, gmNil, oGet_str, dkey, oC_int, oInt_int, oAdd_int, oSub_int, oLen_lst, oIx_lst, oTup, List.map_cons, List.map_nil, List.length_cons, List.length_nil, List.cons_append, List.nil_append, List.append_nil, List.getElem?_cons_zero, List.getElem?_cons_succ, List.replicate, List.set_cons_zero, List.set_cons_succ, List.set_set, if_true, if_false, Bool.false_eq_true, Option.map_some, Option.map_none, Nat.sub_zero, Nat.reduceSub, Nat.reduceAdd, and_true, true_and, gA, allD_sl, sl, e0, e1]
  | succ N ih =>
    intro xs ys o n hx h9 hy hp hn
    have hne : xs ≠ [] := by rintro rfl; simp at hx
    obtain ⟨d, o1, e, d0, d9, hp1⟩ := oD.lm (ls := ls ++ [.lst (sl xs), .lst (sl ys)]) hi hp (by omega) (L := (xs.length : Int)) (by omega) (by omega)
    obtain ⟨k, rfl⟩ : ∃ k : Nat, d = (k : Int) := ⟨d.toNat, by omega⟩
    have hk : k < xs.length := by omega
    have hx1 : (xs.eraseIdx k).length = N := by rw [List.length_eraseIdx]; rw [if_pos hk]; omega
    obtain ⟨zs, o2, e2, pz, hp2⟩ := ih (xs := xs.eraseIdx k) (ys := ys ++ [xs[k]]) (o := o1) (n := n + 1) hx1 (by omega) (by rw [List.length_append]; simp; omega) hp1 (by omega)
    refine ⟨zs, o2, ?_, ?_, hp2.more (by omega)⟩
    · have e0 : oLst [] = some (.lst []) := rfl
      have hsz := sizeLine_eq
      have c1 : (0 : Int) ≤ (k : Int) ∧ (sl xs).length ≤ sizeLine := ⟨by omega, by rw [List.length_map]; omega⟩
      have c2 : (sl xs)[((k : Nat) : Int).toNat]? = some (.dat (.str xs[k])) := by rw [Int.toNat_natCast, List.getElem?_map, List.getElem?_eq_getElem hk]; rfl
      have c3 : (sl ys).length < sizeLine := by rw [List.length_map]; omega
      have c4 : (sl xs).eraseIdx ((k : Nat) : Int).toNat = sl (xs.eraseIdx k) := by rw [Int.toNat_natCast]; exact map_erase _ _ _
      have c5 : sl ys ++ [Sl.dat (.str xs[k])] = sl (ys ++ [xs[k]]) := by show _ = List.map _ _; rw [List.map_append]; rfl
      have e3 : oLen [.lst (xs.map D.str)] = some (.int xs.length) := by show some (D.int _) = _; rw [List.length_map]
      have l1 : ∀ o X Y, isLst (LM m i o (ls ++ [.lst X, Y])) (.opq (m.length + a)) = true := fun o X Y => by unfold isLst; simp only [gA]
      have l2 : ∀ o X Y, isLst (LM m i o (ls ++ [X, .lst Y])) (.opq (m.length + (a + 1))) = true := fun o X Y => by unfold isLst; simp only [gB]
      refine (fWh_step (m1 := LM m i o (ls ++ [.lst (sl xs), .lst (sl ys)])) (ρ2 := [some (.opq i), some s, some (.opq (m.length + a)), some (.opq (m.length + (a + 1)))]) (m2 := LM m i o1 (ls ++ [.lst (sl (xs.eraseIdx k)), .lst (sl (ys ++ [xs[k]]))])) ?_ ?_).trans e2
      · simp only [fNext, fSeq, fIfS, fPar, parG, fAsg, fAsgM, fSet, fPut, oPut, fRet, fAnd, fB, bindD, bindR, bindS, fCons, retD, fV, f2, f1, fN, fD, vw, vwAll, liftO, allD, gmT, gmCons, gmN, gmSub, gmNil, oGet_str, dkey, oC_int, oInt_int, oAdd_int, oSub_int, oLen_lst, oIx_lst, oTup, List.map_cons, List.map_nil, List.length_cons, List.length_nil, List.cons_append, List.nil_append, List.append_nil, List.getElem?_cons_zero, List.getElem?_cons_succ, List.replicate, List.set_cons_zero, List.set_cons_succ, List.set_set, if_true, if_false, Bool.false_eq_true, Option.map_some, Option.map_none, Nat.sub_zero, Nat.reduceSub, Nat.reduceAdd, and_true, true_and, gA, allD_sl, e0, neA_nil, decide_eq_false hne, Bool.not_false]
      · have hd : fCall FD [] (fCons (fV 0) (fCons (bindD (fCons (fV 2) (retD [])) fun ss _ m => fN oLen ss m) (retD []))) [some (.opq i), some s, some (.opq (m.length + a)), some (.opq (m.length + (a + 1)))] (LM m i o (ls ++ [.lst (sl xs), .lst (sl ys)])) = some (.ok (.dat (.int (k : Int))), LM m i o1 (ls ++ [.lst (sl xs), .lst (sl ys)])) := by
          simp only [fNext, fSeq, fIfS, fPar, parG, fAsg, fAsgM, fSet, fPut, oPut, fRet, fAnd, fB, bindD, bindR, bindS, fCons, retD, fV, f2, f1, fN, fD, vw, vwAll, liftO, allD, gmT, gmCons, gmN, gmSub, gmNil, oGet_str, dkey, oC_int, oInt_int, oAdd_int, oSub_int, oLen_lst, oIx_lst, oTup, List.map_cons, List.map_nil, List.length_cons, List.length_nil, List.cons_append, List.nil_append, List.append_nil, List.getElem?_cons_zero, List.getElem?_cons_succ, List.replicate, List.set_cons_zero, List.set_cons_succ, List.set_set, if_true, if_false, Bool.false_eq_true, Option.map_some, Option.map_none, Nat.sub_zero, Nat.reduceSub, Nat.reduceAdd, and_true, true_and, fCall, gA, allD_sl, e3, e]
        have hpop : fPopAt (fV 2) (fCall FD [] (fCons (fV 0) (fCons (bindD (fCons (fV 2) (retD [])) fun ss _ m => fN oLen ss m) (retD [])))) [some (.opq i), some s, some (.opq (m.length + a)), some (.opq (m.length + (a + 1)))] (LM m i o (ls ++ [.lst (sl xs), .lst (sl ys)])) = some (.ok (.dat (.str xs[k])), LM m i o1 (ls ++ [.lst (sl (xs.eraseIdx k)), .lst (sl ys)])) := by
          unfold fPopAt
          refine (ev_bind (x := .opq (m.length + a)) rfl).trans ?_
          rw [if_pos (l1 _ _ _), hd]
          show oPopAt (.opq (m.length + a)) (.dat (.int (k : Int))) _ = _
          unfold oPopAt
          dsimp only
          rw [gA]
          dsimp only
          rw [if_pos c1, c2]
          dsimp only
          rw [sA, c4]
        have happ : fAppend (fV 3) (fPopAt (fV 2) (fCall FD [] (fCons (fV 0) (fCons (bindD (fCons (fV 2) (retD [])) fun ss _ m => fN oLen ss m) (retD []))))) [some (.opq i), some s, some (.opq (m.length + a)), some (.opq (m.length + (a + 1)))] (LM m i o (ls ++ [.lst (sl xs), .lst (sl ys)])) = some (.ok (.dat .non), LM m i o1 (ls ++ [.lst (sl (xs.eraseIdx k)), .lst (sl (ys ++ [xs[k]]))])) := by
          unfold fAppend
          refine (ev_bind (x := .opq (m.length + (a + 1))) rfl).trans ?_
          rw [if_pos (l2 _ _ _), hpop]
          show oAppend (.opq (m.length + (a + 1))) (.dat (.str xs[k])) _ = _
          unfold oAppend
          dsimp only
          rw [gB]
          dsimp only
          rw [if_pos c3, sB, c5]
        unfold fDo
        rw [happ]
        rfl
    · refine pz.trans ?_
      rw [List.append_assoc]
      exact List.Perm.append_left _ (perm_erase hk)
theorem fx_shuf {f aD : Addr} {fd fdD : FuncData} {FD : List Sl → Mem → Re Sl} (F : Fun K "_law_shuffled" "_law_shuffled" sShuf f fd) (z_len : mg "len" = none) (z_list : mg "list" = none) (GD : FnX P w K mg base T 1 aD fdD psPS FD) (AD : At K mg "_law_draw" aD fdD psPS) (oD : DrawOk FD) : ∃ F, FnX P w K mg base T 2 f fd ["_law_pen", "_law_some"] F ∧ ShufOk F := by
  have nd := scShuf.nd
  refine ⟨_, FnX.of (P := P) (w := w) (mg := mg) (base := base) (T := T) (k := 1) F scShuf (fun cdv A outer s H E hr => (pssx_cons (psx_par (i := 2) (j := 3) rfl nd rfl rfl (by decide) rfl rfl (pax_cons (PX.or (px_listM rfl z_list (by decide +kernel) (pax_cons (px_v 1) pax_nil)) (px_listMS rfl rfl z_list (by decide +kernel) (pax_cons (px_v 1) pax_nil))) (pax_cons (px_lstM pax_nil) pax_nil)) (by rfl))
(pssx_cons (psx_while (passes_of rfl) (ptx_cmp (op_neA hr.units) od_neA (px_v 2) (px_lst pax_nil) (nomark _))
(pssx_one (psx_expr (px_append (px_v 3) (px_popAt (px_v 2) (px_call (GD.mono (by decide)) hr rfl AD.mg AD.kp AD.bd .nil (fun _ => .nil) (passE (T := T)) (pax_cons (px_v 0) (pax_cons (px_callB call_lenU cd_len rfl z_len (by decide +kernel) (pax_cons (px_v 2) pax_nil)) pax_nil))))))))
(pssx_one (psx_ret (px_fz (px_v 3))))))), ?_⟩
  intro m i n o ls xs s hi hp hn hA hs hx
  obtain ⟨zs, o', e, pz, hp'⟩ := shuf_turn oD (s := s) hi (ls := ls) rfl xs.length (xs := xs) (ys := []) (o := o) (n := n) rfl hx (by simpa using hx) hp (by omega)
  refine ⟨zs, o', ?_, by simpa using pz, hp'⟩
  have hN : ∀ o, (LM m i o ls).length = m.length + ls.length := fun o => LM.len
  have hN1 : ∀ o X, (LM m i o (ls ++ [X])).length = m.length + (ls.length + 1) := fun o X => by rw [LM.len, List.length_append]; rfl
  refine dat_run (m' := LM m i o' (ls ++ [.lst [], .fz (.lst (zs.map D.str))])) ?_ (trimLM hA hp'.ok)
  show fSeq _ _ [some (.opq i), some s, none, none] _ = _
  refine (ev_seq (ρ2 := [some (.opq i), some s, some (.opq (m.length + ls.length)), some (.opq (m.length + (ls.length + 1)))]) (m2 := LM m i o (ls ++ [.lst (sl xs), .lst []])) ?_).trans ?_
  · have hl : ∀ (A B : Rho → Mem → Re Sl), (orR A B) [some (.opq i), some s, none, none] (LM m i o ls) = some (.ok (.opq (m.length + ls.length)), LM m i o (ls ++ [.lst (sl xs)])) → fPar 2 3 (fCons (orR A B) (fCons (fLstM (retD [])) (retD []))) [some (.opq i), some s, none, none] (LM m i o ls) = some (.nx [some (.opq i), some s, some (.opq (m.length + ls.length)), some (.opq (m.length + (ls.length + 1)))], LM m i o (ls ++ [.lst (sl xs), .lst []])) := fun A B h => by
      unfold fPar
      have e2 : fCons (orR A B) (fCons (fLstM (retD [])) (retD [])) [some (.opq i), some s, none, none] (LM m i o ls) = some (.ok [.opq (m.length + ls.length), .opq (m.length + (ls.length + 1))], LM m i o (ls ++ [.lst (sl xs), .lst []])) := by
        unfold fCons
        refine (ev_bind h).trans ?_
        simp only [fNext, fSeq, fIfS, fPar, parG, fAsg, fAsgM, fSet, fPut, oPut, fRet, fAnd, fB, bindD, bindR, bindS, fCons, retD, fV, f2, f1, fN, fD, vw, vwAll, liftO, allD, gmT, gmCons, gmN, gmSub, gmNil, oGet_str, dkey, oC_int, oInt_int, oAdd_int, oSub_int, oLen_lst, oIx_lst, oTup, List.map_cons, List.map_nil, List.length_cons, List.length_nil, List.cons_append, List.nil_append, List.append_nil, List.getElem?_cons_zero, List.getElem?_cons_succ, List.replicate, List.set_cons_zero, List.set_cons_succ, List.set_set, if_true, if_false, Bool.false_eq_true, Option.map_some, Option.map_none, Nat.sub_zero, Nat.reduceSub, Nat.reduceAdd, and_true, true_and, fLstM, List.length_nil, Nat.zero_le, hN1, LM.app, List.append_assoc]
      rw [e2]
      rfl
    refine hl _ _ ?_
    rcases hs with rfl | ⟨z, rfl, rfl⟩
    · refine orR_1 ?_
      simp only [fNext, fSeq, fIfS, fPar, parG, fAsg, fAsgM, fSet, fPut, oPut, fRet, fAnd, fB, bindD, bindR, bindS, fCons, retD, fV, f2, f1, fN, fD, vw, vwAll, liftO, allD, gmT, gmCons, gmN, gmSub, gmNil, oGet_str, dkey, oC_int, oInt_int, oAdd_int, oSub_int, oLen_lst, oIx_lst, oTup, List.map_cons, List.map_nil, List.length_cons, List.length_nil, List.cons_append, List.nil_append, List.append_nil, List.getElem?_cons_zero, List.getElem?_cons_succ, List.replicate, List.set_cons_zero, List.set_cons_succ, List.set_set, if_true, if_false, Bool.false_eq_true, Option.map_some, Option.map_none, Nat.sub_zero, Nat.reduceSub, Nat.reduceAdd, and_true, true_and, fListM, elemsM, hN, LM.app, List.map_map]
      rfl
    · refine (orR_2 ?_).trans ?_
      · simp only [fNext, fSeq, fIfS, fPar, parG, fAsg, fAsgM, fSet, fPut, oPut, fRet, fAnd, fB, bindD, bindR, bindS, fCons, retD, fV, f2, f1, fN, fD, vw, vwAll, liftO, allD, gmT, gmCons, gmN, gmSub, gmNil, oGet_str, dkey, oC_int, oInt_int, oAdd_int, oSub_int, oLen_lst, oIx_lst, oTup, List.map_cons, List.map_nil, List.length_cons, List.length_nil, List.cons_append, List.nil_append, List.append_nil, List.getElem?_cons_zero, List.getElem?_cons_succ, List.replicate, List.set_cons_zero, List.set_cons_succ, List.set_set, if_true, if_false, Bool.false_eq_true, Option.map_some, Option.map_none, Nat.sub_zero, Nat.reduceSub, Nat.reduceAdd, and_true, true_and, fListM, elemsM]
      · have hz : z.cps.size ≤ sizeLine := by
          have := sizeLine_eq
          rw [sgns_len] at hx
          have : z.length = z.cps.size := rfl
          omega
        simp only [fNext, fSeq, fIfS, fPar, parG, fAsg, fAsgM, fSet, fPut, oPut, fRet, fAnd, fB, bindD, bindR, bindS, fCons, retD, fV, f2, f1, fN, fD, vw, vwAll, liftO, allD, gmT, gmCons, gmN, gmSub, gmNil, oGet_str, dkey, oC_int, oInt_int, oAdd_int, oSub_int, oLen_lst, oIx_lst, oTup, List.map_cons, List.map_nil, List.length_cons, List.length_nil, List.cons_append, List.nil_append, List.append_nil, List.getElem?_cons_zero, List.getElem?_cons_succ, List.replicate, List.set_cons_zero, List.set_cons_succ, List.set_set, if_true, if_false, Bool.false_eq_true, Option.map_some, Option.map_none, Nat.sub_zero, Nat.reduceSub, Nat.reduceAdd, and_true, true_and, hz, hN, LM.app]
  · refine (ev_seq (fWhile_of e)).trans ?_
    have gB : (LM m i o' (ls ++ [.lst [], .lst (sl zs)]))[m.length + (ls.length + 1)]? = some (.lst (sl zs)) := by
      rw [LM.get, List.getElem?_append_right (by omega), show ls.length + 1 - ls.length = 1 by omega]; rfl
    refine ev_ret ?_
    refine (ev_bind (x := .opq (m.length + (ls.length + 1))) (m2 := LM m i o' (ls ++ [.lst [], .lst (sl zs)])) rfl).trans ?_
    unfold oFz
    dsimp only
    rw [gB]
    dsimp only
    rw [allD_sl]
    dsimp only
    rw [LM.set, List.set_append_right _ _ (by omega), show ls.length + 1 - ls.length = 1 by omega]
    rfl
end
end K58
namespace K58
open PySem PySem.Spec PyProof.Rows L2 Pu SeK EV TryN
open LamX (Tabs ExtN GivesTo CodeO TabB LamS lamEnv lamCx tLam)
open K23 (rIsP call_isP)
abbrev sRef : Stmt := top 22
abbrev nmRef : List Str := ["_law_call", "e"]
theorem scRef : FnScope nmRef ["_law_call"] (defScope sRef) := ⟨rfl, rfl, rfl, by decide +kernel, rfl, by decide +kernel, by decide +kernel⟩
/-- the classes that the clause names -/
structure RefF (K : PySem.W.Frag) (mg : Str → Option Value) (CB CW : Addr) : Prop where
  gB : mg "BadRule" = some (.ref CB)
  gW : mg "WebError" = some (.ref CW)
  gV : mg "ValueError" = none
  xBB : PySem.W.exmOne K (.ref CB) (.ref CB) = some true
  eB : ExcC K CB
  fB : XfC K CB
  nB : PySem.W.findIn K (.ref CB) "value" = some none
  iBW : PySem.W.kitOne K (.ref CB) (.ref CW) = some true
  iBV : PySem.W.kitOne K (.ref CB) (.type "ValueError") = some true
def eRef (CB : Addr) (Q : VK) : XK := fun cls d H => ∃ dd fs, d = some dd ∧ H dd = some (.xd fs) ∧ cls = .ref CB ∧ ∃ v, fs.lookup ("value" : Str) = some v ∧ ∀ T : Addr, H T = none → Q (.ref T) (upd H T (.lst [v]))
theorem takes_len {X : Cx} {W : WX} {k : Nat} (hk : X.N.length = k) (t : Takes X W) : Takes X (fun c d σ H => σ.length = k → W c d σ H) := fun u s2 ⟨a, B, sI, pins, σ, H, cls, d, e, I, nb, up, sky, na, os, ag, w⟩ =>
  t u s2 ⟨a, B, sI, pins, σ, H, cls, d, e, I, nb, up, sky, na, os, ag, w (I.len.trans hk)⟩
def TRef (CB : Addr) : (XK → Hp → VK → Prop) → Hp → VK → Prop := fun tl H Q => tl (eRef CB Q) H (fun _ H1 => 0 ≤ sizeLine ∧ ∀ T : Addr, H1 T = none → Q (.ref T) (upd H1 T (.lst [])))
section
variable {X : Cx} {CB CW g : Addr} {cdg : Value} {q : Str}
theorem refused_gives (R : RefF X.K X.mg CB CW) (zI : X.mg "isinstance" = none) : GivesTo X nmRef "_law_refused" (defScope sRef) g cdg (defBody sRef) "_law_call" q (TRef CB) := by
  intro f c' s H Q tl act hc h
  have nd := scRef.nd
  have bx : bootBuiltins "isinstance" = some (.builtin "isinstance") := by decide +kernel
  have bv : bootBuiltins "ValueError" = some (.type "ValueError") := by decide +kernel
  refine ⟨_, (pss_cons (ps_tryN (i := 1) (n := "e") rfl rfl nd rfl rfl LamX.takes0
      (tb := fun W D σ H => ∃ Ech : XK, (∀ cls d σ' H', Ech cls d H' → σ'.length = 2 → W cls d σ' H') ∧ σ[0]? = some (some (.ref f)) ∧ H c' = some (CodeO c' q) ∧ tl Ech H (fun _ H1 => D.nx σ H1))
      (fun W pn xe tk _ => ?_)
      (Cls.cons (k := .ref CB) ⟨rfl, by decide, .inl R.gB⟩ (fun a oe cls d pp hz hf => (pss_one (ps_ret (pe_ifExp (PW.pt (pw_and (pt_val (pe_callB (r := rIsP X.K a cls d) (call_isP hz hf) (by rfl) zI bx (pa_cons (pv 1) (pa_cons (pe_glob (v := .ref CW) rfl R.gW rfl) pa_nil))))
        (pw_and1 (pt_val (pe_callB (r := rIsP X.K a cls d) (call_isP hz hf) (by rfl) zI bx (pa_cons (pv 1) (pa_cons (pe_bltn (v := .ty "ValueError") rfl R.gV bv rfl) pa_nil))))))) (pe_lst (pa_cons (pe_xf R.fB R.nB hz hf (pv 1)) pa_nil)) (pe_lst (pa_cons pe_str pa_nil)))))) .nil))
    (pss_one (ps_ret (pe_lst pa_nil)))), ?_⟩
  · refine ⟨fun pins s2 σ H2 D I hyp => ?_⟩
    obtain ⟨Ech, hW, h1, h2, h3⟩ := hyp
    have hq := pss_one (ps_expr (pos := { line := 85, col := 8, endLine := 85, endCol := 19 }) (act _ pn xe Ech { line := 85, col := 8, endLine := 85, endCol := 17 } { line := 85, col := 8, endLine := 85, endCol := 19 } (takes_len (k := 2) rfl tk) hW))
    exact hq.run pins s2 σ H2 D I ⟨h1, h2, h3⟩
  · refine ⟨eRef CB Q, ?_, rfl, hc, ?_⟩
    · rintro cls d σ2 G ⟨dd, fs, rfl, hdd, rfl, v, hl, kk⟩ hlen
      obtain ⟨x0, x1, rfl⟩ : ∃ x0 x1, σ2 = [x0, x1] := by
        match σ2, hlen with
        | [x0, x1], _ => exact ⟨x0, x1, rfl⟩
      refine ⟨true, R.xBB, fun _ a ha => ?_, fun z => nomatch z⟩
      refine ⟨_, rfl, CB, dd, fs, _, _, true, rfl, rfl, rfl, hdd, R.eB, .own CW, R.iBW, true, rfl, ?_⟩
      refine ⟨_, rfl, CB, dd, fs, _, _, true, rfl, rfl, rfl, hdd, R.eB, .ty "ValueError", R.iBV, true, rfl, ?_⟩
      exact ⟨_, rfl, rfl, rfl, dd, fs, v, rfl, hdd, hl, by show 1 ≤ sizeLine; decide, kk⟩
    · exact h
end
/-- what _law_refused gives of what the lambda gives -/
noncomputable def refR (CB : Addr) : Except Er Sl → Option D
  | .ok _ => some (.lst [])
  | .error e => match e.fs with
    | none => none
    | some gs => if e.C = CB then (gs.lookup ("value" : Str)).map fun d => .lst [d] else none
theorem lamR_ref {K : PySem.W.Frag} {T : List (Addr × Str)} {CB : Addr} : LamR K T (TRef CB) (refR CB) := by
  intro r d H0 H am m' Q tl hr gl htl
  refine htl _ _ ?_
  cases r with
  | ok s =>
    cases hr
    exact fun v H1 H' am' ex mo q => ⟨Nat.zero_le _, fun T0 hT => by
      have nw2 := Nw.alloc mo.sub (o := .lst []) hT
      exact gl _ _ _ am' (ex.trans nw2.ex) (mo.nw nw2) (.dat (.lst upd_same .nil))⟩
  | error e =>
    obtain ⟨C, efs⟩ := e
    cases efs with
    | none => cases hr
    | some gs =>
      intro H1 H' am' ex mo x H2 H'' fs nw hn hx q
      have mo2 := mo.nw nw
      have ex2 := ex.trans (nw.ex (am := am'))
      have hr : (if C = CB then (gs.lookup ("value" : Str)).map fun d => D.lst [d] else none) = some d := hr
      by_cases hC : C = CB
      · rw [if_pos hC] at hr
        cases hl : gs.lookup ("value" : Str) with
        | none => rw [hl] at hr; cases hr
        | some d0 =>
          rw [hl] at hr
          cases hr
          obtain ⟨v, e1, q1⟩ := q.look hl
          refine ⟨x, fs, rfl, hx, by rw [hC], v, e1, fun T0 hT => ?_⟩
          have nw2 := Nw.alloc nw.sub (o := .lst [v]) hT
          exact gl _ _ _ am' (ex2.trans nw2.ex) (mo2.nw nw2) (.dat (.lst upd_same (.cons (q1.same nw2.s0) .nil)))
      · rw [if_neg hC] at hr
        cases hr
/-- _law_refused(lambda: ..) -/
theorem px_refused {X : Cx} {T : List (Addr × Str)} {E : XK} {CB CW g c P : Addr} {fd : FuncData} {k : Nat} {params : Arguments} {body : Expr} {scope : Scope} {f : Rho → Mem → Re Sl} {p lpos pos : Pos} (Fr : Fun X.K "_law_refused" "_law_refused" sRef g fd) (Ar : At X.K X.mg "_law_refused" g fd ["_law_call"])
    (R : RefF X.K X.mg CB CW) (zI : X.mg "isinstance" = none) (hg : Gl X "_law_refused") (TB : TabB X.base X.mg c P) (hcode : X.env.code = .ref c) (hm : (P, X.env.qual ++ "<lambda>") ∈ T)
    (hu : ∀ p ∈ T, p.1 = P → p.2 = X.env.qual ++ "<lambda>") (hr : Room (k + 2) X.A) (L : LamS X.env.scope scope) (hdef : defaultsOf params X.env = ([], []))
    (hbind : ∀ (q : Str) (cl : List (Str × Addr)) (pm cv ctv : Value), bindArgs (PySem.W.kla_fn "<lambda>" q params body scope cl pm cv ctv) ⟨[], []⟩ = pure [])
    (hbody : ∀ (A : Around) (outer : List Env) (s : Shared) (H : Hp) (E : XK) (f0 c' : Addr), Room k (A.deeper (lamEnv X scope s.heap.objs.size f0 c')) → PX (lamCx X A outer s H E scope f0 c') T E body f) :
    PX X T E (.Call (.Name "_law_refused" p) [.Lambda params body scope lpos] [] pos) (fLam (refR CB) f) := by
  obtain ⟨oc, od, kV, doc, pm, an, cdv, ct, osl, rfl, lk, hcd⟩ := Fr.ex
  exact px_lam lamR_ref (LamX.pe_lamcall hg Ar.mg Ar.kp lk hcd Ar.bd scRef rfl (Or.inl rfl) (refused_gives R zI) TB hcode hm hu hr L hdef hbind fun A outer s H E f0 c' hr2 => (hbody A outer s H E f0 c' hr2).can)
end K58
namespace K58
open PySem PySem.Spec PyProof.Rows L2 Pu SeK
open LamX (Tabs)
/-! ### list comprehensions over texts, dicts from their pairs -/
theorem ev_lcS {it : Rho → Mem → Re (List D)} {g : Sl → Rho → Option Rho} {p : Rho → Mem → Re Bool} {f : Rho → Mem → Re Sl} {vs : List Nat} {ρ : Rho} {m : Mem} {zs : List Str} (h : Str → D) (hit : it ρ m = some (.ok (zs.map D.str), m)) (hz : zs.length < sizeLine)
    (hd : ∀ z ∈ zs, ∃ ρ1, g (.dat (.str z)) (wipeR ρ vs) = some ρ1 ∧ p ρ1 m = some (.ok true, m) ∧ f ρ1 m = some (.ok (.dat (h z)), m)) : fLcE it g p f vs ρ m = some (.ok (.dat (.lst (zs.map h))), m) := by
  unfold fLcE
  rw [ev_bind hit]
  refine (ev_lcD (fun d => match d with | .str z => h z | _ => .non) (by rw [List.length_map]; exact hz) fun x hx => ?_).trans ?_
  · obtain ⟨z, hz, rfl⟩ := List.mem_map.mp hx
    exact hd z hz
  · rw [List.map_map]
    rfl
theorem pairsD_map {α : Type} (k : α → Str) (v : α → D) : ∀ (zs : List α), pairsD (zs.map fun z => .tup [.str (k z), v z]) = some (zs.map fun z => ((Sum.inr (k z) : Key), v z))
  | [] => rfl
  | z :: zs => by
    show (match dkey (.str (k z)), pairsD (zs.map fun z => .tup [.str (k z), v z]) with | some k, some ps => some ((k, _) :: ps) | _, _ => none) = _
    rw [pairsD_map k v zs]
    rfl
theorem putD_keys {kvs : List (Key × D)} {k : Key} {v : D} : (putD kvs k v).map (·.1) = addK (kvs.map (·.1)) k := by
  unfold putD addK
  have hm : (kvs.any fun kv => decide (kv.1 = k)) = true ↔ k ∈ kvs.map (·.1) := by
    rw [List.any_eq_true, List.mem_map]
    exact ⟨fun ⟨kv, h1, h2⟩ => ⟨kv, h1, of_decide_eq_true h2⟩, fun ⟨kv, h1, h2⟩ => ⟨kv, h1, decide_eq_true h2⟩⟩
  by_cases c : k ∈ kvs.map (·.1)
  · rw [if_pos (hm.mpr c), if_pos (inK_iff.mpr c), List.map_map]
    refine List.map_congr_left fun kv _ => ?_
    show (if kv.1 = k then (kv.1, v) else kv).1 = kv.1
    split <;> rfl
  · rw [if_neg (fun z => c (hm.mp z)), if_neg (fun z => c (inK_iff.mp z)), List.map_append]
    rfl
theorem mergeD_keys : ∀ (ms acc : List (Key × D)), (mergeD acc ms).map (·.1) = (ms.map (·.1)).foldl addK (acc.map (·.1))
  | [], _ => rfl
  | q :: ms, acc => by
    show (mergeD (putD acc q.1 q.2) ms).map (·.1) = _
    rw [mergeD_keys ms, putD_keys]
    rfl
theorem merge_once {α : Type} (k : α → Str) (v : α → D) (zs : List α) : inrs ((mergeD [] (zs.map fun z => ((Sum.inr (k z) : Key), v z))).map (·.1)) = some (onceS (zs.map k)) := by
  rw [mergeD_keys, List.map_map]
  have e : ((zs.map ((·.1) ∘ fun z => ((Sum.inr (k z) : Key), v z))).foldl addK (([] : List (Key × D)).map (·.1))) = onceK ((zs.map k).map Sum.inr) := by
    rw [List.map_map]
    rfl
  rw [e, once_inr]
  exact inrs_map _
theorem mergeD_nd : ∀ {ms acc : List (Key × D)}, ((acc ++ ms).map (·.1)).Nodup → mergeD acc ms = acc ++ ms
  | [], acc, _ => by rw [List.append_nil]; rfl
  | q :: ms, acc, h => by
    show mergeD (putD acc q.1 q.2) ms = _
    have hq : q.1 ∉ acc.map (·.1) := by
      rw [List.map_append, List.nodup_append] at h
      exact fun c => h.2.2 _ c _ (by simp) rfl
    rw [putD_new hq, mergeD_nd (by rw [List.append_assoc]; exact h), List.append_assoc]
    rfl
theorem sort_keys {kvs : List (Key × D)} {zs : List Str} (h : inrs (kvs.map (·.1)) = some zs) (h9 : zs.length < 64) : oSort [.dic kvs] = some (.lst ((srt zs).map D.str)) := by
  show (match inrs (kvs.map (·.1)) with | some zs => if zs.length < 64 then some (D.lst ((srt zs).map D.str)) else none | none => none) = _
  rw [h]
  exact if_pos h9
theorem keys_it {kvs : List (Key × D)} {zs : List Str} (h : inrs (kvs.map (·.1)) = some zs) : itA (.dic kvs) = some (zs.map D.str) := by
  have e := inrs_eq h
  show some (kvs.map fun kv => keyD kv.1) = _
  have e2 : (kvs.map fun kv => keyD kv.1) = (kvs.map (·.1)).map keyD := by rw [List.map_map]; rfl
  rw [e2, e, List.map_map]
  rfl
theorem once_same : ∀ {zs acc : List Str}, (acc ++ zs).Nodup → zs.foldl addS acc = acc ++ zs
  | [], acc, _ => by rw [List.append_nil]; rfl
  | z :: zs, acc, h => by
    have hz : z ∉ acc := by
      rw [List.nodup_append] at h
      exact fun c => h.2.2 _ c _ (by simp) rfl
    show zs.foldl addS (addS acc z) = _
    have e : addS acc z = acc ++ [z] := if_neg hz
    rw [e, once_same (by rw [List.append_assoc]; exact h), List.append_assoc]
    rfl
theorem once_le2 : ∀ (zs acc : List Str), (zs.foldl addS acc).length ≤ acc.length + zs.length
  | [], acc => by simp
  | z :: zs, acc => by
    have h := once_le2 zs (addS acc z)
    have h2 : (addS acc z).length ≤ acc.length + 1 := by unfold addS; split <;> simp
    show (zs.foldl addS (addS acc z)).length ≤ _
    rw [List.length_cons]
    omega
theorem once_len_nd : ∀ {zs acc : List Str}, acc.Nodup → (zs.foldl addS acc).length = acc.length + zs.length → (acc ++ zs).Nodup
  | [], acc, h, _ => by rw [List.append_nil]; exact h
  | z :: zs, acc, h, e => by
    have e : (zs.foldl addS (addS acc z)).length = acc.length + (zs.length + 1) := e
    have l := once_le2 zs (addS acc z)
    by_cases c : z ∈ acc
    · have e2 : addS acc z = acc := if_pos c
      rw [e2] at l e
      omega
    · have e2 : addS acc z = acc ++ [z] := if_neg c
      rw [e2] at e
      have z := once_len_nd (zs := zs) (acc := acc ++ [z]) (by
        rw [List.nodup_append]
        refine ⟨h, by simp, fun a ha b hb => ?_⟩
        rw [List.mem_singleton] at hb
        rw [hb]
        rintro rfl
        exact c ha) (by rw [e, List.length_append]; simp; omega)
      rw [List.append_assoc] at z
      exact z
theorem once_id {zs : List Str} (h : zs.Nodup) : onceS zs = zs := once_same (acc := []) h
theorem valD_map {zs : List Str} {v : Str → D} {z : Str} (h : z ∈ zs) : valD (zs.map fun z => ((Sum.inr z : Key), v z)) (Sum.inr z) = some (v z) := by
  unfold valD
  rw [List.find?_map]
  cases hf : zs.find? ((fun kv : Key × D => decide (kv.1 = Sum.inr z)) ∘ fun z => ((Sum.inr z : Key), v z)) with
  | none => exact absurd (List.find?_eq_none.mp hf z h) (by simp)
  | some y =>
    have hy := List.find?_some hf
    have : (Sum.inr y : Key) = Sum.inr z := of_decide_eq_true hy
    cases this
    rfl
theorem coloursB_nd {h : Str} (c : coloursB (.str h) = true) : (sgns h).Nodup := by
  unfold coloursB at c
  simp only [Bool.and_eq_true, decide_eq_true_eq] at c
  exact once_len_nd (acc := []) List.nodup_nil (by
    show (onceS (sgns h)).length = 0 + (sgns h).length
    rw [c.2.2]
    have := sgns_len h
    omega)
theorem asc_ord {h : Str} (nd : (sgns h).Nodup) : ascT h = ordT h := by
  unfold ascT ordT
  rw [once_id nd]
theorem eqF_str {a : Str} : eqF (.str a) (.str a) = true := by
  show decide (a = a) = true
  exact decide_eq_true rfl
theorem ev_andT {f g : Rho → Mem → Re Sl} {ρ : Rho} {m m1 : Mem} (h : f ρ m = some (.ok (.dat (.bl true)), m1)) : fAndV f g ρ m = g ρ m1 := by
  unfold fAndV
  have e : fB f ρ m = some (.ok true, m1) := by
    unfold fB
    exact (ev_bind h).trans rfl
  rw [ev_bind e]
  rfl
theorem ev_attr {C : Addr} {n : Str} {i : Nat} {ρ : Rho} {m : Mem} {gs : List (Str × D)} {d : D} (h : ρ[i]? = some (some (.dat (.ins C gs)))) (hl : gs.lookup n = some d) : fAttr C n (fV i) ρ m = some (.ok (.dat d), m) := by
  unfold fAttr
  refine (ev_bind (x := .dat (.ins C gs)) (m2 := m) (by unfold fV; rw [h])).trans ?_
  show (if C = C then liftO m (gs.lookup n) else none) = _
  rw [if_pos rfl, hl]
  rfl
section
variable {P : Program} {w : World} {K : PySem.W.Frag} {mg : Str → Option Value} {base : Heap} {T : List (Addr × Str)} {L : List Addr}
abbrev sIsRule : Stmt := top 23
def scTold : Scope := match defBody sIsRule with
  | [_, .Assign _ (.Call _ [.ListComp _ _ sc _] _ _) _, _] => sc
  | _ => defScope sIsRule
theorem scIsRule : FnScope ["_law_made", "_law_hues", "_law_pairs", "_law_signs", "_law_due", "_law_told", "_law_pair", "_law_sign", "_law_one"] ["_law_made", "_law_hues", "_law_pairs", "_law_signs"] (defScope sIsRule) := ⟨rfl, rfl, rfl, by decide +kernel, rfl, by decide +kernel, by decide +kernel⟩
def IsRuleOk (CR : Addr) (F : List Sl → Mem → Re Sl) : Prop := ∀ m h ps signs, GoodR h ps signs → F [.dat (.ins CR (ruleF h ps signs)), .dat (.str h), .dat (.lst (ps.map D.str)), .dat (.dic (sgD signs))] m = some (.ok (.dat (.bl true)), m)
theorem fx_isRule {f CR : Addr} {fd : FuncData} (F : Fun K "_law_is_rule" "_law_is_rule" sIsRule f fd) (RC : RuleC K mg L CR) (z_tuple : mg "tuple" = none) (z_sorted : mg "sorted" = none) (z_dict : mg "dict" = none) (z_str : mg "str" = none) : ∃ F, FnX P w K mg base T 1 f fd ["_law_made", "_law_hues", "_law_pairs", "_law_signs"] F ∧ IsRuleOk CR F := by
  have nd := scIsRule.nd
  refine ⟨_, FnX.of (P := P) (w := w) (mg := mg) (base := base) (T := T) (k := 0) F scIsRule (fun cdv A outer s H E hr => (pssx_cons (psx_set (i := 4) nd rfl (Or.inl rfl) (px_callB (cr_sortU rfl) cd_sort rfl z_sorted (by decide +kernel) (pax_cons (px_lc (own := [("_law_pair", 6)]) rfl nd (pix_any (px_callTy (cr_dictP rfl) cd_dictP rfl z_dict (by decide +kernel) (pax_cons (px_lc (own := [("_law_pair", 6)]) rfl nd (pix_any (px_v 2)) (blkOk_by (N := ["_law_made", "_law_hues", "_law_pairs", "_law_signs", "_law_due", "_law_told", "_law_pair", "_law_sign", "_law_one"]) (sc := (defScope sIsRule)) (by decide +kernel)) (fun _ _ _ _ _ => (pgx_name (i := 6) nd rfl (Or.inl rfl))) (by decide) (fun _ _ _ _ _ => ptsx_nil) (fun _ _ _ _ _ => (px_tup (pax_cons (px_join px_str (px_callB (cr_sortU rfl) cd_sort rfl z_sorted (by decide +kernel) (pax_cons (px_v 6) pax_nil))) (pax_cons px_bl pax_nil))))) pax_nil))) (blkOk_by (N := ["_law_made", "_law_hues", "_law_pairs", "_law_signs", "_law_due", "_law_told", "_law_pair", "_law_sign", "_law_one"]) (sc := (defScope sIsRule)) (by decide +kernel)) (fun _ _ _ _ _ => (pgx_name (i := 6) nd rfl (Or.inl rfl))) (by decide) (fun _ _ _ _ _ => ptsx_nil) (fun _ _ _ _ _ => (px_callTy SkE.call_str_str cd_strStr rfl z_str (by decide +kernel) (pax_cons (px_v 6) pax_nil)))) pax_nil)))
(pssx_cons (psx_set (i := 5) nd rfl (Or.inl rfl) (px_callTy (cr_dictP rfl) cd_dictP rfl z_dict (by decide +kernel) (pax_cons (px_lc (own := [("_law_sign", 7)]) rfl nd (pix_any (px_v 3)) (blkOk_by (N := ["_law_made", "_law_hues", "_law_pairs", "_law_signs", "_law_due", "_law_told", "_law_pair", "_law_sign", "_law_one"]) (sc := (defScope sIsRule)) (by decide +kernel)) (fun _ _ _ _ _ => (pgx_name (i := 7) nd rfl (Or.inl rfl))) (by decide) (fun _ _ _ _ _ => ptsx_nil) (fun _ _ _ _ _ => (px_tup (pax_cons (px_v 7) (pax_cons (px_join px_str (px_callB (cr_sortU rfl) cd_sort rfl z_sorted (by decide +kernel) (pax_cons (px_callTy (cr_dictP rfl) cd_dictP rfl z_dict (by decide +kernel) (pax_cons (px_lc (own := [("_law_one", 8)]) rfl nd (pix_any (px_get (hu_of hr) (px_v 3) (px_v 7))) (blkOk_by (N := ["_law_made", "_law_hues", "_law_pairs", "_law_signs", "_law_due", "_law_told", "_law_pair", "_law_sign", "_law_one"]) (sc := relS scTold (defScope sIsRule)) (by decide +kernel)) (fun _ _ _ _ _ => (pgx_name (i := 8) nd rfl (Or.inl rfl))) (by decide) (fun _ _ _ _ _ => ptsx_nil) (fun _ _ _ _ _ => (px_tup (pax_cons (px_v 8) (pax_cons px_bl pax_nil))))) pax_nil)) pax_nil))) pax_nil))))) pax_nil)))
(pssx_one (psx_ret (px_and (px_cmp (op_eqA hr.units) od_eqA (px_attr RC.cR RC.nC (px_v 0)) (px_join px_str (px_callB (cr_sortU rfl) cd_sort rfl z_sorted (by decide +kernel) (pax_cons (px_v 1) pax_nil))) (nomark _)) (px_and (px_cmp (op_eqA hr.units) od_eqA (px_attr RC.cR RC.nB (px_v 0)) (px_callTy call_tuple_of cd_tuple rfl z_tuple (by decide +kernel) (pax_cons (px_v 4) pax_nil)) (nomark _)) (px_one (px_cmp (op_eqA hr.units) od_eqA (px_attr RC.cR RC.nL (px_v 0)) (px_v 5) (nomark _)))))))))), ?_⟩
  intro m h ps signs g
  refine val_run ?_
  simp only [List.map_cons, List.map_nil, List.length_cons, List.length_nil, Nat.reduceAdd, Nat.reduceSub, List.replicate, List.cons_append, List.nil_append]
  have hs := sizeLine_eq
  have lenh := colours_len g.c
  have lp : ∀ p ∈ ps, p.length = 2 := fun p hp => pair_len (g.p p hp)
  have ipl := g.pl
  have iln := g.ln
  obtain ⟨due, hdue⟩ : ∃ due, due = D.lst ((besS ps).map D.str) := ⟨_, rfl⟩
  obtain ⟨told, htold⟩ : ∃ told, told = D.dic ((signs.map (·.1)).map fun z => ((Sum.inr z : Key), D.str (ascT (valS signs z)))) := ⟨_, rfl⟩
  refine ws_seqN (ρ2 := [some (.dat (.ins CR (ruleF h ps signs))), some (.dat (.str h)), some (.dat (.lst (ps.map D.str))), some (.dat (.dic (sgD signs))), some (.dat due), none, none, none, none]) (m2 := m) (ev_set (s := .dat due) ?_) ?_
  · have hm := merge_once ordT (fun _ => D.bl true) ps
    have hl64 : (onceS (ps.map ordT)).length < 64 := by have := once_le (ps.map ordT); rw [List.length_map] at this; omega
    refine ev_call1 (d := .lst ((onceS (ps.map ordT)).map D.str)) ?_ ?_
    · refine ev_lcS D.str (zs := onceS (ps.map ordT)) ?_ (by omega) fun z hz => ⟨_, rfl, rfl, ev_call1 (d := .str z) rfl rfl⟩
      unfold fIterA
      refine (ev_bind (x := .dat (.dic (mergeD [] (ps.map fun z => ((Sum.inr (ordT z) : Key), D.bl true))))) (m2 := m) (ev_call1 (d := .lst (ps.map fun z => D.tup [.str (ordT z), .bl true])) ?_ ?_)).trans ?_
      · refine ev_lcS (fun z => D.tup [.str (ordT z), .bl true]) (by rfl) (by omega) fun z hz => ⟨_, rfl, rfl, ?_⟩
        have ho := ord_ev (m := m) (z := z) (by have := lp z hz; omega) (f := fV 6) (ρ := [some (.dat (.ins CR (ruleF h ps signs))), some (.dat (.str h)), some (.dat (.lst (ps.map D.str))), some (.dat (.dic (sgD signs))), none, none, some (.dat (.str z)), none, none]) rfl
        refine (ev_bind (x := [.dat (.str (ordT z)), .dat (.bl true)]) (m2 := m) ?_).trans ?_
        · unfold fCons
          exact (ev_bind ho).trans rfl
        · rfl
      · show (pairsD _).map _ = _
        rw [pairsD_map ordT (fun _ => D.bl true) ps]
        rfl
      · dsimp only
        rw [keys_it hm]
    · rw [hdue]
      show (match strsOf ((onceS (ps.map ordT)).map D.str) with | some zs => if zs.length < 64 then some (D.lst ((srt zs).map D.str)) else none | none => _) = _
      rw [strsOf_map]
      dsimp only
      rw [if_pos hl64]
      rfl
  refine ws_seqN (ρ2 := [some (.dat (.ins CR (ruleF h ps signs))), some (.dat (.str h)), some (.dat (.lst (ps.map D.str))), some (.dat (.dic (sgD signs))), some (.dat due), some (.dat told), none, none, none]) (m2 := m) (ev_set (s := .dat told) ?_) ?_
  · have hk : inrs ((sgD signs).map (·.1)) = some (signs.map (·.1)) := inrs_sg signs
    refine ev_call1 (d := .lst ((signs.map (·.1)).map fun z => D.tup [.str z, .str (ascT (valS signs z))])) ?_ ?_
    · refine ev_lcS (fun z => D.tup [.str z, .str (ascT (valS signs z))]) (zs := signs.map (·.1)) ?_ (by rw [List.length_map]; omega) fun z hz => ?_
      · unfold fIterA
        refine (ev_bind (x := .dat (.dic (sgD signs))) (m2 := m) rfl).trans ?_
        dsimp only
        rw [keys_it hk]
      · refine ⟨_, rfl, rfl, ?_⟩
        have hl64 : (valS signs z).length < 64 := by
          unfold valS
          cases hf : signs.find? fun (q2 : Str × Str) => decide (q2.1 = z) with
          | some q2 => exact (g.lv q2 (List.mem_of_find?_eq_some hf)).2
          | none => show 0 < 64; decide
        have og : oGet (.dic (sgD signs)) (.str z) = some (.str (valS signs z)) := valD_sg hz
        obtain ⟨v, hv⟩ : ∃ v, v = valS signs z := ⟨_, rfl⟩
        rw [← hv] at hl64 og ⊢
        have hlv : (sgns v).length < 64 := by rw [sgns_len]; exact hl64
        have hlo : (onceS (sgns v)).length < 64 := by have := once_le (sgns v); omega
        have hm := merge_once (fun z : Str => z) (fun _ => D.bl true) (sgns v)
        rw [List.map_id'] at hm
        refine (ev_bind (x := [.dat (.str z), .dat (.str (ascT v))]) (m2 := m) ?_).trans rfl
        unfold fCons
        refine (ev_bind (x := .dat (.str z)) (m2 := m) rfl).trans ?_
        refine (ev_bind (x := [.dat (.str (ascT v))]) (m2 := m) ?_).trans rfl
        refine (ev_bind (x := .dat (.str (ascT v))) (m2 := m) ?_).trans rfl
        have h1 : ∀ s ∈ srt (onceS (sgns v)), s.length = 1 := fun s hs => sgn_len (once_mem.mp (srt_mem.mp hs))
        have h2 : (srt (onceS (sgns v))).length ≤ 1000 := by rw [(srt_perm _).length_eq]; omega
        have srtE : ∀ ρ : Rho, ρ = [some (.dat (.ins CR (ruleF h ps signs))), some (.dat (.str h)), some (.dat (.lst (ps.map D.str))), some (.dat (.dic (sgD signs))), some (.dat due), none, none, some (.dat (.str z)), none] →
            ∀ F : Rho → Mem → Re Sl, F ρ m = some (.ok (.dat (.lst ((srt (onceS (sgns v))).map D.str))), m) → fJoinT (retD (.dat (.str ""))) F ρ m = some (.ok (.dat (.str (ascT v))), m) := fun ρ _ F hF => by
          simp only [fNext, fSeq, fIfS, fPar, parG, fAsg, fAsgM, fSet, fPut, oPut, fRet, fAnd, fB, bindD, bindR, bindS, fCons, retD, fV, f2, f1, fN, fD, vw, vwAll, liftO, allD, gmT, gmCons, gmN, gmSub, gmNil, oGet_str, dkey, oC_int, oInt_int, oAdd_int, oSub_int, oLen_lst, oIx_lst, oTup, List.map_cons, List.map_nil, List.length_cons, List.length_nil, List.cons_append, List.nil_append, List.append_nil, List.getElem?_cons_zero, List.getElem?_cons_succ, List.replicate, List.set_cons_zero, List.set_cons_succ, List.set_set, if_true, if_false, Bool.false_eq_true, Option.map_some, Option.map_none, Nat.sub_zero, Nat.reduceSub, Nat.reduceAdd, and_true, true_and, fJoinT, isStrS, hF, elemsM, strsOf_map]
          rw [if_pos (join_ok h1 h2)]
          rfl
        refine srtE _ rfl _ (ev_call1 (d := .dic (mergeD [] ((sgns v).map fun z => ((Sum.inr z : Key), D.bl true)))) (ev_call1 (d := .lst ((sgns v).map fun z => D.tup [.str z, .bl true])) ?_ ?_) (sort_keys hm hlo))
        · refine ev_lcS (fun z => D.tup [.str z, .bl true]) (zs := sgns v) ?_ (by omega) fun y hy => ?_
          case refine_2 => exact ⟨_, rfl, rfl, rfl⟩
          unfold fIterA
          refine (ev_bind (x := .dat (.str v)) (m2 := m) ?_).trans ?_
          · refine (ev_bind (x := .dat (.dic (sgD signs))) (m2 := m) rfl).trans ((ev_bind (x := .dat (.str z)) (m2 := m) rfl).trans ?_)
            exact f2_ok og
          · dsimp only
            rw [itA_str]
        · show (pairsD _).map _ = _
          rw [pairsD_map (fun z : Str => z) (fun _ => D.bl true) (sgns v)]
          rfl
    · show (pairsD _).map _ = _
      rw [pairsD_map (fun z : Str => z) (fun z => D.str (ascT (valS signs z))) (signs.map (·.1)), htold]
      show some (D.dic (mergeD [] _)) = _
      rw [mergeD_nd (by rw [List.nil_append, List.map_map]; exact List.pairwise_map.mpr (g.nd.imp fun hne e => hne (by injection e)))]
      rfl
  have fl : ∀ (zs : List Str) (v : Str → Str), flatKv (zs.map fun z => ((Sum.inr z : Key), D.str (v z))) = true := fun zs v => by
    unfold flatKv
    rw [List.all_map]
    exact List.all_eq_true.mpr fun _ _ => rfl
  have e3 : eqKv (letS signs) ((signs.map (·.1)).map fun z => ((Sum.inr z : Key), D.str (ascT (valS signs z)))) = true := by
    unfold eqKv letS
    rw [Bool.and_eq_true]
    refine ⟨by rw [List.length_map, List.length_map, (srt_perm _).length_eq]; exact beq_self_eq_true _, ?_⟩
    rw [List.all_map]
    refine List.all_eq_true.mpr fun z hz => ?_
    show (match valD _ (Sum.inr z) with | some u => eqF (.str (ascT (valS signs z))) u | none => false) = true
    rw [valD_map (v := fun z => D.str (ascT (valS signs z))) (srt_mem.mp hz)]
    exact eqF_str
  have e4 := oEqA_dic (fl (srt (signs.map (·.1))) fun z => ascT (valS signs z)) (fl (signs.map (·.1)) fun z => ascT (valS signs z))
  have e4 : oEqA (.dic (letS signs)) told = some (.bl true) := by rw [htold]; exact e4.trans (congrArg (fun b => some (D.bl b)) e3)
  have e5 : oEqA (.tup ((besS ps).map D.str)) (.tup ((besS ps).map D.str)) = some (.bl true) := by rw [oEqA_tstrs, decide_eq_true rfl]
  have ho := ord_ev (m := m) (z := h) (by omega) (f := fV 1) (ρ := [some (.dat (.ins CR (ruleF h ps signs))), some (.dat (.str h)), some (.dat (.lst (ps.map D.str))), some (.dat (.dic (sgD signs))), some (.dat due), some (.dat told), none, none, none]) rfl
  refine ⟨_, _, ev_ret (s := .dat (.bl true)) (m2 := m) ?_, rfl, rfl⟩
  have e6 : oEqA (.str (ascT h)) (.str (ordT h)) = some (.bl true) := by rw [asc_ord (coloursB_nd g.c), oEqA_str, decide_eq_true rfl]
  refine (ev_andT (ev_op (ev_attr (i := 0) rfl lkC) ho e6)).trans ?_
  refine (ev_andT (ev_op (ev_attr (i := 0) rfl lkB) (ev_call1 (d := due) rfl (c := .tup ((besS ps).map D.str)) (by rw [hdue]; rfl)) e5)).trans ?_
  exact ev_op (ev_attr (i := 0) rfl lkL) (g := fV 5) rfl e4
end
end K58
namespace K58
open PySem PySem.Spec PyProof.Rows L2 Pu SeK
open LamX (Tabs)
/-- a comprehension with a test, both may change the store -/
theorem fLc_exF {g : Sl → Rho → Option Rho} {p : Rho → Mem → Re Bool} {f : Rho → Mem → Re Sl} {ρ : Rho} (I : Nat → Mem → Prop) (G : D → Prop) (N : Nat) : ∀ {ds : List D} {n : Nat} {m : Mem}, n + ds.length ≤ N → I n m → (∀ n m d, n < N → d ∈ ds → I n m → ∃ ρ1 b m1, g (.dat d) ρ = some ρ1 ∧ p ρ1 m = some (.ok b, m1) ∧ I (n + 1) m1 ∧ (b = true → ∃ x, f ρ1 m1 = some (.ok (.dat x), m1) ∧ G x)) →
    ∃ xs m', fLc g p f ρ ds m = some (xs, m') ∧ (∀ x ∈ xs, G x) ∧ xs.length ≤ ds.length ∧ I (n + ds.length) m'
  | [], n, m, _, h, _ => ⟨[], m, rfl, by simp, Nat.le_refl _, h⟩
  | d :: ds, n, m, hN, h, k => by
    rw [List.length_cons] at hN
    obtain ⟨ρ1, b, m1, e1, e2, h2, hb⟩ := k n m d (by omega) List.mem_cons_self h
    obtain ⟨xs, m', e4, q, hl, h3⟩ := fLc_exF I G N (by omega) h2 fun n m d hn hd => k n m d hn (List.mem_cons_of_mem _ hd)
    have h3 : I (n + (d :: ds).length) m' := by rw [List.length_cons, show n + (ds.length + 1) = n + 1 + ds.length by omega]; exact h3
    cases b with
    | false =>
      refine ⟨xs, m', ?_, q, by rw [List.length_cons]; omega, h3⟩
      unfold fLc
      simp only [e1, e2, e4]
    | true =>
      obtain ⟨x, e3, gx⟩ := hb rfl
      refine ⟨x :: xs, m', ?_, fun y hy => ?_, by rw [List.length_cons, List.length_cons]; omega, h3⟩
      · unfold fLc
        simp only [e1, e2, e3, e4]
      · rcases List.mem_cons.mp hy with rfl | hy
        · exact gx
        · exact q y hy
theorem ev_lcXF {it : Rho → Mem → Re (List D)} {g : Sl → Rho → Option Rho} {p : Rho → Mem → Re Bool} {f : Rho → Mem → Re Sl} {vs : List Nat} {ρ : Rho} {ds : List D} (I : Nat → Mem → Prop) (G : D → Prop) {m0 m : Mem} (hit : it ρ m0 = some (.ok ds, m)) (hz : ds.length < sizeLine) (h : I 0 m)
    (k : ∀ n m d, n < ds.length → d ∈ ds → I n m → ∃ ρ1 b m1, g (.dat d) (wipeR ρ vs) = some ρ1 ∧ p ρ1 m = some (.ok b, m1) ∧ I (n + 1) m1 ∧ (b = true → ∃ x, f ρ1 m1 = some (.ok (.dat x), m1) ∧ G x)) :
    ∃ xs m', fLcE it g p f vs ρ m0 = some (.ok (.dat (.lst xs)), m') ∧ (∀ x ∈ xs, G x) ∧ xs.length ≤ ds.length ∧ I ds.length m' := by
  obtain ⟨xs, m', e, q, hl, i⟩ := fLc_exF (g := g) (p := p) (f := f) (ρ := wipeR ρ vs) (ds := ds) (n := 0) I G ds.length (by omega) h k
  rw [Nat.zero_add] at i
  refine ⟨xs, m', ?_, q, hl, i⟩
  unfold fLcE
  rw [ev_bind hit]
  unfold fLcD
  rw [if_pos hz, e]
theorem strs_of {xs : List D} {G : Str → Prop} (h : ∀ x ∈ xs, ∃ z, x = .str z ∧ G z) : ∃ zs : List Str, xs = zs.map D.str ∧ ∀ z ∈ zs, G z := by
  induction xs with
  | nil => exact ⟨[], rfl, by simp⟩
  | cons x xs ih =>
    obtain ⟨z, rfl, gz⟩ := h x List.mem_cons_self
    obtain ⟨zs, rfl, gs⟩ := ih fun y hy => h y (List.mem_cons_of_mem _ hy)
    refine ⟨z :: zs, rfl, fun y hy => ?_⟩
    rcases List.mem_cons.mp hy with rfl | hy
    · exact gz
    · exact gs y hy
/-- a for over data with a thing that grows -/
theorem for_exN {g : Sl → Rho → Option Rho} {b : Rho → Mem → RS} (I : Nat → Rho → Mem → Prop) (N : Nat) : ∀ {ds : List D} {n : Nat} {ρ : Rho} {m : Mem}, n + ds.length ≤ N → I n ρ m → (∀ n ρ m d, n < N → d ∈ ds → I n ρ m → ∃ ρ1 ρ2 m2, g (.dat d) ρ = some ρ1 ∧ b ρ1 m = some (.nx ρ2, m2) ∧ I (n + 1) ρ2 m2) →
    ∃ ρ' m', fFor g b ds ρ m = some (.nx ρ', m') ∧ I (n + ds.length) ρ' m'
  | [], n, ρ, m, _, h, _ => ⟨ρ, m, rfl, h⟩
  | d :: ds, n, ρ, m, hN, h, k => by
    rw [List.length_cons] at hN
    obtain ⟨ρ1, ρ2, m2, e1, e2, h2⟩ := k n ρ m d (by omega) List.mem_cons_self h
    obtain ⟨ρ', m', e3, h3⟩ := for_exN I N (by omega) h2 fun n ρ m d hn hd => k n ρ m d hn (List.mem_cons_of_mem _ hd)
    refine ⟨ρ', m', ?_, by rw [List.length_cons, show n + (ds.length + 1) = n + 1 + ds.length by omega]; exact h3⟩
    unfold fFor
    simp only [e1, e2, e3]
theorem for_ex {g : Sl → Rho → Option Rho} {b : Rho → Mem → RS} {it : Rho → Mem → Re (List D)} (I : Nat → Rho → Mem → Prop) {ds : List D} {ρ : Rho} {m m0 : Mem} (hit : it ρ m0 = some (.ok ds, m)) (h : I 0 ρ m) (k : ∀ n ρ m d, n < ds.length → d ∈ ds → I n ρ m → ∃ ρ1 ρ2 m2, g (.dat d) ρ = some ρ1 ∧ b ρ1 m = some (.nx ρ2, m2) ∧ I (n + 1) ρ2 m2) :
    ∃ ρ' m', fForS it g b ρ m0 = some (.nx ρ', m') ∧ I ds.length ρ' m' := by
  obtain ⟨ρ', m', e, i⟩ := for_exN (g := g) (b := b) (ds := ds) (n := 0) I ds.length (by omega) h k
  rw [Nat.zero_add] at i
  refine ⟨ρ', m', ?_, i⟩
  unfold fForS
  rw [hit]
  exact e
theorem ev_itS {i : Nat} {ρ : Rho} {m : Mem} {z : Str} (h : ρ[i]? = some (some (.dat (.str z)))) : fIterA (fV i) ρ m = some (.ok ((sgns z).map D.str), m) := by
  unfold fIterA
  refine (ev_bind (x := .dat (.str z)) (m2 := m) (by unfold fV; rw [h])).trans ?_
  dsimp only
  rw [itA_str]
theorem ev_itL {i : Nat} {ρ : Rho} {m : Mem} {xs : List D} (h : ρ[i]? = some (some (.dat (.lst xs)))) : fIterA (fV i) ρ m = some (.ok xs, m) := by
  unfold fIterA
  exact (ev_bind (x := .dat (.lst xs)) (m2 := m) (by unfold fV; rw [h])).trans rfl
theorem ev_call2 {F : List Sl → Mem → Re Sl} {f g : Rho → Mem → Re Sl} {ρ : Rho} {m m1 m2 : Mem} {s t : Sl} {R : Re Sl} (hf : f ρ m = some (.ok s, m1)) (hg : g ρ m1 = some (.ok t, m2)) (h : F [s, t] m2 = R) : fCall F [] (fCons f (fCons g (retD []))) ρ m = R := by
  unfold fCall
  refine (ev_bind (x := [s, t]) (m2 := m2) ?_).trans h
  unfold fCons
  refine (ev_bind hf).trans ?_
  refine (ev_bind (x := [t]) (m2 := m2) ?_).trans rfl
  exact (ev_bind hg).trans rfl
theorem ev_draw {FD : List Sl → Mem → Re Sl} (oD : DrawOk FD) {m : Mem} {i n : Nat} {o : MO} {ls : List MO} {ρ : Rho} (hi : i < m.length) (hp : PenO o n) (hn : n ≤ 1000000) (L : Int) (l0 : 0 < L) (l9 : L ≤ 1000000) (h0 : ρ[0]? = some (some (.opq i))) :
    ∃ (d : Int) (o' : MO), fCall FD [] (fCons (fV 0) (fCons (retD (.dat (.int L))) (retD []))) ρ (LM m i o ls) = some (.ok (.dat (.int d)), LM m i o' ls) ∧ 0 ≤ d ∧ d < L ∧ PenO o' (n + 1) := by
  obtain ⟨d, o', e, a, b, h⟩ := oD.lm (ls := ls) hi hp hn l0 l9
  exact ⟨d, o', ev_call2 (by unfold fV; rw [h0]) rfl e, a, b, h⟩
theorem ev_zero {FD : List Sl → Mem → Re Sl} (oD : DrawOk FD) {m : Mem} {i n : Nat} {o : MO} {ls : List MO} {ρ : Rho} (hi : i < m.length) (hp : PenO o n) (hn : n ≤ 1000000) (L : Int) (l0 : 0 < L) (l9 : L ≤ 1000000) (h0 : ρ[0]? = some (some (.opq i))) :
    ∃ (b : Bool) (o' : MO), fB (bindD (fCall FD [] (fCons (fV 0) (fCons (retD (.dat (.int L))) (retD [])))) fun s => bindD (retD (.dat (.int 0))) fun t _ m => f2 oEqA s t m) ρ (LM m i o ls) = some (.ok b, LM m i o' ls) ∧ PenO o' (n + 1) := by
  obtain ⟨d, o', e, a, b, h⟩ := ev_draw oD hi hp hn L l0 l9 h0
  refine ⟨decide (d = 0), o', ?_, h⟩
  unfold fB
  exact (ev_bind (ev_op e rfl eqA_int)).trans rfl
/-! ### pairs of colours -/
def okp (h z : Str) : Prop := z.cps.toList.length = 2 ∧ ∀ c ∈ z.cps.toList, c ∈ h.cps.toList
theorem cat_cps (a b : Str) : (a ++ b).cps.toList = a.cps.toList ++ b.cps.toList := Array.toList_append
theorem rev_cps (z : Str) : (revT z).cps.toList = z.cps.toList.reverse := Array.toList_reverse
theorem sgn_cps {h s : Str} (hs : s ∈ sgns h) : ∃ c ∈ h.cps.toList, s.cps.toList = [c] := by
  unfold sgns at hs
  obtain ⟨c, hc, rfl⟩ := List.mem_map.mp hs
  exact ⟨c, hc, rfl⟩
theorem okp_pair {h z : Str} (k : okp h z) : pairB h (.str z) = true := by
  unfold pairB
  rw [Bool.and_eq_true]
  have hl : z.length = z.cps.toList.length := by rw [Array.length_toList]; rfl
  refine ⟨List.all_eq_true.mpr fun s hs => ?_, decide_eq_true (hl.trans k.1)⟩
  unfold sgns at hs
  obtain ⟨c, hc, rfl⟩ := List.mem_map.mp hs
  show inT (ofC [c]) h = true
  rw [inT_one]
  exact decide_eq_true (k.2 c hc)
theorem okp_len {h z : Str} (k : okp h z) : z.length = 2 := by
  have hl : z.length = z.cps.toList.length := by rw [Array.length_toList]; rfl
  exact hl.trans k.1
theorem okp_cat {h a b : Str} (ha : a ∈ sgns h) (hb : b ∈ sgns h) : okp h (a ++ b) := by
  obtain ⟨c, hc, e⟩ := sgn_cps ha
  obtain ⟨d, hd, e2⟩ := sgn_cps hb
  unfold okp
  rw [cat_cps, e, e2]
  refine ⟨rfl, fun x hx => ?_⟩
  simp only [List.cons_append, List.nil_append, List.mem_cons, List.not_mem_nil, or_false] at hx
  rcases hx with rfl | rfl
  · exact hc
  · exact hd
theorem okp_rev {h z : Str} (k : okp h z) : okp h (revT z) := by
  unfold okp
  rw [rev_cps, List.length_reverse]
  exact ⟨k.1, fun c hc => k.2 c (List.mem_reverse.mp hc)⟩
section
variable {P : Program} {w : World} {K : PySem.W.Frag} {mg : Str → Option Value} {base : Heap} {T : List (Addr × Str)} {L : List Addr}
abbrev sStrange : Stmt := top 24
abbrev sPairs : Stmt := top 25
abbrev sLet : Stmt := top 26
theorem scStrange : FnScope ["_law_pen"] ["_law_pen"] (defScope sStrange) := ⟨rfl, rfl, rfl, by decide +kernel, rfl, by decide +kernel, by decide +kernel⟩
theorem scPairs : FnScope ["_law_pen", "_law_hues", "_law_found", "_law_one", "_law_other", "_law_pair"] ["_law_pen", "_law_hues"] (defScope sPairs) := ⟨rfl, rfl, rfl, by decide +kernel, rfl, by decide +kernel, by decide +kernel⟩
theorem scLet : FnScope ["_law_pen", "_law_hues", "_law_found", "_law_sign", "_law_one"] ["_law_pen", "_law_hues"] (defScope sLet) := ⟨rfl, rfl, rfl, by decide +kernel, rfl, by decide +kernel, by decide +kernel⟩
def oddL : List D := [.non, .int 0, .bl true, .tup [], .dic [], .lst [], .str "", .str "A", .str "aa", .str "abcde", .str "a b", .str "1", .tup [.str "a"], .lst [.str "ab", .non], .dic [(Sum.inr "a", .int 1)]]
def StrangeOk (F : List Sl → Mem → Re Sl) : Prop := ∀ (m : Mem) (i n : Nat) (o : MO) (ls : List MO), i < m.length → PenO o n → n ≤ 1000000 → AllOk (LM m i o ls) → ∃ (x : D) (o' : MO), F [.opq i] (LM m i o ls) = some (.ok (.dat x), LM m i o' ls) ∧ x ∈ oddL ∧ PenO o' (n + 1)
theorem fx_strange {f aP : Addr} {fd fdP : FuncData} {FP : List Sl → Mem → Re Sl} (F : Fun K "_law_strange" "_law_strange" sStrange f fd) (GP : FnX P w K mg base T 2 aP fdP ["_law_pen", "_law_some"] FP) (AP : At K mg "_law_pick" aP fdP ["_law_pen", "_law_some"]) (oP : PickOk FP) : ∃ F, FnX P w K mg base T 3 f fd ["_law_pen"] F ∧ StrangeOk F := by
  have nd := scStrange.nd
  refine ⟨_, FnX.of (P := P) (w := w) (mg := mg) (base := base) (T := T) (k := 2) F scStrange (fun cdv A outer s H E hr => (pssx_one (psx_ret (px_call (GP.mono (by decide)) hr rfl AP.mg AP.kp AP.bd .nil (fun _ => .nil) (passE (T := T)) (pax_cons (px_v 0) (pax_cons (px_lst (pax_cons px_non (pax_cons px_int (pax_cons px_bl (pax_cons (px_tup pax_nil) (pax_cons px_dnewD (pax_cons (px_lst pax_nil) (pax_cons px_str (pax_cons px_str (pax_cons px_str (pax_cons px_str (pax_cons px_str (pax_cons px_str (pax_cons (px_tup (pax_cons px_str pax_nil)) (pax_cons (px_lst (pax_cons px_str (pax_cons px_non pax_nil))) (pax_cons (px_dispD (ppx_cons px_str px_int ppx_nil)) pax_nil)))))))))))))))) pax_nil)))))), ?_⟩
  intro m i n o ls hi hp hn hA
  obtain ⟨x, o', e, hx, hp'⟩ := oP m i n o ls oddL hi hp hn (by decide) (by decide)
  refine ⟨x, o', ?_, hx, hp'⟩
  refine dat_run (m' := LM m i o' ls) ?_ (lm_tr _)
  show fRet _ [some (.opq i)] _ = _
  refine ev_ret (m2 := LM m i o' ls) ?_
  exact ev_call2 (s := .opq i) (t := .dat (.lst oddL)) (m1 := LM m i o ls) (m2 := LM m i o ls) rfl rfl e
def okPairs (h : Str) (zs : List Str) : Prop := ∀ z ∈ zs, pairB h (.str z) = true
def PairsOk (F : List Sl → Mem → Re Sl) : Prop := ∀ (m : Mem) (i n : Nat) (o : MO) (ls : List MO) (h : Str), i < m.length → PenO o n → n ≤ 800000 → AllOk (LM m i o ls) → h.length ≤ 4 → ∃ (ps : List Str) (o' : MO), F [.opq i, .dat (.str h)] (LM m i o ls) = some (.ok (.dat (.lst (ps.map D.str))), LM m i o' ls) ∧ okPairs h ps ∧ ps.length < 64 ∧ PenO o' (n + 128)
theorem fx_pairs {f aD aH : Addr} {fd fdD fdH : FuncData} {FD FH : List Sl → Mem → Re Sl} (F : Fun K "_law_pairs_of" "_law_pairs_of" sPairs f fd) (GD : FnX P w K mg base T 1 aD fdD psPS FD) (AD : At K mg "_law_draw" aD fdD psPS) (oD : DrawOk FD) (GH : FnX P w K mg base T 2 aH fdH ["_law_pen", "_law_some"] FH) (AH : At K mg "_law_shuffled" aH fdH ["_law_pen", "_law_some"]) (oH : ShufOk FH) : ∃ F, FnX P w K mg base T 3 f fd ["_law_pen", "_law_hues"] F ∧ PairsOk F := by
  have nd := scPairs.nd
  refine ⟨_, FnX.of (P := P) (w := w) (mg := mg) (base := base) (T := T) (k := 2) F scPairs (fun cdv A outer s H E hr => (pssx_cons (psx_set (i := 2) nd rfl (Or.inl rfl) (px_lst pax_nil))
(pssx_cons (psx_for (passes_of rfl) rfl (pix_any (px_v 1)) (pgx_name (i := 3) nd rfl (Or.inr rfl))
(pssx_one (psx_set (i := 2) nd rfl (Or.inl rfl) (px_op op_addU od_add (px_v 2) (px_lc (own := [("_law_other", 4)]) rfl nd (pix_any (px_v 1)) (blkOk_by (N := ["_law_pen", "_law_hues", "_law_found", "_law_one", "_law_other", "_law_pair"]) (sc := (defScope sPairs)) (by decide +kernel)) (fun _ _ _ _ _ => (pgx_name (i := 4) nd rfl (Or.inl rfl))) (by decide) (fun _ _ _ _ _ => (ptsx_one (ptx_cmp (op_eqA hr.units) od_eqA (px_call (GD.mono (by decide)) hr rfl AD.mg AD.kp AD.bd .nil (fun _ => .nil) L2.passL (pax_cons (px_v 0) (pax_cons px_int pax_nil))) px_int (nomark _)))) (fun _ _ _ _ _ => (px_op op_addU od_add (px_v 3) (px_v 4))))))))
(pssx_one (psx_ret (px_call (GH.mono (by decide)) hr rfl AH.mg AH.kp AH.bd .nil (fun _ => .nil) (passE (T := T)) (pax_cons (px_v 0) (pax_cons (px_op op_addU od_add (px_v 2) (px_lc (own := [("_law_pair", 5)]) rfl nd (pix_any (px_v 2)) (blkOk_by (N := ["_law_pen", "_law_hues", "_law_found", "_law_one", "_law_other", "_law_pair"]) (sc := (defScope sPairs)) (by decide +kernel)) (fun _ _ _ _ _ => (pgx_name (i := 5) nd rfl (Or.inl rfl))) (by decide) (fun _ _ _ _ _ => (ptsx_one (ptx_cmp (op_eqA hr.units) od_eqA (px_call (GD.mono (by decide)) hr rfl AD.mg AD.kp AD.bd .nil (fun _ => .nil) L2.passL (pax_cons (px_v 0) (pax_cons px_int pax_nil))) px_int (nomark _)))) (fun _ _ _ _ _ => (px_revA (px_v 5))))) pax_nil)))))))), ?_⟩
  intro m i n o ls h hi hp hn hA hh
  have hsz := sizeLine_eq
  have hl : (sgns h).length ≤ 4 := by rw [sgns_len]; exact hh
  have cl : ∀ {o' : MO} {zs : List Str} {s3 s4 s5 : Option Sl} {k : Nat}, PenO o' (n + 4 * k) → k < 4 → (∀ z ∈ zs, okp h z) → zs.length ≤ 4 * k → ∀ s1 ∈ sgns h, ∃ (o2 : MO) (ys : List Str), (fLcE (fIterA (fV 1)) (gN 4) (fB (bindD (fCall FD [] (fCons (fV 0) (fCons (retD (.dat (.int 2))) (retD [])))) fun s => bindD (retD (.dat (.int 0))) fun t _ m => f2 oEqA s t m)) (bindD (fV 3) fun s => bindD (fV 4) fun t _ m => f2 oAdd s t m) [4]) [some (.opq i), some (.dat (.str h)), some (.dat (.lst (zs.map D.str))), some (.dat (.str s1)), s4, s5] (LM m i o' ls) = some (.ok (.dat (.lst (ys.map D.str))), LM m i o2 ls) ∧ PenO o2 (n + 4 * (k + 1)) ∧ (∀ z ∈ ys, okp h z) ∧ ys.length ≤ 4 := by
    intro o' zs s3 s4 s5 k hp' hk hz hzl s1 hs1
    obtain ⟨xs, m2, e, hx, hxl, o2, rfl, hp2⟩ := ev_lcXF (it := fIterA (fV 1)) (g := gN 4) (p := fB (bindD (fCall FD [] (fCons (fV 0) (fCons (retD (.dat (.int 2))) (retD [])))) fun s => bindD (retD (.dat (.int 0))) fun t _ m => f2 oEqA s t m)) (f := bindD (fV 3) fun s => bindD (fV 4) fun t _ m => f2 oAdd s t m) (vs := [4])
      (ρ := [some (.opq i), some (.dat (.str h)), some (.dat (.lst (zs.map D.str))), some (.dat (.str s1)), s4, s5]) (ds := (sgns h).map D.str) (fun k2 m' => ∃ o2, m' = LM m i o2 ls ∧ PenO o2 (n + 4 * k + k2)) (fun x => ∃ z, x = .str z ∧ okp h z) (m0 := LM m i o' ls) (m := LM m i o' ls)
      (ev_itS rfl) (by rw [List.length_map]; omega) ⟨o', rfl, hp'⟩ (by
        rintro k2 m' d hk2 hd ⟨o2, rfl, hp2⟩
        rw [List.length_map] at hk2
        obtain ⟨s2, hs2, rfl⟩ := List.mem_map.mp hd
        obtain ⟨b, o3, eb, hp3⟩ := ev_zero oD (ls := ls) (ρ := [some (.opq i), some (.dat (.str h)), some (.dat (.lst (zs.map D.str))), some (.dat (.str s1)), some (.dat (.str s2)), s5]) hi hp2 (by omega) 2 (by decide) (by decide) rfl
        refine ⟨_, b, LM m i o3 ls, rfl, eb, ⟨o3, rfl, hp3⟩, fun _ => ⟨.str (s1 ++ s2), ev_op (d := .str s1) (e := .str s2) rfl rfl ?_, _, rfl, okp_cat hs1 hs2⟩⟩
        exact if_pos (by rw [sgn_len hs1, sgn_len hs2, hsz]; decide))
    obtain ⟨ys, rfl, gy⟩ := strs_of hx
    rw [List.length_map] at hxl hp2
    rw [List.length_map] at hxl
    exact ⟨o2, ys, e, hp2.more (by omega), gy, by omega⟩
  obtain ⟨ρ', m', ef, o1, zs, s3, s4, s5, rfl, rfl, hp1, hz, hzl⟩ := for_ex (g := gN 3) (it := fIterA (fV 1)) (b := fSet 2 (bindD (fV 2) fun s => bindD (fLcE (fIterA (fV 1)) (gN 4) (fB (bindD (fCall FD [] (fCons (fV 0) (fCons (retD (.dat (.int 2))) (retD [])))) fun s => bindD (retD (.dat (.int 0))) fun t _ m => f2 oEqA s t m)) (bindD (fV 3) fun s => bindD (fV 4) fun t _ m => f2 oAdd s t m) [4]) fun t _ m => f2 oAdd s t m))
    (fun k ρ m' => ∃ o' zs s3 s4 s5, m' = LM m i o' ls ∧ ρ = [some (.opq i), some (.dat (.str h)), some (.dat (.lst (zs.map D.str))), s3, s4, s5] ∧ PenO o' (n + 4 * k) ∧ (∀ z ∈ zs, okp h z) ∧ zs.length ≤ 4 * k) (ds := (sgns h).map D.str) (ρ := [some (.opq i), some (.dat (.str h)), some (.dat (.lst [])), none, none, none]) (m := LM m i o ls) (m0 := LM m i o ls)
    (ev_itS rfl) ⟨o, [], none, none, none, rfl, rfl, hp, by simp, by simp⟩ (by
      rintro k ρ m' d hk hd ⟨o', zs, s3, s4, s5, rfl, rfl, hp', hz, hzl⟩
      rw [List.length_map] at hk
      obtain ⟨s1, hs1, rfl⟩ := List.mem_map.mp hd
      obtain ⟨o2, ys, e, hp2, gy, hyl⟩ := cl (s3 := s3) (s4 := s4) (s5 := s5) hp' (by omega) hz hzl s1 hs1
      refine ⟨_, _, _, rfl, ev_set (s := .dat (.lst ((zs ++ ys).map D.str))) (ev_op (d := .lst (zs.map D.str)) rfl e ?_), o2, zs ++ ys, _, _, _, rfl, rfl, hp2, fun z hz' => ?_, by rw [List.length_append]; omega⟩
      · rw [List.map_append]
        exact if_pos (by rw [List.length_map, List.length_map, hsz]; omega)
      · rcases List.mem_append.mp hz' with q | q
        · exact hz z q
        · exact gy z q)
  rw [List.length_map] at hp1 hzl
  have hzl2 : zs.length ≤ 16 := by omega
  obtain ⟨xs, m2, e2, hx, hxl, o2, rfl, hp2⟩ := ev_lcXF (it := fIterA (fV 2)) (g := gN 5) (p := fB (bindD (fCall FD [] (fCons (fV 0) (fCons (retD (.dat (.int 3))) (retD [])))) fun s => bindD (retD (.dat (.int 0))) fun t _ m => f2 oEqA s t m)) (f := orR (bindD (fV 5) fun s _ m => f1 oRevS s m) (bindD (fV 5) fun s _ m => f1 oRev s m)) (vs := [5])
      (ρ := [some (.opq i), some (.dat (.str h)), some (.dat (.lst (zs.map D.str))), s3, s4, s5]) (ds := zs.map D.str) (fun k2 m' => ∃ o2, m' = LM m i o2 ls ∧ PenO o2 (n + 16 + k2)) (fun x => ∃ z, x = .str z ∧ okp h z) (m0 := LM m i o1 ls) (m := LM m i o1 ls)
      (ev_itL rfl) (by rw [List.length_map]; omega) ⟨o1, rfl, hp1.more (by omega)⟩ (by
        rintro k2 m' d hk2 hd ⟨o2, rfl, hp2⟩
        rw [List.length_map] at hk2
        obtain ⟨z, hz', rfl⟩ := List.mem_map.mp hd
        obtain ⟨b, o3, eb, hp3⟩ := ev_zero oD (ls := ls) (ρ := [some (.opq i), some (.dat (.str h)), some (.dat (.lst (zs.map D.str))), s3, s4, some (.dat (.str z))]) hi hp2 (by omega) 3 (by decide) (by decide) rfl
        refine ⟨_, b, LM m i o3 ls, rfl, eb, ⟨o3, rfl, hp3⟩, fun _ => ⟨.str (revT z), orR_1 ?_, _, rfl, okp_rev (hz z hz')⟩⟩
        refine (ev_bind (x := .dat (.str z)) (m2 := LM m i o3 ls) rfl).trans ?_
        have ho : oRevS (.str z) = some (.str (revT z)) := if_pos (by rw [okp_len (hz z hz'), hsz]; decide)
        unfold f1 vw
        simp only [ho, liftO])
  obtain ⟨ys, rfl, gy⟩ := strs_of hx
  rw [List.length_map] at hp2
  rw [List.length_map, List.length_map] at hxl
  obtain ⟨ws, o3, e3, pw, hp3⟩ := oH m i (n + 32) o2 ls (zs ++ ys) (.dat (.lst ((zs ++ ys).map D.str))) hi (hp2.more (by omega)) (by omega) (hA.pen hp2.ok) (.inl rfl) (by rw [List.length_append]; omega)
  have hwl := pw.length_eq
  rw [List.length_append] at hwl hp3
  refine ⟨ws, o3, dat_run (m' := LM m i o3 ls) ?_ (lm_tr _), fun z hz' => ?_, by omega, hp3.more (by omega)⟩
  · refine (ev_seq (ρ2 := [some (.opq i), some (.dat (.str h)), some (.dat (.lst [])), none, none, none]) (m2 := LM m i o ls) rfl).trans ?_
    refine (ev_seq ef).trans ?_
    refine ev_ret (m2 := LM m i o3 ls) ?_
    refine ev_call2 (s := .opq i) (t := .dat (.lst ((zs ++ ys).map D.str))) (m1 := LM m i o1 ls) (m2 := LM m i o2 ls) rfl (ev_op (d := .lst (zs.map D.str)) rfl e2 ?_) e3
    rw [List.map_append]
    exact if_pos (by rw [List.length_map, List.length_map, hsz]; omega)
  · rcases List.mem_append.mp (pw.mem_iff.mp hz') with q | q
    · exact okp_pair (hz z q)
    · exact okp_pair (gy z q)
end
end K58
namespace K58
open PySem PySem.Spec PyProof.Rows L2 Pu SeK
open LamX (Tabs)
/-! texts joined of single signs -/
theorem joinL_nil : ∀ (ps : List (List Nat)), TL.joinL [] ps = ps.flatten
  | [] => rfl
  | [p] => by show p = _; simp
  | p :: q :: r => by
    show p ++ ([] ++ TL.joinL [] (q :: r)) = _
    rw [joinL_nil (q :: r)]
    simp
theorem join_cps (ws : List Str) : (Txt.join "" ws).cps.toList = (ws.map fun z => z.cps.toList).flatten := by
  rw [TL.join_eq]
  have h := TL.tl_join "" ws
  have e : TL.tl (Str.ofString "") = [] := rfl
  rw [e, joinL_nil] at h
  exact h
theorem join_sgns {ws : List Str} (h : ∀ s ∈ ws, s.length = 1) : sgns (Txt.join "" ws) = ws := by
  unfold sgns
  rw [join_cps]
  induction ws with
  | nil => rfl
  | cons a r ih =>
    have ha := h a List.mem_cons_self
    have hl : a.cps.toList.length = 1 := by rw [Array.length_toList]; exact ha
    obtain ⟨c, hc⟩ := List.length_eq_one_iff.mp hl
    have ea : a = ⟨#[c]⟩ := by
      obtain ⟨cps⟩ := a
      congr 1
      exact Array.toList_inj.mp hc
    rw [List.map_cons, List.flatten_cons, List.map_append, ih fun s hs => h s (List.mem_cons_of_mem _ hs), hc, List.map_cons, List.map_nil, ea]
    rfl
theorem join_len {ws : List Str} (h : ∀ s ∈ ws, s.length = 1) : (Txt.join "" ws).length = ws.length := by
  have e := sgns_len (Txt.join "" ws)
  rw [join_sgns h] at e
  exact e.symm
theorem ev_join {F : Rho → Mem → Re Sl} {ρ : Rho} {m m1 : Mem} {ws : List Str} (hF : F ρ m = some (.ok (.dat (.lst (ws.map D.str))), m1)) (h1 : ∀ s ∈ ws, s.length = 1) (h2 : ws.length ≤ 1000) : fJoinT (retD (.dat (.str ""))) F ρ m = some (.ok (.dat (.str (Txt.join "" ws))), m1) := by
  simp only [fNext, fSeq, fIfS, fPar, parG, fAsg, fAsgM, fSet, fPut, oPut, fRet, fAnd, fB, bindD, bindR, bindS, fCons, retD, fV, f2, f1, fN, fD, vw, vwAll, liftO, allD, gmT, gmCons, gmN, gmSub, gmNil, oGet_str, dkey, oC_int, oInt_int, oAdd_int, oSub_int, oLen_lst, oIx_lst, oTup, List.map_cons, List.map_nil, List.length_cons, List.length_nil, List.cons_append, List.nil_append, List.append_nil, List.getElem?_cons_zero, List.getElem?_cons_succ, List.replicate, List.set_cons_zero, List.set_cons_succ, List.set_set, if_true, if_false, Bool.false_eq_true, Option.map_some, Option.map_none, Nat.sub_zero, Nat.reduceSub, Nat.reduceAdd, and_true, true_and, fJoinT, isStrS, hF, elemsM, strsOf_map]
  rw [if_pos (join_ok h1 h2)]
theorem cut_to {xs : List D} {k : Nat} : Pu.cutD xs none (some (k : Int)) = xs.take k := by
  unfold Pu.cutD
  rw [HT.sIx_none, HT.sIx_nat, List.drop_zero, Nat.sub_zero]
  by_cases c : k ≤ xs.length
  · rw [Nat.min_eq_left c]
  · rw [Nat.min_eq_right (by omega), List.take_length, List.take_of_length_le (by omega)]
section
variable {P : Program} {w : World} {K : PySem.W.Frag} {mg : Str → Option Value} {base : Heap} {T : List (Addr × Str)} {L : List Addr}
theorem for_exIN {g : Sl → Rho → Option Rho} {b : Rho → Mem → RS} (I : Nat → Rho → Mem → Prop) (all : List D) : ∀ {ds : List D} {n : Nat} {ρ : Rho} {m : Mem}, all.drop n = ds → I n ρ m → (∀ n ρ m d, all[n]? = some d → I n ρ m → ∃ ρ1 ρ2 m2, g (.dat d) ρ = some ρ1 ∧ b ρ1 m = some (.nx ρ2, m2) ∧ I (n + 1) ρ2 m2) →
    ∃ ρ' m', fFor g b ds ρ m = some (.nx ρ', m') ∧ I (n + ds.length) ρ' m'
  | [], n, ρ, m, _, h, _ => ⟨ρ, m, rfl, h⟩
  | d :: ds, n, ρ, m, hN, h, k => by
    have hd : all[n]? = some d := by
      have := List.getElem?_drop (xs := all) (i := n) (j := 0)
      rw [hN] at this
      exact this.symm
    have hN2 : all.drop (n + 1) = ds := by
      rw [← List.tail_drop, hN]
      rfl
    obtain ⟨ρ1, ρ2, m2, e1, e2, h2⟩ := k n ρ m d hd h
    obtain ⟨ρ', m', e3, h3⟩ := for_exIN I all hN2 h2 k
    refine ⟨ρ', m', ?_, by rw [List.length_cons, show n + (ds.length + 1) = n + 1 + ds.length by omega]; exact h3⟩
    unfold fFor
    simp only [e1, e2, e3]
theorem for_exI {g : Sl → Rho → Option Rho} {b : Rho → Mem → RS} {it : Rho → Mem → Re (List D)} (I : Nat → Rho → Mem → Prop) {ds : List D} {ρ : Rho} {m m0 : Mem} (hit : it ρ m0 = some (.ok ds, m)) (h : I 0 ρ m) (k : ∀ n ρ m d, ds[n]? = some d → I n ρ m → ∃ ρ1 ρ2 m2, g (.dat d) ρ = some ρ1 ∧ b ρ1 m = some (.nx ρ2, m2) ∧ I (n + 1) ρ2 m2) :
    ∃ ρ' m', fForS it g b ρ m0 = some (.nx ρ', m') ∧ I ds.length ρ' m' := by
  obtain ⟨ρ', m', e, i⟩ := for_exIN (g := g) (b := b) (ds := ds) (n := 0) I ds rfl h k
  rw [Nat.zero_add] at i
  refine ⟨ρ', m', ?_, i⟩
  unfold fForS
  rw [hit]
  exact e
theorem ev_put {fd fk fv : Rho → Mem → Re Sl} {ρ : Rho} {m m1 : Mem} {j : Nat} {z : Str} {v : D} {kvs : List (Key × D)} (hv : fv ρ m = some (.ok (.dat v), m1)) (hd : fd ρ m1 = some (.ok (.opq j), m1)) (hk : fk ρ m1 = some (.ok (.dat (.str z)), m1)) (hm : m1[j]? = some (.dic kvs)) (hl : kvs.length < sizeLine) :
    fPut fd fk fv ρ m = some (.nx ρ, m1.set j (.dic (putD kvs (Sum.inr z) v))) := by
  unfold fPut
  simp only [hv, bindS_ok, hd, hk]
  unfold oPut
  simp only [hm, dkey]
  rw [if_pos hl]
def okv (h v : Str) : Prop := v.length ≤ 8 ∧ someB h (.str v) = true
theorem hue_in {h s : Str} (hs : s ∈ sgns (h ++ revT h)) : inT s h = true := by
  obtain ⟨c, hc, e⟩ := sgn_cps hs
  have es : s = ofC [c] := by rw [str_ofC s, e]
  rw [es, inT_one]
  refine decide_eq_true ?_
  rw [cat_cps, rev_cps, List.mem_append, List.mem_reverse] at hc
  rcases hc with q | q <;> exact q
def LetOk (F : List Sl → Mem → Re Sl) : Prop := ∀ (m : Mem) (i n : Nat) (o : MO) (ls : List MO) (h : Str), i < m.length → PenO o n → n ≤ 800000 → AllOk (LM m i o ls) → h.length ≤ 4 → ∃ (sg : List (Str × Str)) (o' : MO), F [.opq i, .dat (.str h)] (LM m i o ls) = some (.ok (.dat (.dic (sgD sg))), LM m i o' ls) ∧ lettersB h (.dic (sgD sg)) = true ∧ sg.length < 8 ∧ (sg.map (·.1)).Nodup ∧ (∀ q ∈ sg, q.1.length < 64 ∧ q.2.length < 64) ∧ (∀ q ∈ sg, q.1 ∈ sgns "az.k") ∧ PenO o' (n + 64)
theorem fx_let {f aD aH : Addr} {fd fdD fdH : FuncData} {FD FH : List Sl → Mem → Re Sl} (F : Fun K "_law_letters_of" "_law_letters_of" sLet f fd) (GD : FnX P w K mg base T 1 aD fdD psPS FD) (AD : At K mg "_law_draw" aD fdD psPS) (oD : DrawOk FD) (GH : FnX P w K mg base T 2 aH fdH ["_law_pen", "_law_some"] FH) (AH : At K mg "_law_shuffled" aH fdH ["_law_pen", "_law_some"]) (oH : ShufOk FH) : ∃ F, FnX P w K mg base T 3 f fd ["_law_pen", "_law_hues"] F ∧ LetOk F := by
  have nd := scLet.nd
  refine ⟨_, FnX.of (P := P) (w := w) (mg := mg) (base := base) (T := T) (k := 2) F scLet (fun cdv A outer s H E hr => (pssx_cons (psx_set (i := 2) nd rfl (Or.inl rfl) px_dnewM)
(pssx_cons (psx_for (passes_of rfl) rfl (pix_any (px_cut (px_call (GH.mono (by decide)) hr rfl AH.mg AH.kp AH.bd .nil (fun _ => .nil) (passE (T := T)) (pax_cons (px_v 0) (pax_cons px_str pax_nil))) pox_none (pox_some (px_call (GD.mono (by decide)) hr rfl AD.mg AD.kp AD.bd .nil (fun _ => .nil) (passE (T := T)) (pax_cons (px_v 0) (pax_cons px_int pax_nil)))))) (pgx_name (i := 3) nd rfl (Or.inl rfl))
(pssx_one (psx_dput (hu_of hr) (px_v 2) (px_v 3) (px_join px_str (px_lc (own := [("_law_one", 4)]) rfl nd (pix_any (px_op op_addU od_add (px_v 1) (px_revA (px_v 1)))) (blkOk_by (N := ["_law_pen", "_law_hues", "_law_found", "_law_sign", "_law_one"]) (sc := (defScope sLet)) (by decide +kernel)) (fun _ _ _ _ _ => (pgx_name (i := 4) nd rfl (Or.inl rfl))) (by decide) (fun _ _ _ _ _ => (ptsx_one (ptx_cmp (op_eqA hr.units) od_eqA (px_call (GD.mono (by decide)) hr rfl AD.mg AD.kp AD.bd .nil (fun _ => .nil) L2.passL (pax_cons (px_v 0) (pax_cons px_int pax_nil))) px_int (nomark _)))) (fun _ _ _ _ _ => (px_v 4)))))))
(pssx_one (psx_ret (px_fzD (px_v 2))))))), ?_⟩
  intro m i n o ls h hi hp hn hA hh
  have hsz := sizeLine_eq
  have hN : (LM m i o ls).length = m.length + ls.length := LM.len
  have gJ : ∀ (o : MO) (X : MO), (LM m i o (ls ++ [X]))[m.length + ls.length]? = some X := fun o X => by
    rw [LM.get, List.getElem?_append_right (Nat.le_refl _), Nat.sub_self]; rfl
  have sJ : ∀ (o : MO) (X Z : MO), (LM m i o (ls ++ [X])).set (m.length + ls.length) Z = LM m i o (ls ++ [Z]) := fun o X Z => by
    rw [LM.set, List.set_append_right _ _ (Nat.le_refl _), Nat.sub_self]; rfl
  have hA1 : AllOk (LM m i o (ls ++ [.dic []])) := by
    rw [← LM.app]
    exact hA.app fun x hx => by rw [List.mem_singleton.mp hx]; rfl
  have hl8 : (sgns (h ++ revT h)).length ≤ 8 := by
    have e : (h ++ revT h).length = (h ++ revT h).cps.toList.length := by rw [Array.length_toList]; rfl
    have e2 : h.length = h.cps.toList.length := by rw [Array.length_toList]; rfl
    rw [sgns_len, e, cat_cps, rev_cps, List.length_append, List.length_reverse]
    omega
  obtain ⟨ys, o1, es, py, hp1⟩ := oH m i n o (ls ++ [.dic []]) (sgns "az.k") (.dat (.str "az.k")) hi hp (by omega) hA1 (.inr ⟨"az.k", rfl, rfl⟩) (by decide)
  have hp1 : PenO o1 (n + 4) := hp1
  obtain ⟨k, o2, ed, k0, k4, hp2⟩ := ev_draw oD (ls := ls ++ [.dic []]) (ρ := [some (.opq i), some (.dat (.str h)), some (.opq (m.length + ls.length)), none, none]) hi hp1 (by omega) 4 (by decide) (by decide) rfl
  obtain ⟨k, rfl⟩ : ∃ k2 : Nat, k = (k2 : Int) := ⟨k.toNat, by omega⟩
  have yn : ys.Nodup := (py.nodup_iff).mpr (by decide +kernel)
  have hit : fIterA (fCut (fCall FH [] (fCons (fV 0) (fCons (retD (.dat (.str "az.k"))) (retD [])))) (retD none) (fPart (fCall FD [] (fCons (fV 0) (fCons (retD (.dat (.int 4))) (retD [])))))) [some (.opq i), some (.dat (.str h)), some (.opq (m.length + ls.length)), none, none] (LM m i o (ls ++ [.dic []])) = some (.ok ((ys.take k).map D.str), LM m i o2 (ls ++ [.dic []])) := by
    unfold fIterA
    refine (ev_bind (x := .dat (.lst ((ys.take k).map D.str))) (m2 := LM m i o2 (ls ++ [.dic []])) ?_).trans rfl
    unfold fCut
    refine (ev_bind (x := .dat (.lst (ys.map D.str))) (m2 := LM m i o1 (ls ++ [.dic []])) (ev_call2 rfl rfl es)).trans ?_
    refine (ev_bind (x := none) (m2 := LM m i o1 (ls ++ [.dic []])) rfl).trans ?_
    refine (ev_bind (x := some (k : Int)) (m2 := LM m i o2 (ls ++ [.dic []])) ?_).trans ?_
    · unfold fPart
      exact (ev_bind ed).trans rfl
    · show some (Except.ok (Sl.dat (D.lst (Pu.cutD (ys.map D.str) none (some (k : Int))))), _) = _
      rw [cut_to, List.map_take]
  obtain ⟨ρ', m', ef, o3, sg, s3, s4, rfl, rfl, hp3, hk3, hv3⟩ := for_exI (g := gN 3) (b := fPut (fV 2) (fV 3) (fJoinT (retD (.dat (.str ""))) (fLcE (fIterA (bindD (fV 1) fun s => bindD (orR (bindD (fV 1) fun s _ m => f1 oRevS s m) (bindD (fV 1) fun s _ m => f1 oRev s m)) fun t _ m => f2 oAdd s t m)) (gN 4) (fB (bindD (fCall FD [] (fCons (fV 0) (fCons (retD (.dat (.int 2))) (retD [])))) fun s => bindD (retD (.dat (.int 0))) fun t _ m => f2 oEqA s t m)) (fV 4) [4])))
    (fun j ρ m' => ∃ o' sg s3 s4, m' = LM m i o' (ls ++ [.dic (sgD sg)]) ∧ ρ = [some (.opq i), some (.dat (.str h)), some (.opq (m.length + ls.length)), s3, s4] ∧ PenO o' (n + 5 + 8 * j) ∧ sg.map (·.1) = (ys.take k).take j ∧ ∀ q ∈ sg, okv h q.2)
    hit ⟨o2, [], none, none, rfl, rfl, hp2, rfl, by simp⟩ (by
      rintro j ρ m' d hd ⟨o', sg, s3, s4, rfl, rfl, hp', hk', hv'⟩
      rw [List.getElem?_map] at hd
      cases hz : (ys.take k)[j]? with
      | none => rw [hz] at hd; cases hd
      | some z =>
        rw [hz] at hd
        cases hd
        have hj : j < (ys.take k).length := (List.getElem?_eq_some_iff.mp hz).1
        have hj3 : j < 3 := by
          rw [List.length_take] at hj
          omega
        obtain ⟨xs, m2, e, hx, hxl, o3, rfl, hp3⟩ := ev_lcXF (it := fIterA (bindD (fV 1) fun s => bindD (orR (bindD (fV 1) fun s _ m => f1 oRevS s m) (bindD (fV 1) fun s _ m => f1 oRev s m)) fun t _ m => f2 oAdd s t m)) (g := gN 4) (p := fB (bindD (fCall FD [] (fCons (fV 0) (fCons (retD (.dat (.int 2))) (retD [])))) fun s => bindD (retD (.dat (.int 0))) fun t _ m => f2 oEqA s t m)) (f := fV 4) (vs := [4])
          (ρ := [some (.opq i), some (.dat (.str h)), some (.opq (m.length + ls.length)), some (.dat (.str z)), s4]) (ds := (sgns (h ++ revT h)).map D.str) (fun k2 m' => ∃ o2, m' = LM m i o2 (ls ++ [.dic (sgD sg)]) ∧ PenO o2 (n + 5 + 8 * j + k2)) (fun x => ∃ y, x = .str y ∧ y ∈ sgns (h ++ revT h)) (m0 := LM m i o' (ls ++ [.dic (sgD sg)])) (m := LM m i o' (ls ++ [.dic (sgD sg)]))
          (by
            unfold fIterA
            refine (ev_bind (x := .dat (.str (h ++ revT h))) (m2 := LM m i o' (ls ++ [.dic (sgD sg)])) (ev_op (d := .str h) (e := .str (revT h)) rfl (orR_1 ?_) ?_)).trans ?_
            · refine (ev_bind (x := .dat (.str h)) (m2 := LM m i o' (ls ++ [.dic (sgD sg)])) rfl).trans ?_
              have ho : oRevS (.str h) = some (.str (revT h)) := if_pos (by omega)
              unfold f1 vw
              simp only [ho, liftO]
            · have : (revT h).length = h.length := Array.size_reverse
              exact if_pos (by omega)
            · dsimp only
              rw [itA_str]) (by rw [List.length_map]; omega) ⟨o', rfl, hp'⟩ (by
            rintro k2 m' d hk2 hd ⟨o2, rfl, hp2⟩
            rw [List.length_map] at hk2
            obtain ⟨s2, hs2, rfl⟩ := List.mem_map.mp hd
            obtain ⟨b, o3, eb, hp3⟩ := ev_zero oD (ls := ls ++ [.dic (sgD sg)]) (ρ := [some (.opq i), some (.dat (.str h)), some (.opq (m.length + ls.length)), some (.dat (.str z)), some (.dat (.str s2))]) hi hp2 (by omega) 2 (by decide) (by decide) rfl
            exact ⟨_, b, LM m i o3 (ls ++ [MO.dic (sgD sg)]), rfl, eb, ⟨o3, rfl, hp3⟩, fun _ => ⟨.str s2, rfl, _, rfl, hs2⟩⟩)
        obtain ⟨ws, rfl, gw⟩ := strs_of hx
        rw [List.length_map] at hp3
        rw [List.length_map, List.length_map] at hxl
        have w1 : ∀ s ∈ ws, s.length = 1 := fun s hs => sgn_len (gw s hs)
        have hnew : (Sum.inr z : Key) ∉ (sgD sg).map (·.1) := by
          have e2 : (sgD sg).map (·.1) = (sg.map (·.1)).map Sum.inr := by unfold sgD; rw [List.map_map, List.map_map]; rfl
          rw [e2, hk']
          intro hm
          obtain ⟨y, hy, hy2⟩ := List.mem_map.mp hm
          cases hy2
          have nd2 : (ys.take k).Nodup := (List.take_sublist _ _).nodup yn
          obtain ⟨a, ha, hay⟩ := List.mem_iff_getElem.mp hy
          rw [List.length_take] at ha
          rw [List.getElem_take] at hay
          have hz2 := (List.getElem?_eq_some_iff.mp hz).2
          have := (List.getElem_inj nd2).mp (hay.trans hz2.symm)
          omega
        have hlen : sg.length = j := by
          have := congrArg List.length hk'
          rw [List.length_map, List.length_take] at this
          omega
        refine ⟨_, _, _, rfl, ev_put (v := .str (Txt.join "" ws)) (ev_join e w1 (by omega)) rfl rfl (gJ o3 _) (by unfold sgD; rw [List.length_map]; omega), o3, sg ++ [(z, Txt.join "" ws)], _, _, ?_, rfl, hp3.more (by omega), ?_, fun q hq => ?_⟩
        · rw [sJ, putD_new hnew]
          unfold sgD
          rw [List.map_append]
          rfl
        · rw [List.map_append, hk', List.take_succ, hz]
          rfl
        · rcases List.mem_append.mp hq with hq | hq
          · exact hv' q hq
          · rw [List.mem_singleton.mp hq]
            refine ⟨?_, ?_⟩
            · show (Txt.join "" ws).length ≤ 8
              rw [join_len w1]
              omega
            · show (sgns (Txt.join "" ws)).all (fun s => inT s h) = true
              rw [join_sgns w1]
              exact List.all_eq_true.mpr fun s hs => hue_in (gw s hs))
  rw [List.length_map] at hp3 hk3
  rw [List.take_length] at hk3
  have hkl : (ys.take k).length ≤ 3 := by rw [List.length_take]; omega
  have hsl : sg.length ≤ 3 := by
    have := congrArg List.length hk3
    rw [List.length_map] at this
    omega
  have z1 : ∀ z ∈ sgns "az.k", letterB (.str z) = true ∧ z.length < 64 := by decide +kernel
  have z2 : ∀ q ∈ sg, q.1 ∈ sgns "az.k" := fun q hq => by
    have : q.1 ∈ ys.take k := hk3 ▸ List.mem_map.mpr ⟨q, hq, rfl⟩
    exact py.mem_iff.mp (List.mem_of_mem_take this)
  refine ⟨sg, o3, dat_run (m' := LM m i o3 (ls ++ [.fz (.dic (sgD sg))])) ?_ (trimLM hA hp3.ok), ?_, by omega, hk3 ▸ (List.take_sublist _ _).nodup yn, fun q hq => ⟨(z1 _ (z2 q hq)).2, by have := (hv3 q hq).1; omega⟩, z2, hp3.more (by omega)⟩
  · show fSeq _ _ [some (.opq i), some (.dat (.str h)), none, none, none] _ = _
    refine (ev_seq (ρ2 := [some (.opq i), some (.dat (.str h)), some (.opq (m.length + ls.length)), none, none]) (m2 := LM m i o (ls ++ [.dic []])) ?_).trans ?_
    · refine (ev_set (s := .opq (LM m i o ls).length) (m2 := LM m i o ls ++ [.dic []]) rfl).trans ?_
      rw [hN, LM.app]
      rfl
    · refine (ev_seq ef).trans ?_
      refine ev_ret (m2 := LM m i o3 (ls ++ [.fz (.dic (sgD sg))])) ?_
      refine (ev_bind (x := .opq (m.length + ls.length)) (m2 := LM m i o3 (ls ++ [.dic (sgD sg)])) rfl).trans ?_
      unfold oFzD
      dsimp only
      rw [gJ]
      dsimp only
      rw [sJ]
  · show (sgD sg).all _ = true
    refine List.all_eq_true.mpr fun kv hkv => ?_
    unfold sgD at hkv
    obtain ⟨q, hq, rfl⟩ := List.mem_map.mp hkv
    dsimp only
    have hm : q.1 ∈ sg.map (·.1) := List.mem_map.mpr ⟨q, hq, rfl⟩
    rw [valD_sg hm]
    show (letterB (.str q.1) && someB h (.str (valS sg q.1))) = true
    rw [(z1 _ (z2 q hq)).1, Bool.true_and]
    unfold valS
    cases hf : sg.find? fun (q2 : Str × Str) => decide (q2.1 = q.1) with
    | some q2 => exact (hv3 q2 (List.mem_of_find?_eq_some hf)).2
    | none => exact absurd (List.find?_eq_none.mp hf q hq) (by simp)
end
end K58
namespace K58
open PySem PySem.Spec PyProof.Rows L2 Pu SeK EV
open LamX (Tabs TabB LamS)
/-- what the calls with a lambda rest on -/
structure LamK (K : PySem.W.Frag) (mg : Str → Option Value) (CB CW gR : Addr) (fdR : FuncData) : Prop where
  Fr : Fun K "_law_refused" "_law_refused" sRef gR fdR
  Ar : At K mg "_law_refused" gR fdR ["_law_call"]
  R : RefF K mg CB CW
  zI : mg "isinstance" = none
/-- what making a rule rests on -/
structure MakeK (K : PySem.W.Frag) (mg : Str → Option Value) (CR aN : Addr) (fdN : FuncData) : Prop where
  MK : Mk K CR aN
  mT : mg "Rule" = some (.ref CR)
  b3 : Binds K fdN ["self", "colours", "beside", "letters"] []
  b2 : Binds K fdN ["self", "colours", "beside", "letters"] [.none]
  bK : ∃ g, KBn K fdN ["self", "colours", "beside", "letters"] 2 ["beside", "letters"] g (fun vs zs => pk [0, 1, 2, 3] (vs ++ zs ++ []))
def isF : Option D → Bool
  | some (.bl false) => true
  | _ => false
theorem isF_eq {x : Option D} (h : isF x = true) : x = some (.bl false) := by
  unfold isF at h
  split at h
  · rfl
  · cases h
/-! what a lambda that makes a rule gives to _law_refused -/
theorem val_look {d : D} : List.lookup ("value" : Str) [(("value" : Str), d)] = some d := by
  rw [List.lookup_cons, beq_self_eq_true]
theorem ev_refused {C : Addr} {f : Rho → Mem → Re Sl} {ρ : Rho} {m : Mem} {d : D} (h : f ρ m = some (.error (erR C d), m)) : fLam (refR C) f ρ m = some (.ok (.dat (.lst [d])), m) := by
  unfold fLam
  rw [h]
  have e : refR C (.error (erR C d)) = some (.lst [d]) := by
    show (if C = C then (List.lookup ("value" : Str) [(("value" : Str), d)]).map (fun d => D.lst [d]) else none) = _
    rw [if_pos rfl, val_look]
    rfl
  dsimp only
  rw [e]
theorem cut_back {m : Mem} {o : MO} (h : AllOk m) : cutM m.length (m ++ [o]) = some m := by
  unfold cutM
  have e : (m ++ [o]).take m.length = m := List.take_left' rfl
  rw [e, if_pos ⟨by rw [List.length_append]; rfl, h⟩]
theorem ev_made {C : Addr} {F : List Sl → Mem → Re Sl} {dds : List D} {fa : Rho → Mem → Re (List Sl)} {ρ : Rho} {m : Mem} {ss : List Sl} {e : Er} (hf : fa ρ m = some (.ok ss, m)) (hF : F (.opq m.length :: (ss ++ dds.map Sl.dat)) (m ++ [.ins C []]) = some (.error e, m ++ [.ins C []])) (hA : AllOk m) : fMake C F dds fa ρ m = some (.error e, m) := by
  unfold fMake
  refine (ev_bind hf).trans ?_
  rw [hF]
  dsimp only
  rw [cut_back hA]
  rfl
theorem ev_madeK {C : Addr} {F : List Sl → Mem → Re Sl} {is : List Nat} {dds : List D} {fa fk : Rho → Mem → Re (List Sl)} {ρ : Rho} {m : Mem} {ss zs : List Sl} {e : Er} (hf : fa ρ m = some (.ok ss, m)) (hk : fk ρ m = some (.ok zs, m)) (hF : F (pk is (.opq m.length :: (ss ++ zs ++ dds.map Sl.dat))) (m ++ [.ins C []]) = some (.error e, m ++ [.ins C []])) (hA : AllOk m) : fMakeK C F is dds fa fk ρ m = some (.error e, m) := by
  unfold fMakeK
  refine (ev_bind hf).trans ((ev_bind hk).trans ?_)
  rw [hF]
  unfold mkOut
  dsimp only
  rw [cut_back hA]
  rfl
theorem ev_makes {C : Addr} {F : List Sl → Mem → Re Sl} {dds : List D} {fa : Rho → Mem → Re (List Sl)} {ρ : Rho} {m : Mem} {ss : List Sl} {gs : List (Str × D)} (hf : fa ρ m = some (.ok ss, m)) (hF : F (.opq m.length :: (ss ++ dds.map Sl.dat)) (m ++ [.ins C []]) = some (.ok (.dat .non), m ++ [.ins C gs])) (hA : AllOk m) : fMake C F dds fa ρ m = some (.ok (.dat (.ins C gs)), m) := by
  unfold fMake
  refine (ev_bind hf).trans ?_
  rw [hF]
  dsimp only
  have e : (m ++ [MO.ins C gs])[m.length]? = some (.ins C gs) := by rw [List.getElem?_append_right (Nat.le_refl _), Nat.sub_self]; rfl
  rw [e, cut_back hA]
  dsimp only
  rw [if_pos rfl]
theorem set_made {m : Mem} {a b : MO} : (m ++ [a]).set m.length b = m ++ [b] := by
  rw [List.set_append_right _ _ (Nat.le_refl _), Nat.sub_self]
  rfl
theorem get_made {m : Mem} {a : MO} : (m ++ [a])[m.length]? = some a := by
  rw [List.getElem?_append_right (Nat.le_refl _), Nat.sub_self]
  rfl
theorem ev_l1 {f : Rho → Mem → Re Sl} {ρ : Rho} {m : Mem} {d : D} (h : f ρ m = some (.ok (.dat d), m)) : bindD (fCons f (retD [])) (fun ss _ m => fD oLst ss m) ρ m = some (.ok (.dat (.lst [d])), m) := by
  refine (ev_bind (x := [.dat d]) (m2 := m) ?_).trans rfl
  unfold fCons
  exact (ev_bind h).trans rfl
/-- _law_refused(lambda: ..) != [x] is False -/
theorem ev_same {C : Addr} {f g : Rho → Mem → Re Sl} {ρ : Rho} {m : Mem} {d : D} (h : f ρ m = some (.error (erR C d), m)) (hg : g ρ m = some (.ok (.dat d), m)) (hn : oNeA (.lst [d]) (.lst [d]) = some (.bl false)) :
    fB (bindD (fLam (refR C) f) fun s => bindD (bindD (fCons g (retD [])) fun ss _ m => fD oLst ss m) fun t _ m => f2 oNeA s t m) ρ m = some (.ok false, m) := by
  unfold fB
  exact (ev_bind (ev_op (ev_refused h) (ev_l1 hg) hn)).trans rfl
theorem ev_cons {f : Rho → Mem → Re Sl} {g : Rho → Mem → Re (List Sl)} {ρ : Rho} {m m1 m2 : Mem} {s : Sl} {ss : List Sl} (hf : f ρ m = some (.ok s, m1)) (hg : g ρ m1 = some (.ok ss, m2)) : fCons f g ρ m = some (.ok (s :: ss), m2) := by
  unfold fCons
  exact (ev_bind hf).trans ((ev_bind hg).trans rfl)
theorem ev_tup2 {f g : Rho → Mem → Re Sl} {ρ : Rho} {m m1 m2 : Mem} {d e : D} (hf : f ρ m = some (.ok (.dat d), m1)) (hg : g ρ m1 = some (.ok (.dat e), m2)) : bindD (fCons f (fCons g (retD []))) (fun ss _ m => fD oTup ss m) ρ m = some (.ok (.dat (.tup [d, e])), m2) :=
  (ev_bind (ev_cons hf (ev_cons hg rfl))).trans rfl
theorem ev_made_fine {C : Addr} {f : Rho → Mem → Re Sl} {ρ : Rho} {m : Mem} {s : Sl} (h : f ρ m = some (.ok s, m)) : fLam (refR C) f ρ m = some (.ok (.dat (.lst [])), m) := by
  unfold fLam
  rw [h]
  rfl
theorem cut_from {xs : List D} {k : Nat} : Pu.cutD xs (some (k : Int)) none = xs.drop k := by
  unfold Pu.cutD
  rw [HT.sIx_none, HT.sIx_nat]
  by_cases c : k ≤ xs.length
  · rw [Nat.min_eq_left c, List.take_of_length_le (by rw [List.length_drop]; omega)]
  · rw [Nat.min_eq_right (by omega), Nat.sub_self, List.take_zero, List.drop_eq_nil_of_le (by omega)]
theorem ev_asg {F : Rho → Mem → Re Sl} {g : Sl → Rho → Option Rho} {ρ ρ2 : Rho} {m m2 : Mem} {s : Sl} (h : F ρ m = some (.ok s, m2)) (hg : g s ρ = some ρ2) : fAsg F g ρ m = some (.nx ρ2, m2) := by
  unfold fAsg
  rw [h]
  show (match g s ρ with | some ρ' => some (Out.nx ρ', m2) | none => none) = _
  rw [hg]
theorem ev_callOne {F : List Sl → Mem → Re Sl} {f : Rho → Mem → Re Sl} {ρ : Rho} {m m1 : Mem} {s : Sl} {R : Re Sl} (hf : f ρ m = some (.ok s, m1)) (h : F [s] m1 = R) : fCall F [] (fCons f (retD [])) ρ m = R := by
  unfold fCall
  exact (ev_bind (x := [s]) (m2 := m1) (ev_cons hf rfl)).trans h
theorem ev_or0 {p q : Rho → Mem → Re Bool} {ρ : Rho} {m m1 : Mem} {R : Re Bool} (h : p ρ m = some (.ok false, m1)) (hq : q ρ m1 = R) : fOr p q ρ m = R := by
  unfold fOr
  exact (ev_bind h).trans hq
theorem ev_if0 {p : Rho → Mem → Re Bool} {a b : Rho → Mem → RS} {ρ : Rho} {m m1 : Mem} (h : p ρ m = some (.ok false, m1)) : fIfS p a b ρ m = b ρ m1 := by
  unfold fIfS
  rw [h]
  rfl
theorem colours_alph {h : Str} (c : coloursB (.str h) = true) : ∀ x ∈ h.cps.toList, x ∈ alph.cps.toList := fun x hx => by
  unfold coloursB at c
  simp only [Bool.and_eq_true, decide_eq_true_eq] at c
  have z := List.all_eq_true.mp c.2.1 (ofC [x]) (by unfold sgns ofC; exact List.mem_map.mpr ⟨x, hx, rfl⟩)
  rw [inT_one] at z
  exact of_decide_eq_true z
theorem odd_ok {L : List Addr} : ∀ d ∈ oddL, okPair L d ∧ coloursB d = false ∧ oNeA (.lst [d]) (.lst [d]) = some (.bl false) := fun d hd => by
  have h1 : ∀ d ∈ oddL, coloursB d = false ∧ isF (oNeA (.lst [d]) (.lst [d])) = true := by decide +kernel
  have h2 : ∀ d ∈ oddL, smallD d = true := by decide +kernel
  have h3 : ∀ d ∈ oddL, (tag L d).isSome = true := by
    intro d hd
    simp only [oddL, List.mem_cons, List.not_mem_nil, or_false] at hd
    rcases hd with rfl | rfl | rfl | rfl | rfl | rfl | rfl | rfl | rfl | rfl | rfl | rfl | rfl | rfl | rfl <;> rfl
  exact ⟨⟨h3 d hd, h2 d hd⟩, (h1 d hd).1, isF_eq (h1 d hd).2⟩
def loneL : List D := [.non, .int 0, .bl true, .dic [], .str "", .str "ab", .dic [(Sum.inr "ab", .str "ab")]]
theorem lone_ok {L : List Addr} : ∀ d ∈ loneL, (tag L d).isSome = true ∧ elemsD d = none ∧ oNeA (.lst [d]) (.lst [d]) = some (.bl false) := fun d hd => by
  have h1 : ∀ d ∈ loneL, isF (oNeA (.lst [d]) (.lst [d])) = true := by decide +kernel
  have h3 : ∀ d ∈ loneL, (tag L d).isSome = true ∧ elemsD d = none := by
    intro d hd
    simp only [loneL, List.mem_cons, List.not_mem_nil, or_false] at hd
    rcases hd with rfl | rfl | rfl | rfl | rfl | rfl | rfl <;> exact ⟨rfl, rfl⟩
  exact ⟨(h3 d hd).1, (h3 d hd).2, isF_eq (h1 d hd)⟩
def badL (c : Nat) : List D := [.non, .int 3, .str (ofC [c]), .str "", .str (ofC [c, c, c]), .str ("A" ++ ofC [c]), .tup [.str (ofC [c]), .str (ofC [c])]]
theorem inT_A {h : Str} (c : coloursB (.str h) = true) : inT "A" h = false := by
  have e : ("A" : Str) = ofC [65] := rfl
  rw [e, inT_one]
  refine decide_eq_false fun hm => ?_
  have := colours_alph c 65 hm
  revert this
  decide +kernel
theorem pair_long {h z : Str} (l : z.length ≠ 2) : pairB h (.str z) = false := by
  show ((sgns z).all (fun s => inT s h) && decide (z.length = 2)) = false
  rw [decide_eq_false l, Bool.and_false]
theorem ne_str {z : Str} : oNeA (.lst [.str z]) (.lst [.str z]) = some (.bl false) := by
  have e := oNeA_strs (xs := [z]) (ys := [z])
  rw [decide_eq_true rfl] at e
  exact e
theorem bad_ok {L : List Addr} {h : Str} (cb : coloursB (.str h) = true) {c : Nat} (hc : c ∈ h.cps.toList) : ∀ d ∈ badL c, okPair L d ∧ pairB h d = false ∧ oNeA (.lst [d]) (.lst [d]) = some (.bl false) := fun d hd => by
  have hsz := sizeLine_eq
  have h1 : ∀ c ∈ alph.cps.toList, isF (oNeA (.lst [.tup [.str (ofC [c]), .str (ofC [c])]]) (.lst [.tup [.str (ofC [c]), .str (ofC [c])]])) = true := by decide +kernel
  simp only [badL, List.mem_cons, List.not_mem_nil, or_false] at hd
  rcases hd with rfl | rfl | rfl | rfl | rfl | rfl | rfl
  · exact ⟨⟨rfl, rfl⟩, rfl, isF_eq (by decide +kernel)⟩
  · exact ⟨⟨rfl, rfl⟩, rfl, isF_eq (by decide +kernel)⟩
  · exact ⟨⟨rfl, small_str (by show 1 < 64; decide)⟩, pair_long (by show 1 ≠ 2; decide), ne_str⟩
  · exact ⟨⟨rfl, small_str (by decide)⟩, pair_long (by decide), ne_str⟩
  · exact ⟨⟨rfl, small_str (by show 3 < 64; decide)⟩, pair_long (by show 3 ≠ 2; decide), ne_str⟩
  · refine ⟨⟨rfl, small_str (by show 2 < 64; decide)⟩, ?_, ne_str⟩
    show ((sgns ("A" ++ ofC [c])).all (fun s => inT s h) && decide (("A" ++ ofC [c] : Str).length = 2)) = false
    have e : sgns ("A" ++ ofC [c]) = [("A" : Str), ofC [c]] := by
      unfold sgns
      rw [cat_cps]
      rfl
    rw [e, List.all_cons, inT_A cb, Bool.false_and, Bool.false_and]
  · exact ⟨⟨rfl, rfl⟩, rfl, isF_eq (h1 c (colours_alph cb c hc))⟩
def wrongL (h : Str) : List D := [.dic [(Sum.inr "", .str h)], .dic [(Sum.inr "aa", .str "")], .dic [(Sum.inr "a", .non)], .dic [(Sum.inr "a", .str "A")], .dic [(Sum.inl 1, .str h)], .lst [], .str "a", .int 5, .dic [(Sum.inr "a", .str h), (Sum.inr "B", .str "")]]
theorem okKv_of {L : List Addr} {kvs : List (Key × D)} (l : kvs.length < 64) (h1 : ∀ kv ∈ kvs, smallD (keyD kv.1) = true) (h2 : ∀ kv ∈ kvs, ∃ v, valD kvs kv.1 = some v ∧ (tag L v).isSome = true ∧ smallD v = true) : okKv L kvs := ⟨by have := sizeLine_eq; omega, h1, h2⟩
theorem val1 {k : Key} {v : D} : valD [(k, v)] k = some v := by
  unfold valD
  rw [List.find?_cons, decide_eq_true rfl]
  rfl
theorem ok1 {L : List Addr} {k : Key} {v : D} (hk : smallD (keyD k) = true) (hv : okPair L v) : okKv L [(k, v)] := okKv_of (by show 1 < 64; decide) (fun kv h => by rw [List.mem_singleton.mp h]; exact hk) fun kv h => by
  rw [List.mem_singleton.mp h]
  exact ⟨v, val1, hv⟩
theorem ne_dic {kvs : List (Key × D)} (f : flatKv kvs = true) (e : eqKv kvs kvs = true) : oNeA (.lst [.dic kvs]) (.lst [.dic kvs]) = some (.bl false) := by
  have e1 : oStrC true (.lst [.dic kvs]) (.lst [.dic kvs]) = none := rfl
  have e2 : oSeqC true (.lst [.dic kvs]) (.lst [.dic kvs]) = none := by
    have z : ∀ x : Option D, (if [D.dic kvs].all flatD = true ∧ [D.dic kvs].all flatD = true then x else none) = none := fun x => if_neg fun z => Bool.false_ne_true z.1
    exact z (some (.bl (!eqSeq [D.dic kvs] [D.dic kvs])))
  have e3 : oDicC true (.lst [.dic kvs]) (.lst [.dic kvs]) = none := rfl
  have e4 : oNeOne (.lst [.dic kvs]) (.lst [.dic kvs]) = some (.bl false) := if_pos ⟨f, f, e⟩
  simp only [orO, e1, e2, e3, e4]
theorem eq1 {k : Key} {v : D} (h : eqF v v = true) : eqKv [(k, v)] [(k, v)] = true := by
  unfold eqKv
  rw [List.all_cons, val1]
  simp [h]
theorem letB_all {h : Str} {kvs : List (Key × D)} : lettersB h (.dic kvs) = kvs.all fun kv => letterB (keyD kv.1) && match valD kvs kv.1 with
    | some v => someB h v
    | none => false := rfl
theorem wrong_ok {L : List Addr} {h : Str} (cb : coloursB (.str h) = true) : ∀ d ∈ wrongL h, (tag L d).isSome = true ∧ (∀ kvs, d = .dic kvs → okKv L kvs) ∧ lettersB h d = false ∧ oNeA (.lst [d]) (.lst [d]) = some (.bl false) := fun d hd => by
  have hl := colours_len cb
  have sh : smallD (.str h) = true := small_str (by omega)
  have fh : eqF (.str h) (.str h) = true := eqF_str
  simp only [wrongL, List.mem_cons, List.not_mem_nil, or_false] at hd
  rcases hd with rfl | rfl | rfl | rfl | rfl | rfl | rfl | rfl | rfl
  · refine ⟨rfl, fun kvs e => by cases e; exact ok1 (small_str (by decide)) ⟨rfl, sh⟩, ?_, ne_dic rfl (eq1 fh)⟩
    rw [letB_all, List.all_cons]
    dsimp only [keyD]
    rw [show letterB (.str "") = false from by decide +kernel, Bool.false_and, Bool.false_and]
  · refine ⟨rfl, fun kvs e => by cases e; exact ok1 (small_str (by decide)) ⟨rfl, small_str (by decide)⟩, ?_, ne_dic rfl (eq1 eqF_str)⟩
    rw [letB_all, List.all_cons]
    dsimp only [keyD]
    rw [show letterB (.str "aa") = false from by decide +kernel, Bool.false_and, Bool.false_and]
  · refine ⟨rfl, fun kvs e => by cases e; exact ok1 (small_str (by decide)) ⟨rfl, rfl⟩, ?_, ne_dic rfl (eq1 rfl)⟩
    rw [letB_all, List.all_cons, val1]
    dsimp only [keyD]
    rw [show someB h .non = false from rfl, Bool.and_false, Bool.false_and]
  · refine ⟨rfl, fun kvs e => by cases e; exact ok1 (small_str (by decide)) ⟨rfl, small_str (by decide)⟩, ?_, ne_dic rfl (eq1 eqF_str)⟩
    have : someB h (.str "A") = false := by
      show (sgns "A").all (fun s => inT s h) = false
      show (inT "A" h && true) = false
      rw [inT_A cb]; rfl
    rw [letB_all, List.all_cons, val1]
    dsimp only [keyD]
    rw [this, Bool.and_false, Bool.false_and]
  · refine ⟨rfl, fun kvs e => by cases e; exact ok1 rfl ⟨rfl, sh⟩, ?_, ne_dic rfl (eq1 fh)⟩
    rw [letB_all, List.all_cons]
    dsimp only [keyD]
    rw [show letterB (.int 1) = false from rfl, Bool.false_and, Bool.false_and]
  · exact ⟨rfl, (fun kvs e => nomatch e), rfl, isF_eq (by decide +kernel)⟩
  · exact ⟨rfl, (fun kvs e => nomatch e), rfl, isF_eq (by decide +kernel)⟩
  · exact ⟨rfl, (fun kvs e => nomatch e), rfl, isF_eq (by decide +kernel)⟩
  · have nAB : ((Sum.inr ("a" : Str) : Key) = Sum.inr ("B" : Str)) = False := by
      refine eq_false fun e => ?_
      revert e
      decide +kernel
    have v1 : valD [((Sum.inr ("a" : Str) : Key), D.str h), ((Sum.inr ("B" : Str) : Key), .str "")] (Sum.inr ("a" : Str)) = some (.str h) := by
      unfold valD
      rw [List.find?_cons, decide_eq_true rfl]
      rfl
    have v2 : valD [((Sum.inr ("a" : Str) : Key), D.str h), ((Sum.inr ("B" : Str) : Key), .str "")] (Sum.inr ("B" : Str)) = some (.str "") := by
      unfold valD
      rw [List.find?_cons, show decide ((Sum.inr ("a" : Str) : Key) = Sum.inr ("B" : Str)) = false from decide_eq_false (fun e => nAB.mp e)]
      dsimp only
      rw [List.find?_cons, decide_eq_true rfl]
      rfl
    refine ⟨rfl, fun kvs e => ?_, ?_, ne_dic rfl ?_⟩
    · cases e
      refine okKv_of (by show 2 < 64; decide) (fun kv hk => ?_) fun kv hk => ?_
      · simp only [List.mem_cons, List.not_mem_nil, or_false] at hk
        rcases hk with rfl | rfl <;> exact small_str (by decide)
      · simp only [List.mem_cons, List.not_mem_nil, or_false] at hk
        rcases hk with rfl | rfl
        · exact ⟨_, v1, rfl, sh⟩
        · exact ⟨_, v2, rfl, small_str (by decide)⟩
    · rw [letB_all, List.all_cons, List.all_cons]
      dsimp only [keyD]
      rw [show letterB (.str "B") = false from by decide +kernel, Bool.false_and, Bool.false_and, Bool.and_false]
    · unfold eqKv
      rw [List.all_cons, List.all_cons, v1, v2]
      simp [fh, eqF_str]
section
variable {P : Program} {w : World} {K : PySem.W.Frag} {mg : Str → Option Value} {base : Heap} {T : List (Addr × Str)} {L : List Addr}
abbrev sRefs : Stmt := top 27
abbrev qRefs : Str := (envOfC "_law_refusals_right" (defScope sRefs) 0 0 .none).qual ++ "<lambda>"
theorem scRefs : FnScope ["_law_pen", "_law_hues", "_law_pairs", "_law_signs", "_law_odd", "_law_lone", "_law_bad", "_law_at", "_law_wrong"] ["_law_pen", "_law_hues", "_law_pairs", "_law_signs"] (defScope sRefs) := ⟨rfl, rfl, rfl, by decide +kernel, rfl, by decide +kernel, by decide +kernel⟩
def RefsOk (F : List Sl → Mem → Re Sl) : Prop := ∀ (m : Mem) (i n : Nat) (o : MO) (ls : List MO) (h : Str) (ps : List Str) (sg : List (Str × Str)), i < m.length → PenO o n → n ≤ 800000 → AllOk (LM m i o ls) → GoodR h ps sg → 0 < h.length →
  ∃ o' : MO, F [.opq i, .dat (.str h), .dat (.lst (ps.map D.str)), .dat (.dic (sgD sg))] (LM m i o ls) = some (.ok (.dat (.bl true)), LM m i o' ls) ∧ PenO o' (n + 4)
theorem fx_refs {f c Pt aD aP aO aN CR CB CW gR : Addr} {fd fdD fdP fdO fdN fdR : FuncData} {FD FP FO FN : List Sl → Mem → Re Sl} (F : FunC K "_law_refusals_right" sRefs f fd c) (LK : LamK K mg CB CW gR fdR) (OW : Own K L) (KM : MakeK K mg CR aN fdN)
    (z_len : mg "len" = none)
    (GD : FnX P w K mg base T 1 aD fdD psPS FD) (AD : At K mg "_law_draw" aD fdD psPS) (oD : DrawOk FD)
    (GP : FnX P w K mg base T 2 aP fdP ["_law_pen", "_law_some"] FP) (AP : At K mg "_law_pick" aP fdP ["_law_pen", "_law_some"]) (oP : PickOk FP)
    (GO : FnX P w K mg base T 3 aO fdO ["_law_pen"] FO) (AO : At K mg "_law_strange" aO fdO ["_law_pen"]) (oO : StrangeOk FO)
    (GN : FnX P w K mg base T 4 aN fdN ["self", "colours", "beside", "letters"] FN) (oN : InitOk L CR CB FN)
    (TB : TabB base mg c Pt) (hmT : (Pt, qRefs) ∈ T) (huT : ∀ p ∈ T, p.1 = Pt → p.2 = qRefs) : ∃ F, FnXG P w K mg base T 8 f fd ["_law_pen", "_law_hues", "_law_pairs", "_law_signs"] F ∧ RefsOk F := by
  have nd := scRefs.nd
  obtain ⟨Fr, Ar, R, z_isinstance⟩ := LK
  obtain ⟨MK, mT, b3, b2, g, bK⟩ := KM
  refine ⟨_, FnXG.of (P := P) (w := w) (mg := mg) (base := base) (T := T) (k := 7) F scRefs (fun A outer s H E gd hr => (pssx_cons (psx_asg (px_tup (pax_cons (px_call (GO.mono (by decide)) hr rfl AO.mg AO.kp AO.bd .nil (fun _ => .nil) L2.passL (pax_cons (px_v 0) pax_nil)) (pax_cons (px_call (GP.mono (by decide)) hr rfl AP.mg AP.kp AP.bd .nil (fun _ => .nil) L2.passL (pax_cons (px_v 0) (pax_cons (px_lst (pax_cons px_non (pax_cons px_int (pax_cons px_bl (pax_cons px_dnewD (pax_cons px_str (pax_cons px_str (pax_cons (px_dispD (ppx_cons px_str px_str ppx_nil)) pax_nil)))))))) pax_nil))) pax_nil))) (pgx_tup rfl (pgsx_cons (pgx_name (i := 4) nd rfl (Or.inr rfl)) (pgsx_cons (pgx_name (i := 5) nd rfl (Or.inr rfl)) pgsx_nil)) (gl_cons (gl_cons gl_nil))))
(pssx_cons (psx_if (PWX.pt (pwx_or (ptx_cmp (op_neA hr.units) od_neA (px_refused (k := 5) Fr Ar R z_isinstance rfl TB rfl hmT huT (hr.mono (show 5 + 2 ≤ 7 by decide)) (show LamS (defScope sRefs) _ from LamX.lamS_by (by decide +kernel)) rfl (fun _ _ _ _ _ => rfl) (fun A2 outer2 s2 H2 E2 f2 c2 hr2L => (px_make MK GN hr2L rfl mT b3 .nil (fun _ => .nil) (passX (takes_of rfl rfl rfl rfl)) (pax_cons (px_v 4) (pax_cons px_int (pax_cons px_int pax_nil)))))) (px_lst (pax_cons (px_v 4) pax_nil)) (nomark _)) (pwx_or1 (ptx_cmp (op_neA hr.units) od_neA (px_refused (k := 5) Fr Ar R z_isinstance rfl TB rfl hmT huT (hr.mono (show 5 + 2 ≤ 7 by decide)) (show LamS (defScope sRefs) _ from LamX.lamS_by (by decide +kernel)) rfl (fun _ _ _ _ _ => rfl) (fun A2 outer2 s2 H2 E2 f2 c2 hr2L => (px_makeK (is := [0, 1, 2, 3]) (ks := ["beside", "letters"]) (dvs := []) (dds := []) MK GN hr2L rfl mT bK (fun _ => .nil) (passX (takes_of rfl rfl rfl rfl)) (pax_cons (px_v 1) pax_nil) (pkx_cons (px_v 5) (pkx_cons px_int pkx_nil))))) (px_lst (pax_cons (px_v 5) pax_nil)) (nomark _)))))
(pssx_one (psx_ret px_bl))
pssx_nil)
(pssx_cons (psx_set (i := 6) nd rfl (Or.inr rfl) (px_call (GP.mono (by decide)) hr rfl AP.mg AP.kp AP.bd .nil (fun _ => .nil) L2.passL (pax_cons (px_v 0) (pax_cons (px_lst (pax_cons px_non (pax_cons px_int (pax_cons (px_ix (px_v 1) px_int) (pax_cons px_str (pax_cons (px_op op_mulT od_mulT (px_ix (px_v 1) px_int) px_int) (pax_cons (px_op op_addU od_add px_str (px_ix (px_v 1) px_int)) (pax_cons (px_tup (pax_cons (px_ix (px_v 1) px_int) (pax_cons (px_ix (px_v 1) px_int) pax_nil))) pax_nil)))))))) pax_nil))))
(pssx_cons (psx_set (i := 7) nd rfl (Or.inr rfl) (px_call (GD.mono (by decide)) hr rfl AD.mg AD.kp AD.bd .nil (fun _ => .nil) L2.passL (pax_cons (px_v 0) (pax_cons (px_op op_addU od_add (px_callB call_lenU cd_len rfl z_len (by decide +kernel) (pax_cons (px_v 2) pax_nil)) px_int) pax_nil))))
(pssx_cons (psx_if (ptx_cmp (op_neA hr.units) od_neA (px_refused (k := 5) Fr Ar R z_isinstance rfl TB rfl hmT huT (hr.mono (show 5 + 2 ≤ 7 by decide)) (show LamS (defScope sRefs) _ from LamX.lamS_by (by decide +kernel)) rfl (fun _ _ _ _ _ => rfl) (fun A2 outer2 s2 H2 E2 f2 c2 hr2L => (px_make (dvs := [.non]) (dds := [.non]) MK GN hr2L rfl mT b2 (.cons rfl .nil) (fun _ => .cons .non .nil) (passX (takes_of rfl rfl rfl rfl)) (pax_cons (px_v 1) (pax_cons (px_op op_addU od_add (px_op op_addU od_add (px_op op_addU od_add (px_cut (px_v 2) pox_none (pox_some (px_v 7))) (px_lst (pax_cons (px_v 6) pax_nil))) (px_cut (px_v 2) (pox_some (px_v 7)) pox_none)) (px_lst (pax_cons px_int pax_nil))) pax_nil))))) (px_lst (pax_cons (px_v 6) pax_nil)) (nomark _))
(pssx_one (psx_ret px_bl))
pssx_nil)
(pssx_cons (psx_for PassesOwn.never rfl (pix_any (px_lst (pax_cons (px_dispD (ppx_cons px_str (px_v 1) ppx_nil)) (pax_cons (px_dispD (ppx_cons px_str px_str ppx_nil)) (pax_cons (px_dispD (ppx_cons px_str px_non ppx_nil)) (pax_cons (px_dispD (ppx_cons px_str px_str ppx_nil)) (pax_cons (px_dispD (ppx_cons px_int (px_v 1) ppx_nil)) (pax_cons (px_lst pax_nil) (pax_cons px_str (pax_cons px_int (pax_cons (px_dispD (ppx_cons px_str (px_v 1) (ppx_cons px_str px_str ppx_nil))) pax_nil))))))))))) (pgx_name (i := 8) nd rfl (Or.inr rfl))
(pssx_one (psx_if (ptx_cmp (op_neA hr.units) od_neA (px_refused (k := 5) Fr Ar R z_isinstance rfl TB rfl hmT huT (hr.mono (show 5 + 2 ≤ 7 by decide)) (show LamS (defScope sRefs) _ from LamX.lamS_by (by decide +kernel)) rfl (fun _ _ _ _ _ => rfl) (fun A2 outer2 s2 H2 E2 f2 c2 hr2L => (px_make MK GN hr2L rfl mT b3 .nil (fun _ => .nil) (passX (takes_of rfl rfl rfl rfl)) (pax_cons (px_v 1) (pax_cons (px_v 2) (pax_cons (px_v 8) pax_nil)))))) (px_lst (pax_cons (px_v 8) pax_nil)) (nomark _))
(pssx_one (psx_ret px_bl))
pssx_nil)))
(pssx_one (psx_ret (px_cmp (op_eqA hr.units) od_eqA (px_refused (k := 5) Fr Ar R z_isinstance rfl TB rfl hmT huT (hr.mono (show 5 + 2 ≤ 7 by decide)) (show LamS (defScope sRefs) _ from LamX.lamS_by (by decide +kernel)) rfl (fun _ _ _ _ _ => rfl) (fun A2 outer2 s2 H2 E2 f2 c2 hr2L => (px_make MK GN hr2L rfl mT b3 .nil (fun _ => .nil) (passX (takes_of rfl rfl rfl rfl)) (pax_cons (px_v 1) (pax_cons (px_v 2) (pax_cons px_non pax_nil)))))) (px_lst pax_nil) (nomark _))))))))))), ?_⟩
  intro m i n o ls h ps sg hi hp hn hA gr h0
  have hsz := sizeLine_eq
  obtain ⟨N1, N2, N3, N4, N5⟩ := oN
  have hAo : ∀ {o' : MO} {k : Nat}, PenO o' k → AllOk (LM m i o' ls) := fun h => hA.pen h.ok
  have cb := gr.c
  obtain ⟨odd, o1, e1, hodd, hp1⟩ := oO m i n o ls hi hp (by omega) hA
  obtain ⟨lone, o2, e2, hlone, hp2⟩ := oP m i (n + 1) o1 ls loneL hi hp1 (by omega) (by decide) (by decide)
  obtain ⟨k1, k2, k3⟩ := odd_ok (L := L) odd hodd
  obtain ⟨l1, l2, l3⟩ := lone_ok (L := L) lone hlone
  obtain ⟨c, hc⟩ : ∃ c, h.cps.toList[0]? = some c := ⟨_, List.getElem?_eq_getElem (by rw [Array.length_toList]; exact h0)⟩
  have hcm : c ∈ h.cps.toList := List.mem_of_getElem? hc
  have hix : oIx (.str h) (.int 0) = some (.str (ofC [c])) := by
    have hl := colours_len cb
    have hat : L2.atI h.cps.toList 0 = some c := L2.atI_nat (j := 0) hc
    show (if h.length ≤ sizeLine then (L2.atI h.cps.toList 0).map fun c => D.str ⟨#[c]⟩ else none) = _
    rw [if_pos (by omega), hat]
    rfl
  obtain ⟨bad, o3, e3, hbad, hp3⟩ := oP m i (n + 1 + 1) o2 ls (badL c) hi hp2 (by omega) (by show 0 < 7; decide) (by show 7 ≤ 1000; decide)
  obtain ⟨b1, b2', b3'⟩ := bad_ok (L := L) cb hcm bad hbad
  have ipl := gr.pl
  obtain ⟨at', o4, e4, a0, a9, hp4⟩ := oD.lm (ls := ls) hi hp3 (by omega) (L := (ps.length : Int) + 1) (by omega) (by omega)
  obtain ⟨at', rfl⟩ : ∃ a2 : Nat, at' = (a2 : Int) := ⟨at'.toNat, by omega⟩
  refine ⟨o4, ?_, hp4⟩
  refine dat_run (m' := LM m i o4 ls) ?_ (lm_tr _)
  show fSeq _ _ [some (.opq i), some (.dat (.str h)), some (.dat (.lst (ps.map D.str))), some (.dat (.dic (sgD sg))), none, none, none, none, none] _ = _
  have hh : ∀ (ρ : Rho) (m' : Mem), ρ[1]? = some (some (.dat (.str h))) → bindD (fV 1) (fun s => bindD (retD (.dat (.int 0))) fun t _ m => f2 oIx s t m) ρ m' = some (.ok (.dat (.str (ofC [c]))), m') := fun ρ m' e => ev_op (d := .str h) (by unfold fV; rw [e]) rfl hix
  have hm3 : oMulT (.str (ofC [c])) (.int 3) = some (.str (ofC [c, c, c])) := by
    have hok : okMulT (ofC [c]) 3 = true := by
      unfold okMulT
      simp only [Bool.and_eq_true, decide_eq_true_eq]
      exact ⟨⟨⟨⟨by decide, by decide⟩, by show 0 < 1; decide⟩, by show 1 ≤ 1000; decide⟩, by show 3 ≤ sizeLine; omega⟩
    show (if okMulT (ofC [c]) 3 = true then some (D.str (mulT (ofC [c]) 3)) else none) = _
    rw [if_pos hok]
    rfl
  have hcat : oAdd (.str "A") (.str (ofC [c])) = some (.str ("A" ++ ofC [c])) := by
    show (if ("A" : Str).length + (ofC [c]).length ≤ sizeLine then some (D.str ("A" ++ ofC [c])) else none) = _
    exact if_pos (by show 1 + 1 ≤ sizeLine; omega)
  have hpl : (ps.map D.str).length = ps.length := List.length_map ..
  obtain ⟨XS, hXS⟩ : ∃ XS, XS = (ps.map D.str).take at' ++ [bad] ++ (ps.map D.str).drop at' ++ [D.int 0] := ⟨_, rfl⟩
  have okS : ∀ x ∈ ps.map D.str, okPair L x ∧ pairB h x = true := fun x hx => by
    obtain ⟨p, hp', rfl⟩ := List.mem_map.mp hx
    exact ⟨⟨rfl, small_str (by have := pair_len (gr.p p hp'); omega)⟩, gr.p p hp'⟩
  have okX : ∀ x ∈ XS, okPair L x := fun x hx => by
    rw [hXS] at hx
    rcases List.mem_append.mp hx with hx | hx
    · rcases List.mem_append.mp hx with hx | hx
      · rcases List.mem_append.mp hx with hx | hx
        · exact (okS x (List.mem_of_mem_take hx)).1
        · rw [List.mem_singleton.mp hx]; exact b1
      · exact (okS x (List.mem_of_mem_drop hx)).1
    · rw [List.mem_singleton.mp hx]; exact ⟨rfl, rfl⟩
  have fX : (XS.find? fun x => !pairB h x) = some bad := by
    have t0 : ((ps.map D.str).take at').find? (fun x => !pairB h x) = none := List.find?_eq_none.mpr fun x hx => by
      rw [(okS x (List.mem_of_mem_take hx)).2]; simp
    rw [hXS, List.append_assoc, List.append_assoc, List.find?_append, t0, Option.none_or, List.singleton_append, List.find?_cons, b2']
    rfl
  have lenT : ((ps.map D.str).take at').length ≤ ps.length := by rw [List.length_take, hpl]; omega
  have lenD : ((ps.map D.str).drop at').length ≤ ps.length := by rw [List.length_drop, hpl]; omega
  refine (ev_seq (ρ2 := [some (.opq i), some (.dat (.str h)), some (.dat (.lst (ps.map D.str))), some (.dat (.dic (sgD sg))), some (.dat odd), some (.dat lone), none, none, none]) (m2 := LM m i o2 ls) ?_).trans ?_
  · refine ev_asg (s := .dat (.tup [odd, lone])) (ev_tup2 (m1 := LM m i o1 ls) (ev_callOne (s := .opq i) (m1 := LM m i o ls) rfl e1) (ev_call2 (s := .opq i) (t := .dat (.lst loneL)) (m1 := LM m i o1 ls) (m2 := LM m i o1 ls) rfl rfl e2)) rfl
  refine (ev_seq (ρ2 := [some (.opq i), some (.dat (.str h)), some (.dat (.lst (ps.map D.str))), some (.dat (.dic (sgD sg))), some (.dat odd), some (.dat lone), none, none, none]) (m2 := LM m i o2 ls) ?_).trans ?_
  · refine (ev_if0 (m1 := LM m i o2 ls) (ev_or0 (m1 := LM m i o2 ls) (ev_same (d := odd) (ev_made (ss := [.dat odd, .dat (.int 0), .dat (.int 0)]) rfl (N2 _ _ odd _ _ k1 k2) (hAo hp2)) rfl k3) ?_)).trans rfl
    exact ev_same (d := lone) (ev_madeK (ss := [.dat (.str h)]) (zs := [.dat lone, .dat (.int 0)]) rfl rfl (N3 _ _ h lone _ cb l1 l2) (hAo hp2)) rfl l3
  refine (ev_seq (ρ2 := [some (.opq i), some (.dat (.str h)), some (.dat (.lst (ps.map D.str))), some (.dat (.dic (sgD sg))), some (.dat odd), some (.dat lone), some (.dat bad), none, none]) (m2 := LM m i o3 ls) ?_).trans ?_
  · refine ev_set (s := .dat bad) (ev_call2 (s := .opq i) (t := .dat (.lst (badL c))) (m1 := LM m i o2 ls) (m2 := LM m i o2 ls) rfl ?_ e3)
    refine (ev_bind (x := (badL c).map Sl.dat) (m2 := LM m i o2 ls) ?_).trans rfl
    exact ev_cons rfl (ev_cons rfl (ev_cons (hh _ _ rfl) (ev_cons rfl (ev_cons (ev_op (hh _ _ rfl) rfl hm3) (ev_cons (ev_op rfl (hh _ _ rfl) hcat) (ev_cons (ev_tup2 (hh _ _ rfl) (hh _ _ rfl)) rfl))))))
  refine (ev_seq (ρ2 := [some (.opq i), some (.dat (.str h)), some (.dat (.lst (ps.map D.str))), some (.dat (.dic (sgD sg))), some (.dat odd), some (.dat lone), some (.dat bad), some (.dat (.int (at' : Int))), none]) (m2 := LM m i o4 ls) ?_).trans ?_
  · have hlen : oLen [.lst (ps.map D.str)] = some (.int ps.length) := by show some (D.int _) = _; rw [hpl]
    exact ev_set (s := .dat (.int (at' : Int))) (ev_call2 (s := .opq i) (t := .dat (.int ((ps.length : Int) + 1))) (m1 := LM m i o3 ls) (m2 := LM m i o3 ls) rfl (ev_op (ev_call1 (d := .lst (ps.map D.str)) rfl hlen) rfl rfl) e4)
  refine (ev_seq (ρ2 := [some (.opq i), some (.dat (.str h)), some (.dat (.lst (ps.map D.str))), some (.dat (.dic (sgD sg))), some (.dat odd), some (.dat lone), some (.dat bad), some (.dat (.int (at' : Int))), none]) (m2 := LM m i o4 ls) ?_).trans ?_
  · refine (ev_if0 (m1 := LM m i o4 ls) (ev_same (d := bad) (ev_made (ss := [.dat (.str h), .dat (.lst XS)]) (ev_cons rfl (ev_cons ?_ rfl)) (N4 _ _ h (.lst XS) XS (.dat .non) bad cb rfl rfl okX fX) (hAo hp4)) rfl b3')).trans rfl
    have c1 : fCut (fV 2) (retD none) (fPart (fV 7)) [some (.opq i), some (.dat (.str h)), some (.dat (.lst (ps.map D.str))), some (.dat (.dic (sgD sg))), some (.dat odd), some (.dat lone), some (.dat bad), some (.dat (.int (at' : Int))), none] (LM m i o4 ls) = some (.ok (.dat (.lst ((ps.map D.str).take at'))), LM m i o4 ls) := by
      show some (Except.ok (Sl.dat (D.lst (Pu.cutD (ps.map D.str) none (some (at' : Int))))), LM m i o4 ls) = _
      rw [cut_to]
    have c2 : fCut (fV 2) (fPart (fV 7)) (retD none) [some (.opq i), some (.dat (.str h)), some (.dat (.lst (ps.map D.str))), some (.dat (.dic (sgD sg))), some (.dat odd), some (.dat lone), some (.dat bad), some (.dat (.int (at' : Int))), none] (LM m i o4 ls) = some (.ok (.dat (.lst ((ps.map D.str).drop at'))), LM m i o4 ls) := by
      show some (Except.ok (Sl.dat (D.lst (Pu.cutD (ps.map D.str) (some (at' : Int)) none))), LM m i o4 ls) = _
      rw [cut_from]
    rw [hXS]
    refine ev_op (d := .lst ((ps.map D.str).take at' ++ [bad] ++ (ps.map D.str).drop at')) (ev_op (d := .lst ((ps.map D.str).take at' ++ [bad])) (ev_op (d := .lst ((ps.map D.str).take at')) (e := .lst [bad]) c1 (ev_l1 (d := bad) rfl) ?_) c2 ?_) (ev_l1 (d := .int 0) rfl) ?_
    · exact if_pos (by show _ + 1 ≤ sizeLine; omega)
    · exact if_pos (by rw [List.length_append]; show _ + 1 + _ ≤ sizeLine; omega)
    · exact if_pos (by rw [List.length_append, List.length_append]; show _ + 1 + _ + 1 ≤ sizeLine; omega)
  obtain ⟨ρ', m', ef, rfl, s8, rfl⟩ := for_ex (g := gN 8) (b := (fIfS (fB (bindD (fLam (refR CB) (fMake CR FN [] (fCons (fV 1) (fCons (fV 2) (fCons (fV 8) (retD [])))))) fun s => bindD (bindD (fCons (fV 8) (retD [])) fun ss _ m => fD oLst ss m) fun t _ m => f2 oNeA s t m)) (fRet (retD (.dat (.bl false)))) fNext)) (it := (fIterA (bindD (fCons (fDispD (fPair (retD (.dat (.str ""))) (fV 1) (retD []))) (fCons (fDispD (fPair (retD (.dat (.str "aa"))) (retD (.dat (.str ""))) (retD []))) (fCons (fDispD (fPair (retD (.dat (.str "a"))) (retD (.dat .non)) (retD []))) (fCons (fDispD (fPair (retD (.dat (.str "a"))) (retD (.dat (.str "A"))) (retD []))) (fCons (fDispD (fPair (retD (.dat (.int 1))) (fV 1) (retD []))) (fCons (bindD (retD []) fun ss _ m => fD oLst ss m) (fCons (retD (.dat (.str "a"))) (fCons (retD (.dat (.int 5))) (fCons (fDispD (fPair (retD (.dat (.str "a"))) (fV 1) (fPair (retD (.dat (.str "B"))) (retD (.dat (.str ""))) (retD [])))) (retD [])))))))))) fun ss _ m => fD oLst ss m))) (fun _ ρ m' => m' = LM m i o4 ls ∧ ∃ s8, ρ = [some (.opq i), some (.dat (.str h)), some (.dat (.lst (ps.map D.str))), some (.dat (.dic (sgD sg))), some (.dat odd), some (.dat lone), some (.dat bad), some (.dat (.int (at' : Int))), s8])
    (ds := wrongL h) (ρ := [some (.opq i), some (.dat (.str h)), some (.dat (.lst (ps.map D.str))), some (.dat (.dic (sgD sg))), some (.dat odd), some (.dat lone), some (.dat bad), some (.dat (.int (at' : Int))), none]) (m := LM m i o4 ls) (m0 := LM m i o4 ls)
    (by
      unfold fIterA
      refine (ev_bind (x := .dat (.lst (wrongL h))) (m2 := LM m i o4 ls) ?_).trans rfl
      rfl) ⟨rfl, none, rfl⟩ (by
      rintro _ ρ m' d _ hd ⟨rfl, s8, rfl⟩
      obtain ⟨w1, w2, w3, w4⟩ := wrong_ok (L := L) cb d hd
      refine ⟨_, [some (.opq i), some (.dat (.str h)), some (.dat (.lst (ps.map D.str))), some (.dat (.dic (sgD sg))), some (.dat odd), some (.dat lone), some (.dat bad), some (.dat (.int (at' : Int))), some (.dat d)], LM m i o4 ls, rfl, ?_, rfl, _, rfl⟩
      exact (ev_if0 (m1 := LM m i o4 ls) (ev_same (d := d) (ev_made (ss := [.dat (.str h), .dat (.lst (ps.map D.str)), .dat d]) rfl (N5 _ _ h (.lst (ps.map D.str)) ps d cb rfl rfl gr.p w1 w2 w3) (hAo hp4)) rfl w4)).trans rfl)
  refine (ev_seq ef).trans ?_
  have g0 : GoodR h ps [] := ⟨gr.c, gr.p, gr.pl, rfl, by decide, List.nodup_nil, by simp⟩
  refine ev_ret (m2 := LM m i o4 ls) (ev_op (d := .lst []) (e := .lst []) (c := .bl true) (ev_made_fine (s := .dat (.ins CR (ruleF h ps []))) (ev_makes (gs := ruleF h ps []) (ss := [.dat (.str h), .dat (.lst (ps.map D.str)), .dat .non]) rfl ((N1 _ _ h (.dat (.lst (ps.map D.str))) (.lst (ps.map D.str)) ps (.dat .non) [] get_made g0 (.inl rfl) rfl rfl (.inr ⟨rfl, rfl⟩)).trans ?_) (hAo hp4))) rfl rfl)
  rw [set_made]
end
end K58
namespace Pu
open PySem PySem.Spec PyProof.Rows L2
/-- the store stays as it is -/
def Kp {α : Type} (f : Rho → Mem → Re α) : Prop := ∀ ρ m a m', f ρ m = some (.ok a, m') → m' = m
theorem kp_bind {α β : Type} {f : Rho → Mem → Re α} {g : α → Rho → Mem → Re β} (h : Kp f) (k : ∀ a, Kp (g a)) : Kp (bindD f g) := fun ρ m b m' e => by
  unfold bindD bindR at e
  cases h1 : f ρ m with
  | none => rw [h1] at e; cases e
  | some z =>
    obtain ⟨z, m1⟩ := z
    rw [h1] at e
    cases z with
    | error w => cases e
    | ok a => rw [k a ρ m1 b m' e, h ρ m a m1 h1]
theorem kp_ret {α : Type} {a : α} : Kp (retD a) := fun ρ m b m' e => by cases e; rfl
theorem kp_v {i : Nat} : Kp (fV i) := fun ρ m b m' e => by
  unfold fV at e
  split at e
  · cases e; rfl
  · cases e
theorem kp_f2 {o : D → D → Option D} {s t : Sl} : Kp (fun _ m => f2 o s t m) := fun ρ m b m' e => by
  dsimp only [f2] at e
  split at e
  · obtain ⟨c, _, _, rfl⟩ := liftO_ok e; rfl
  · cases e
theorem kp_fN {o : List D → Option D} {ss : List Sl} : Kp (fun _ m => fN o ss m) := fun ρ m b m' e => by
  dsimp only [fN] at e
  split at e
  · obtain ⟨c, _, _, rfl⟩ := liftO_ok e; rfl
  · cases e
theorem kp_fD {o : List D → Option D} {ss : List Sl} : Kp (fun _ m => fD o ss m) := fun ρ m b m' e => by
  dsimp only [fD] at e
  split at e
  · obtain ⟨c, _, _, rfl⟩ := liftO_ok e; rfl
  · cases e
theorem kp_cons {f : Rho → Mem → Re Sl} {fs : Rho → Mem → Re (List Sl)} (h : Kp f) (k : Kp fs) : Kp (fCons f fs) := kp_bind h fun _ => kp_bind k fun _ ρ m b m' e => by cases e; rfl
theorem kp_part {f : Rho → Mem → Re Sl} (h : Kp f) : Kp (fPart f) := kp_bind h fun s ρ m b m' e => by
  try dsimp only at e
  split at e
  · cases e; rfl
  · cases e
theorem kp_cut {f : Rho → Mem → Re Sl} {l u : Rho → Mem → Re (Option Int)} (h : Kp f) (hl : Kp l) (hu : Kp u) : Kp (fCut f l u) := kp_bind h fun s => kp_bind hl fun lo => kp_bind hu fun hi ρ m b m' e => by
  try dsimp only at e
  split at e
  · obtain ⟨c, _, _, rfl⟩ := liftO_ok e; rfl
  · cases e
theorem kp_pair {f g : Rho → Mem → Re Sl} {r : Rho → Mem → Re (List (Key × D))} (h : Kp f) (k : Kp g) (q : Kp r) : Kp (fPair f g r) := kp_bind h fun s => kp_bind k fun t => kp_bind q fun ps ρ m b m' e => by
  try dsimp only at e
  split at e
  · split at e
    · cases e; rfl
    · cases e
  · cases e
theorem hno_of {r : Rho → Mem → Re (List (Key × D))} (h : Kp r) : ∀ ρ m ps m', r ρ (m ++ [.dic []]) = some (.ok ps, m') → m'[m.length]? = some (.dic []) := fun ρ m ps m' e => by
  rw [h ρ _ ps m' e]
  simp
end Pu
namespace K58
open PySem PySem.Spec PyProof.Rows L2 Pu SeK EV
open LamX (Tabs TabB LamS)
/-! hues -/
theorem hues_ok {ws : List Str} (nd : ws.Nodup) (h1 : ∀ s ∈ ws, s.length = 1 ∧ inT s alph = true) (l1 : 1 ≤ ws.length) (l4 : ws.length ≤ 4) : coloursB (.str (Txt.join "" ws)) = true := by
  have e1 : ∀ s ∈ ws, s.length = 1 := fun s hs => (h1 s hs).1
  unfold coloursB
  dsimp only
  rw [join_sgns e1, join_len e1, once_id nd]
  simp only [Bool.and_eq_true, decide_eq_true_eq]
  exact ⟨⟨l1, l4⟩, List.all_eq_true.mpr fun s hs => (h1 s hs).2, trivial⟩
theorem words_ok : ∀ z ∈ ([("abcd" : Str), "mzkq", "wxyz"] : List Str), (sgns z).Nodup ∧ (sgns z).length = 4 ∧ ∀ s ∈ sgns z, s.length = 1 ∧ inT s alph = true := by decide +kernel
/-! what is turned round is the same rule -/
theorem sgns_rev (z : Str) : sgns (revT z) = (sgns z).reverse := by
  unfold sgns
  rw [rev_cps, List.map_reverse]
theorem ord_rev (z : Str) : ordT (revT z) = ordT z := by
  unfold ordT
  rw [sgns_rev, srt_congr (List.reverse_perm _)]
theorem asc_rev (z : Str) : ascT (revT z) = ascT z := by
  unfold ascT
  rw [sgns_rev, srt_once fun x => List.mem_reverse]
theorem bes_rev (ps : List Str) : besS (ps.reverse.map revT) = besS ps := by
  unfold besS
  rw [List.map_map]
  refine srt_once fun x => ?_
  have e : (ordT ∘ revT) = ordT := funext ord_rev
  rw [e, List.mem_map, List.mem_map]
  exact ⟨fun ⟨a, h, z⟩ => ⟨a, List.mem_reverse.mp h, z⟩, fun ⟨a, h, z⟩ => ⟨a, List.mem_reverse.mpr h, z⟩⟩
theorem let_self {sg : List (Str × Str)} : eqKv (letS sg) (letS sg) = true := by
  unfold eqKv
  rw [Bool.and_eq_true]
  refine ⟨beq_self_eq_true _, List.all_eq_true.mpr fun kv hkv => ?_⟩
  unfold letS at hkv ⊢
  obtain ⟨z, hz, rfl⟩ := List.mem_map.mp hkv
  dsimp only
  rw [valD_map (v := fun z => D.str (ascT (valS sg z))) hz]
  exact eqF_str
theorem eqB_twin {h : Str} {ps : List Str} {sg : List (Str × Str)} : eqB h ps sg (revT h) (ps.reverse.map revT) sg = true := by
  unfold eqB
  rw [asc_rev, bes_rev, let_self, decide_eq_true rfl, decide_eq_true rfl]
  rfl
theorem eqB_self {h : Str} {ps : List Str} {sg : List (Str × Str)} : eqB h ps sg h ps sg = true := by
  unfold eqB
  rw [let_self, decide_eq_true rfl, decide_eq_true rfl]
  rfl
theorem eqB_other {h : Str} {ps : List Str} {sg : List (Str × Str)} {q : Str × Str} : eqB h ps sg h ps (sg ++ [q]) = false := by
  unfold eqB
  have e : eqKv (letS sg) (letS (sg ++ [q])) = false := by
    unfold eqKv
    have : ((letS sg).length == (letS (sg ++ [q])).length) = false := by
      unfold letS
      rw [List.length_map, List.length_map, (srt_perm _).length_eq, (srt_perm _).length_eq, List.length_map, List.length_map, List.length_append]
      exact beq_false_of_ne (by simp)
    rw [this, Bool.false_and]
  rw [e, Bool.and_false, Bool.and_false]
/-! rules made of a good rule's parts -/
theorem pair_rev {h p : Str} (k : pairB h (.str p) = true) : pairB (revT h) (.str (revT p)) = true := by
  have k2 : ((sgns p).all (fun s => inT s h) && decide (p.length = 2)) = true := k
  show ((sgns (revT p)).all (fun s => inT s (revT h)) && decide ((revT p).length = 2)) = true
  rw [Bool.and_eq_true] at k2 ⊢
  have el : (revT p).length = p.length := Array.size_reverse
  rw [el]
  refine ⟨List.all_eq_true.mpr fun s hs => ?_, k2.2⟩
  rw [sgns_rev] at hs
  have z := List.all_eq_true.mp k2.1 s (List.mem_reverse.mp hs)
  obtain ⟨c, hc, e⟩ := sgn_cps (List.mem_reverse.mp hs)
  have es : s = ofC [c] := by rw [str_ofC s, e]
  rw [es, inT_one] at z ⊢
  rw [rev_cps]
  exact decide_eq_true (List.mem_reverse.mpr (of_decide_eq_true z))
theorem inT_rev {h s : Str} (l : s.length = 1) : inT s (revT h) = inT s h := by
  have hl : s.cps.toList.length = 1 := by rw [Array.length_toList]; exact l
  obtain ⟨c, hc⟩ := List.length_eq_one_iff.mp hl
  have es : s = ofC [c] := by rw [str_ofC s, hc]
  rw [es, inT_one, inT_one, rev_cps]
  exact decide_eq_decide.mpr List.mem_reverse
theorem some_rev {h : Str} {d : D} : someB (revT h) d = someB h d := by
  cases d <;> try rfl
  rename_i z
  show (sgns z).all _ = (sgns z).all _
  have : ∀ s ∈ sgns z, inT s (revT h) = inT s h := fun s hs => inT_rev (sgn_len hs)
  rw [Bool.eq_iff_iff, List.all_eq_true, List.all_eq_true]
  exact ⟨fun k s hs => (this s hs) ▸ k s hs, fun k s hs => (this s hs).symm ▸ k s hs⟩
theorem colours_rev {h : Str} (c : coloursB (.str h) = true) : coloursB (.str (revT h)) = true := by
  have nd := coloursB_nd c
  unfold coloursB at c ⊢
  have el : (revT h).length = h.length := Array.size_reverse
  simp only [Bool.and_eq_true, decide_eq_true_eq] at c ⊢
  rw [sgns_rev, el, once_id ((List.reverse_perm _).nodup_iff.mpr nd), List.length_reverse, sgns_len]
  exact ⟨c.1, by rw [List.all_reverse]; exact c.2.1, rfl⟩
theorem GoodR.twin {h : Str} {ps : List Str} {sg : List (Str × Str)} (g : GoodR h ps sg) : GoodR (revT h) (ps.reverse.map revT) sg := by
  refine ⟨colours_rev g.c, fun p hp => ?_, by rw [List.length_map, List.length_reverse]; exact g.pl, ?_, g.ln, g.nd, g.lv⟩
  · obtain ⟨q, hq, rfl⟩ := List.mem_map.mp hp
    exact pair_rev (g.p q (List.mem_reverse.mp hq))
  · have l := g.l
    rw [letB_all] at l ⊢
    have e : ∀ v, someB (revT h) v = someB h v := fun v => some_rev
    simp only [e]
    exact l
theorem GoodR.none {h : Str} {ps : List Str} {sg : List (Str × Str)} (g : GoodR h ps sg) : GoodR h ps [] := ⟨g.c, g.p, g.pl, rfl, by decide, List.nodup_nil, by simp⟩
end K58
namespace K58
open PySem PySem.Spec PyProof.Rows L2 Pu SeK EV
open LamX (Tabs TabB LamS)
theorem valD_app {kvs r : List (Key × D)} {k : Key} {v : D} (h : valD kvs k = some v) : valD (kvs ++ r) k = some v := by
  unfold valD at h ⊢
  rw [List.find?_append]
  cases e : kvs.find? fun kv => decide (kv.1 = k) with
  | none => rw [e] at h; cases h
  | some p => rw [e] at h; exact h
theorem valD_new {kvs : List (Key × D)} {k : Key} {v : D} (h : k ∉ kvs.map (·.1)) : valD (kvs ++ [(k, v)]) k = some v := by
  unfold valD
  rw [List.find?_append]
  have e : kvs.find? (fun kv => decide (kv.1 = k)) = none := List.find?_eq_none.mpr fun kv hk => by
    rw [decide_eq_true_eq]
    rintro rfl
    exact h (List.mem_map.mpr ⟨kv, hk, rfl⟩)
  rw [e, Option.none_or, List.find?_cons, decide_eq_true rfl]
  rfl
theorem ev_lcNone {it : Rho → Mem → Re (List D)} {g : Sl → Rho → Option Rho} {p : Rho → Mem → Re Bool} {f : Rho → Mem → Re Sl} {vs : List Nat} {ρ : Rho} {m : Mem} {ds : List D} (hit : it ρ m = some (.ok ds, m)) (hz : ds.length < sizeLine) (hd : ∀ d ∈ ds, ∃ ρ1, g (.dat d) (wipeR ρ vs) = some ρ1 ∧ p ρ1 m = some (.ok false, m)) :
    fLcE it g p f vs ρ m = some (.ok (.dat (.lst [])), m) := by
  unfold fLcE
  rw [ev_bind hit]
  unfold fLcD
  rw [if_pos hz]
  have key : ∀ (ds : List D), (∀ d ∈ ds, ∃ ρ1, g (.dat d) (wipeR ρ vs) = some ρ1 ∧ p ρ1 m = some (.ok false, m)) → fLc g p f (wipeR ρ vs) ds m = some ([], m) := by
    intro ds
    induction ds with
    | nil => intro _; rfl
    | cons d ds ih =>
      intro hd
      obtain ⟨ρ1, e1, e2⟩ := hd d List.mem_cons_self
      unfold fLc
      simp only [e1, e2]
      exact ih fun x hx => hd x (List.mem_cons_of_mem _ hx)
  rw [key ds hd]
theorem ev_and0 {p q : Rho → Mem → Re Bool} {ρ : Rho} {m m1 : Mem} (h : p ρ m = some (.ok false, m1)) : fAnd p q ρ m = some (.ok false, m1) := by
  unfold fAnd
  exact (ev_bind h).trans rfl
theorem ev_and1 {p q : Rho → Mem → Re Bool} {ρ : Rho} {m m1 : Mem} {R : Re Bool} (h : p ρ m = some (.ok true, m1)) (hq : q ρ m1 = R) : fAnd p q ρ m = R := by
  unfold fAnd
  exact (ev_bind h).trans hq
theorem GoodR.more {h : Str} {ps : List Str} {sg : List (Str × Str)} (g : GoodR h ps sg) (l : sg.length < 8) (qn : (Sum.inr ("q" : Str) : Key) ∉ (sgD sg).map (·.1)) : GoodR h ps (sg ++ [(("q" : Str), ("" : Str))]) := by
  have e : sgD (sg ++ [(("q" : Str), ("" : Str))]) = sgD sg ++ [((Sum.inr ("q" : Str) : Key), D.str "")] := by unfold sgD; rw [List.map_append]; rfl
  refine ⟨g.c, g.p, g.pl, ?_, by rw [List.length_append]; show sg.length + 1 < 64; omega, ?_, fun q hq => ?_⟩
  · rw [letB_all, e, List.all_append, Bool.and_eq_true]
    have lB := g.l
    rw [letB_all] at lB
    refine ⟨List.all_eq_true.mpr fun kv hkv => ?_, ?_⟩
    · have z := List.all_eq_true.mp lB kv hkv
      cases hv : valD (sgD sg) kv.1 with
      | none => rw [hv, Bool.and_false] at z; cases z
      | some v => rw [hv] at z; rw [valD_app hv]; exact z
    · rw [List.all_cons, valD_new qn]
      show (letterB (.str "q") && someB h (.str "") && true) = true
      rw [show letterB (.str "q") = true from by decide +kernel]
      rfl
  · rw [List.map_append, List.nodup_append]
    refine ⟨g.nd, by simp, fun a ha b hb => ?_⟩
    simp only [List.map_cons, List.map_nil, List.mem_singleton] at hb
    rw [hb]
    rintro rfl
    refine qn ?_
    have e2 : (sgD sg).map (·.1) = (sg.map (·.1)).map Sum.inr := by unfold sgD; rw [List.map_map, List.map_map]; rfl
    rw [e2]
    exact List.mem_map.mpr ⟨_, ha, rfl⟩
  · rcases List.mem_append.mp hq with hq | hq
    · exact g.lv q hq
    · rw [List.mem_singleton.mp hq]
      exact ⟨by decide, by decide⟩
theorem seq_for {it : Rho → Mem → Re (List D)} {g : Sl → Rho → Option Rho} {b rest : Rho → Mem → RS} (I : Nat → Rho → Mem → Prop) {ds : List D} {ρ : Rho} {m m0 : Mem} {v : Sl} (hit : it ρ m0 = some (.ok ds, m)) (h : I 0 ρ m) (hr : ∀ ρ' m', I ds.length ρ' m' → ∃ m2, rest ρ' m' = some (.rt v, m2)) (k : ∀ n ρ m d, n < ds.length → d ∈ ds → I n ρ m → ∃ ρ1 ρ2 m2, g (.dat d) ρ = some ρ1 ∧ b ρ1 m = some (.nx ρ2, m2) ∧ I (n + 1) ρ2 m2) :
    ∃ m2, fSeq (fForS it g b) rest ρ m0 = some (.rt v, m2) := by
  obtain ⟨ρ', m', e, i⟩ := for_ex (g := g) (b := b) (it := it) I hit h k
  obtain ⟨m2, e2⟩ := hr ρ' m' i
  exact ⟨m2, (ev_seq e).trans e2⟩
theorem run0 {gg : Rho → Mem → RS} {n : Nat} {ss : List Sl} {d : D} (h : ∃ m', gg (ss.map some ++ List.replicate (n - ss.length) none) [] = some (.rt (.dat d), m')) : runF gg n ss [] = some (.ok (.dat d), []) := by
  obtain ⟨m', e⟩ := h
  unfold runF
  rw [e]
  show trim 0 _ m' = _
  unfold trim
  by_cases c : m'.length = 0
  · rw [if_pos c, List.length_eq_zero_iff.mp c]
  · rw [if_neg c]
    rfl
theorem ev_par {i j : Nat} {f g : Rho → Mem → Re Sl} {ρ : Rho} {m m1 m2 : Mem} {s t : Sl} (hf : f ρ m = some (.ok s, m1)) (hg : g ρ m1 = some (.ok t, m2)) : fPar i j (fCons f (fCons g (retD []))) ρ m = some (.nx ((ρ.set i (some s)).set j (some t)), m2) := by
  unfold fPar
  rw [ev_cons hf (ev_cons hg rfl)]
  rfl
theorem ev_callL {F : List Sl → Mem → Re Sl} {fa : Rho → Mem → Re (List Sl)} {ρ : Rho} {m m1 : Mem} {ss : List Sl} {R : Re Sl} (hf : fa ρ m = some (.ok ss, m1)) (h : F ss m1 = R) : fCall F [] fa ρ m = R := by
  unfold fCall
  refine (ev_bind hf).trans ?_
  rw [List.map_nil, List.append_nil]
  exact h
theorem ev_callG {F : List Sl → Mem → Re Sl} {fa : Rho → Mem → Re (List Sl)} {ρ : Rho} {m m1 m2 : Mem} {ss : List Sl} {s : Sl} (hf : fa ρ m = some (.ok ss, m1)) (h : F ss m1 = some (.ok s, m2)) : fCallG F fa ρ m = some (.ok s, m2) := by
  unfold fCallG
  refine (ev_bind hf).trans ?_
  show okR (F ss m1) = _
  rw [h]
  rfl
theorem ev_not {p : Rho → Mem → Re Bool} {ρ : Rho} {m m1 : Mem} {b : Bool} (h : p ρ m = some (.ok b, m1)) : fNot p ρ m = some (.ok (!b), m1) := by
  unfold fNot
  exact (ev_bind h).trans rfl
theorem ev_fB {f : Rho → Mem → Re Sl} {ρ : Rho} {m m1 : Mem} {b : Bool} (h : f ρ m = some (.ok (.dat (.bl b)), m1)) : fB f ρ m = some (.ok b, m1) := by
  unfold fB
  exact (ev_bind h).trans rfl
theorem ev_do {f : Rho → Mem → Re Sl} {ρ : Rho} {m m2 : Mem} {s : Sl} (h : f ρ m = some (.ok s, m2)) : fDo f ρ m = some (.nx ρ, m2) := by
  unfold fDo
  rw [h]
  rfl
theorem ev_makesK0 {C : Addr} {F : List Sl → Mem → Re Sl} {is : List Nat} {dds : List D} {fk : Rho → Mem → Re (List Sl)} {ρ : Rho} {m : Mem} {zs : List Sl} {gs : List (Str × D)} (hk : fk ρ m = some (.ok zs, m)) (hF : F (pk is (.opq m.length :: (zs ++ dds.map Sl.dat))) (m ++ [.ins C []]) = some (.ok (.dat .non), m ++ [.ins C gs])) (hA : AllOk m) : fMakeK0 C F is dds fk ρ m = some (.ok (.dat (.ins C gs)), m) := by
  unfold fMakeK0
  refine (ev_bind hk).trans ?_
  rw [hF]
  unfold mkOut
  dsimp only
  rw [get_made, cut_back hA]
  dsimp only
  rw [if_pos rfl]
theorem hues_step {ws : List Str} {z : Str} {k : Nat} (hz : z ∈ ([("abcd" : Str), "mzkq", "wxyz"] : List Str)) (pw : ws.Perm (sgns z)) (k1 : 1 ≤ k) (k4 : k ≤ 4) : coloursB (.str (Txt.join "" (ws.take k))) = true ∧ (Txt.join "" (ws.take k)).length = k ∧ ∀ s ∈ ws.take k, s.length = 1 := by
  obtain ⟨n1, n2, n3⟩ := words_ok z hz
  have nw : (ws.take k).Nodup := (List.take_sublist _ _).nodup (pw.nodup_iff.mpr n1)
  have hl : (ws.take k).length = k := by rw [List.length_take, pw.length_eq, n2]; omega
  have h3 : ∀ s ∈ ws.take k, s.length = 1 ∧ inT s alph = true := fun s hs => n3 s (pw.mem_iff.mp (List.mem_of_mem_take hs))
  exact ⟨hues_ok nw h3 (by omega) (by omega), by rw [join_len fun s hs => (h3 s hs).1, hl], fun s hs => (h3 s hs).1⟩
section
variable {P : Program} {w : World} {K : PySem.W.Frag} {mg : Str → Option Value} {base : Heap} {T : List (Addr × Str)} {L : List Addr}
abbrev sBegin : Stmt := top 18
abbrev sLaw : Stmt := top 28
theorem scBegin : FnScope ["_law_script"] ["_law_script"] (defScope sBegin) := ⟨rfl, rfl, rfl, by decide +kernel, rfl, by decide +kernel, by decide +kernel⟩
def BeginOk (F : List Sl → Mem → Re Sl) : Prop := ∀ (m : Mem) (ns : List Int), ns.length ≤ 63 → F [.dat (.frl (ns.map D.int))] m = some (.ok (.opq m.length), m ++ [.dic (pen ns 0 0)])
theorem fx_begin {f : Addr} {fd : FuncData} (F : Fun K "_law_begin" "_law_begin" sBegin f fd) (z_list : mg "list" = none) : ∃ F, FnX P w K mg base T 1 f fd ["_law_script"] F ∧ BeginOk F := by
  have nd := scBegin.nd
  refine ⟨_, FnX.ofK (P := P) (w := w) (mg := mg) (base := base) (T := T) (k := 0) F scBegin (fun cdv A outer s H E hr => (pssx_one (psx_ret (px_dispM (ppx_cons px_str (px_callTy call_list_of cd_list rfl z_list (by decide +kernel) (pax_cons (px_cut (px_v 0) pox_none (pox_some px_int)) pax_nil)) (ppx_cons px_str px_int (ppx_cons px_str px_int ppx_nil))) rfl rfl (by simp) (by decide) (hno_of (by repeat (first | exact kp_ret | exact kp_v | exact kp_f2 | exact kp_fN | exact kp_fD | refine kp_cons ?_ ?_ | refine kp_part ?_ | refine kp_cut ?_ ?_ ?_ | refine kp_pair ?_ ?_ ?_ | (refine kp_bind ?_ fun _ => ?_)))))))), ?_⟩
  intro m ns hn
  have hc : Pu.cutD (ns.map D.int) none (some 63) = ns.map D.int := by
    rw [show (some 63 : Option Int) = some ((63 : Nat) : Int) from rfl, cut_to, List.take_of_length_le (by rw [List.length_map]; omega)]
  have hg : (m ++ [MO.dic []])[m.length]? = some (.dic []) := by simp
  have hs : ∀ X, (m ++ [MO.dic []]).set m.length X = m ++ [X] := fun X => by simp
  have h3 : (3 ≤ 15) = True := eq_true (by decide)
  have hL : oList [.lst (ns.map D.int)] = some (.lst (ns.map D.int)) := rfl
  have hm : mergeD [] [(kCells, D.lst (ns.map D.int)), (kBegun, .int 0), (kLeft, .int 0)] = pen ns 0 0 := by
    simp [mergeD, putD, pen, sCB, sCL, sBL]
  unfold runK
  simp only [fNext, fSeq, fIfS, fPar, parG, fAsg, fAsgM, fSet, fPut, oPut, fRet, fAnd, fB, bindD, bindR, bindS, fCons, retD, fV, f2, f1, fN, fD, vw, vwAll, liftO, allD, gmT, gmCons, gmN, gmSub, gmNil, oGet_str, dkey, oC_int, oInt_int, oAdd_int, oSub_int, oLen_lst, oIx_lst, oTup, List.map_cons, List.map_nil, List.length_cons, List.length_nil, List.cons_append, List.nil_append, List.append_nil, List.getElem?_cons_zero, List.getElem?_cons_succ, List.replicate, List.set_cons_zero, List.set_cons_succ, List.set_set, if_true, if_false, Bool.false_eq_true, Option.map_some, Option.map_none, Nat.sub_zero, Nat.reduceSub, Nat.reduceAdd, and_true, true_and, fCut, fPart, oCut, hc, hL, fDisp, fPair, hg, hs, h3, hm, Option.isSome_some, and_self]
theorem scLaw : FnScope ["_law_script", "_law_pen", "_law_turn", "_law_hues", "_law_pairs", "_law_signs", "_law_handed", "_law_told", "_law_made", "_law_twin", "_law_other", "_law_value", "_law_pair"] ["_law_script"] (defScope sLaw) := ⟨rfl, rfl, rfl, by decide +kernel, rfl, by decide +kernel, by decide +kernel⟩
def LawOk (F : List Sl → Mem → Re Sl) : Prop := ∀ ns : List Int, ns.length ≤ 63 → F [.dat (.frl (ns.map D.int))] [] = some (.ok (.dat (.bl true)), [])
theorem fx_law {f c aB aD aP aH aQ aL aI aR aN aEq CR CB : Addr} {fd fdB fdD fdP fdH fdQ fdL fdI fdR fdN fdEq : FuncData} {FB FD FP FH FQ FL FI FR FN FE : List Sl → Mem → Re Sl} (F : FunC K "law" sLaw f fd c) (OW : Own K L) (hCL : CR ∈ L) (LT : LowT K CR) (KM : MakeK K mg CR aN fdN)
    (bK0 : ∃ g, KBn K fdN ["self", "colours", "beside", "letters"] 1 ["beside", "letters", "colours"] g (fun vs zs => pk [0, 3, 1, 2] (vs ++ zs ++ [])))
    (z_list : mg "list" = none) (z_tuple : mg "tuple" = none) (z_range : mg "range" = none) (z_dict : mg "dict" = none) (z_len : mg "len" = none) (z_min : mg "min" = none)
    (GB : FnX P w K mg base T 1 aB fdB ["_law_script"] FB) (AB : At K mg "_law_begin" aB fdB ["_law_script"]) (oB : BeginOk FB)
    (GD : FnX P w K mg base T 1 aD fdD psPS FD) (AD : At K mg "_law_draw" aD fdD psPS) (oD : DrawOk FD)
    (GP : FnX P w K mg base T 2 aP fdP ["_law_pen", "_law_some"] FP) (AP : At K mg "_law_pick" aP fdP ["_law_pen", "_law_some"]) (oP : PickOk FP)
    (GH : FnX P w K mg base T 2 aH fdH ["_law_pen", "_law_some"] FH) (AH : At K mg "_law_shuffled" aH fdH ["_law_pen", "_law_some"]) (oH : ShufOk FH)
    (GQ : FnX P w K mg base T 3 aQ fdQ ["_law_pen", "_law_hues"] FQ) (AQ : At K mg "_law_pairs_of" aQ fdQ ["_law_pen", "_law_hues"]) (oQ : PairsOk FQ)
    (GL : FnX P w K mg base T 3 aL fdL ["_law_pen", "_law_hues"] FL) (AL : At K mg "_law_letters_of" aL fdL ["_law_pen", "_law_hues"]) (oL : LetOk FL)
    (GI : FnX P w K mg base T 1 aI fdI ["_law_made", "_law_hues", "_law_pairs", "_law_signs"] FI) (AI : At K mg "_law_is_rule" aI fdI ["_law_made", "_law_hues", "_law_pairs", "_law_signs"]) (oI : IsRuleOk CR FI)
    (GR : FnXG P w K mg base T 8 aR fdR ["_law_pen", "_law_hues", "_law_pairs", "_law_signs"] FR) (AR : At K mg "_law_refusals_right" aR fdR ["_law_pen", "_law_hues", "_law_pairs", "_law_signs"]) (oR : RefsOk FR)
    (GN : FnX P w K mg base T 4 aN fdN ["self", "colours", "beside", "letters"] FN) (oN : InitOk L CR CB FN)
    (RE : EqOp K CR aEq) (GEq : FnX P w K mg base T 1 aEq fdEq ["self", "other"] FE) (bE : Binds K fdEq ["self", "other"] []) (oE : EqOk L CR FE) :
    ∃ F, FnXG P w K mg base T 10 f fd ["_law_script"] F ∧ LawOk F := by
  have nd := scLaw.nd
  obtain ⟨MK, mT, b3, b2, _, _⟩ := KM
  obtain ⟨_, bK0⟩ := bK0
  refine ⟨_, FnXG.of (P := P) (w := w) (mg := mg) (base := base) (T := T) (k := 9) F scLaw (fun A outer s H E gd hr => (pssx_cons (psx_set (i := 1) nd rfl (Or.inl rfl) (px_call (GB.mono (by decide)) hr rfl AB.mg AB.kp AB.bd .nil (fun _ => .nil) L2.passL (pax_cons (px_v 0) pax_nil)))
(pssx_cons (psx_for PassesOwn.never rfl (pix_rng1 rfl z_range (pax_cons (px_op op_addU od_add px_int (px_callB (call_min2 rfl) cd_min2 rfl z_min (by decide +kernel) (pax_cons px_int (pax_cons (px_callB call_lenU cd_len rfl z_len (by decide +kernel) (pax_cons (px_v 0) pax_nil)) pax_nil)))) pax_nil)) (pgx_name (i := 2) nd rfl (Or.inl rfl))
(pssx_cons (psx_set (i := 3) nd rfl (Or.inl rfl) (px_join px_str (px_cut (px_call (GH.mono (by decide)) hr rfl AH.mg AH.kp AH.bd .nil (fun _ => .nil) L2.passL (pax_cons (px_v 1) (pax_cons (px_call (GP.mono (by decide)) hr rfl AP.mg AP.kp AP.bd .nil (fun _ => .nil) L2.passL (pax_cons (px_v 1) (pax_cons (px_lst (pax_cons px_str (pax_cons px_str (pax_cons px_str pax_nil)))) pax_nil))) pax_nil))) pox_none (pox_some (px_op op_addU od_add px_int (px_call (GD.mono (by decide)) hr rfl AD.mg AD.kp AD.bd .nil (fun _ => .nil) L2.passL (pax_cons (px_v 1) (pax_cons px_int pax_nil))))))))
(pssx_cons (psx_par (i := 4) (j := 5) rfl nd rfl rfl (by decide) rfl rfl (pax_cons (px_call (GQ.mono (by decide)) hr rfl AQ.mg AQ.kp AQ.bd .nil (fun _ => .nil) L2.passL (pax_cons (px_v 1) (pax_cons (px_v 3) pax_nil))) (pax_cons (px_call (GL.mono (by decide)) hr rfl AL.mg AL.kp AL.bd .nil (fun _ => .nil) L2.passL (pax_cons (px_v 1) (pax_cons (px_v 3) pax_nil))) pax_nil)) (by rfl))
(pssx_cons (psx_par (i := 6) (j := 7) rfl nd rfl rfl (by decide) rfl rfl (pax_cons (px_listM rfl z_list (by decide +kernel) (pax_cons (px_v 4) pax_nil)) (pax_cons (px_dictM rfl z_dict (by decide +kernel) (pax_cons (px_v 5) pax_nil)) pax_nil)) (by rfl))
(pssx_cons (psx_set (i := 8) nd rfl (Or.inr rfl) (px_makeK0 (is := [0, 3, 1, 2]) (ks := ["beside", "letters", "colours"]) (dvs := []) (dds := []) MK GN (hr.mono (by decide)) rfl mT bK0 (fun _ => .nil) L2.passL (pkx_cons (px_v 6) (pkx_cons (px_v 7) (pkx_cons (px_v 3) pkx_nil)))))
(pssx_cons (psx_expr (px_append (px_v 6) px_str))
(pssx_cons (psx_dput (hu_of hr) (px_v 7) px_str px_str)
(pssx_cons (psx_if (ptx_not (ptx_val (px_call (GI.mono (by decide)) hr rfl AI.mg AI.kp AI.bd .nil (fun _ => .nil) L2.passL (pax_cons (px_v 8) (pax_cons (px_v 3) (pax_cons (px_v 4) (pax_cons (px_v 5) pax_nil)))))))
(pssx_one (psx_ret px_bl))
pssx_nil)
(pssx_cons (psx_set (i := 9) nd rfl (Or.inl rfl) (px_make MK GN (hr.mono (by decide)) rfl mT b3 .nil (fun _ => .nil) L2.passL (pax_cons (px_revA (px_v 3)) (pax_cons (px_callTy call_tuple_of cd_tuple rfl z_tuple (by decide +kernel) (pax_cons (px_lc (own := [("_law_pair", 12)]) rfl nd (pix_any (px_revA (px_v 4))) (blkOk_by (N := ["_law_script", "_law_pen", "_law_turn", "_law_hues", "_law_pairs", "_law_signs", "_law_handed", "_law_told", "_law_made", "_law_twin", "_law_other", "_law_value", "_law_pair"]) (sc := (defScope sLaw)) (by decide +kernel)) (fun _ _ _ _ _ => (pgx_name (i := 12) nd rfl (Or.inl rfl))) (by decide) (fun _ _ _ _ _ => ptsx_nil) (fun _ _ _ _ _ => (px_revA (px_v 12)))) pax_nil)) (pax_cons (px_v 5) pax_nil)))))
(pssx_cons (psx_set (i := 10) nd rfl (Or.inl rfl) (px_make MK GN (hr.mono (by decide)) rfl mT b3 .nil (fun _ => .nil) L2.passL (pax_cons (px_v 3) (pax_cons (px_v 4) (pax_cons (px_callTy (cr_dictP rfl) cd_dictP rfl z_dict (by decide +kernel) (pax_cons (px_op op_addU od_add (px_items rfl rfl z_list (by decide +kernel) (px_v 5)) (px_lst (pax_cons (px_tup (pax_cons px_str (pax_cons px_str pax_nil))) pax_nil))) pax_nil)) pax_nil)))))
(pssx_cons (psx_if (PWX.pt (pwx_or (ptx_not (ptx_eqG OW LT RE GEq (hr.mono (by decide)) bE L2.passL rfl (px_v 8) (px_v 9) (nomark _))) (pwx_or (ptx_neG OW LT RE GEq (hr.mono (by decide)) bE L2.passL rfl (px_v 8) (px_v 9) (nomark _)) (pwx_or (ptx_eqG OW LT RE GEq (hr.mono (by decide)) bE L2.passL rfl (px_v 8) (px_v 10) (nomark _)) (pwx_or1 (ptx_not (ptx_neG OW LT RE GEq (hr.mono (by decide)) bE L2.passL rfl (px_v 8) (px_v 10) (nomark _))))))))
(pssx_one (psx_ret px_bl))
pssx_nil)
(pssx_cons (psx_if (ptx_cmp (op_neA hr.units) od_neA (px_lc (own := [("_law_value", 11)]) rfl nd (pix_any (px_lst (pax_cons px_non (pax_cons (px_v 3) (pax_cons (px_v 4) (pax_cons (px_v 5) (pax_cons (px_tup pax_nil) pax_nil))))))) (blkOk_by (N := ["_law_script", "_law_pen", "_law_turn", "_law_hues", "_law_pairs", "_law_signs", "_law_handed", "_law_told", "_law_made", "_law_twin", "_law_other", "_law_value", "_law_pair"]) (sc := (defScope sLaw)) (by decide +kernel)) (fun _ _ _ _ _ => (pgx_name (i := 11) nd rfl (Or.inl rfl))) (by decide) (fun _ _ _ _ _ => (ptsx_one (PWX.pt (pwx_or (ptx_eqG OW LT RE GEq (hr.mono (by decide)) bE L2.passL rfl (px_v 8) (px_v 11) (nomark _)) (pwx_or1 (ptx_not (ptx_neG OW LT RE GEq (hr.mono (by decide)) bE L2.passL rfl (px_v 8) (px_v 11) (nomark _)))))))) (fun _ _ _ _ _ => (px_v 11))) (px_lst pax_nil) (nomark _))
(pssx_one (psx_ret px_bl))
pssx_nil)
(pssx_cons (psx_if (PWX.pt (pwx_and (ptx_cmp (op_eqA hr.units) od_eqA (px_v 5) px_dnewD (nomark _)) (pwx_and1 (ptx_not (ptx_eqG OW LT RE GEq (hr.mono (by decide)) bE L2.passL rfl (px_make (dvs := [.non]) (dds := [.non]) MK GN (hr.mono (by decide)) rfl mT b2 (.cons rfl .nil) (fun _ => .cons .non .nil) L2.passL (pax_cons (px_v 3) (pax_cons (px_v 4) pax_nil))) (px_v 8) (nomark _))))))
(pssx_one (psx_ret px_bl))
pssx_nil)
(pssx_one (psx_if (ptx_not (ptx_val (px_callG (GR.mono (by decide)) gd hr rfl AR.mg AR.kp AR.bd (pax_cons (px_v 1) (pax_cons (px_v 3) (pax_cons (px_v 4) (pax_cons (px_v 5) pax_nil)))))))
(pssx_one (psx_ret px_bl))
pssx_nil)))))))))))))))
(pssx_one (psx_ret px_bl))))), ?_⟩
  intro ns hns
  have hsz := sizeLine_eq
  have eB := oB [] ns hns
  obtain ⟨M0, hM0⟩ : ∃ M0 : Mem, M0 = [.dic (pen ns 0 0)] := ⟨_, rfl⟩
  have hi : 0 < M0.length := by rw [hM0]; exact Nat.zero_lt_one
  obtain ⟨sc, hsc⟩ : ∃ sc : D, sc = .frl (ns.map D.int) := ⟨_, rfl⟩
  have hlen : oLen [sc] = some (.int ns.length) := by rw [hsc]; show some (D.int ((ns.map D.int).length : Nat)) = _; rw [List.length_map]
  rw [← hsc] at eB ⊢
  refine run0 ?_
  obtain ⟨N1, N2, N3, N4, N5⟩ := oN
  show ∃ m', fSeq _ _ [some (.dat sc), none, none, none, none, none, none, none, none, none, none, none, none] [] = some (.rt (.dat (.bl true)), m')
  have lm0 : M0 = LM M0 0 (.dic (pen ns 0 0)) [] := LM.start (by rw [hM0]; rfl)
  have st1 : ∀ rest : Rho → Mem → RS, (∃ m', rest [some (.dat sc), some (.opq 0), none, none, none, none, none, none, none, none, none, none, none] M0 = some (.rt (.dat (.bl true)), m')) →
      ∃ m', fSeq (fSet 1 (fCall FB [] (fCons (fV 0) (retD [])))) rest [some (.dat sc), none, none, none, none, none, none, none, none, none, none, none, none] [] = some (.rt (.dat (.bl true)), m') := fun rest ⟨m', e⟩ => by
    refine ⟨m', (ev_seq (ev_set (s := .opq 0) (m2 := M0) (ev_callOne (s := .dat sc) (m1 := []) rfl ?_))).trans e⟩
    rw [eB, hM0]
    rfl
  refine st1 _ ?_
  obtain ⟨tn, htn⟩ : ∃ tn : Nat, tn = (3 + (if (ns.length : Int) < 3 then (ns.length : Int) else 3)).toNat := ⟨_, rfl⟩
  have htn6 : tn ≤ 6 := by rw [htn]; split <;> omega
  refine seq_for (fun k ρ m => ∃ (o : MO) (ls : List MO) (s2 s3 s4 s5 s6 s7 s8 s9 s10 s11 s12 : Option Sl), m = LM M0 0 o ls ∧ ρ = [some (.dat sc), some (.opq 0), s2, s3, s4, s5, s6, s7, s8, s9, s10, s11, s12] ∧ PenO o (300 * k) ∧ AllOk (LM M0 0 o ls))
    (ds := (List.range tn).map fun i => D.int ((i : Nat) : Int)) (m := M0) ?_ ?_ ?_ ?_
  · unfold fRng1
    refine (ev_bind (x := [.dat (.int (3 + (if (ns.length : Int) < 3 then (ns.length : Int) else 3)))]) (m2 := M0) (ev_cons (ev_op (d := .int 3) rfl (e := .int (if (ns.length : Int) < 3 then (ns.length : Int) else 3)) ?_ rfl) rfl)).trans ?_
    · refine (ev_bind (x := [.dat (.int 3), .dat (.int ns.length)]) (m2 := M0) (ev_cons rfl (ev_cons (ev_call1 (d := sc) rfl hlen) rfl))).trans ?_
      rfl
    · dsimp only
      rw [if_pos (by constructor <;> (split <;> omega)), htn]
  · refine ⟨.dic (pen ns 0 0), [], none, none, none, none, none, none, none, none, none, none, none, lm0, rfl, ⟨ns, 0, 0, rfl, hns, by omega, by omega⟩, ?_⟩
    rw [← lm0, hM0]
    rfl
  · rintro ρ' m' ⟨o, ls, s2, s3, s4, s5, s6, s7, s8, s9, s10, s11, s12, rfl, rfl, _⟩
    exact ⟨_, rfl⟩
  rintro k ρ m d hk hd ⟨o, ls, s2, s3, s4, s5, s6, s7, s8, s9, s10, s11, s12, rfl, rfl, hp, hA⟩
  rw [List.length_map, List.length_range] at hk
  have hk6 : 300 * k ≤ 1800 := by omega
  obtain ⟨x, o1, e1, hx, hp1⟩ := oP M0 0 (300 * k) o ls [.str "abcd", .str "mzkq", .str "wxyz"] hi hp (by omega) (by show 0 < 3; decide) (by show 3 ≤ 1000; decide)
  obtain ⟨z, rfl, hz⟩ : ∃ z : Str, x = .str z ∧ z ∈ ([("abcd" : Str), "mzkq", "wxyz"] : List Str) := by
    simp only [List.mem_cons, List.not_mem_nil, or_false] at hx
    rcases hx with rfl | rfl | rfl
    · exact ⟨_, rfl, by simp⟩
    · exact ⟨_, rfl, by simp⟩
    · exact ⟨_, rfl, by simp⟩
  obtain ⟨n1, n2, n3⟩ := words_ok z hz
  obtain ⟨ys, o2, e2, py, hp2⟩ := oH M0 0 (300 * k + 1) o1 ls (sgns z) (.dat (.str z)) hi hp1 (by omega) (hA.pen hp1.ok) (.inr ⟨z, rfl, rfl⟩) (by omega)
  obtain ⟨kk, o3, e3, k0, k4, hp3⟩ := oD.lm (ls := ls) hi hp2 (by omega) (L := 4) (by decide) (by decide)
  obtain ⟨kk, rfl⟩ : ∃ k2 : Nat, kk = (k2 : Int) := ⟨kk.toNat, by omega⟩
  obtain ⟨cb, hl, hw1⟩ := hues_step (k := 1 + kk) hz py (by omega) (by omega)
  obtain ⟨h, hh⟩ : ∃ h, h = Txt.join "" (ys.take (1 + kk)) := ⟨_, rfl⟩
  rw [← hh] at cb hl
  obtain ⟨ps, o4, e4, okP, lP, hp4⟩ := oQ M0 0 _ o3 ls h hi hp3 (by omega) (hA.pen hp3.ok) (by omega)
  obtain ⟨sg, o6, e5, lB, lS, ndS, lvS, zS, hp6⟩ := oL M0 0 _ o4 ls h hi hp4 (by omega) (hA.pen hp4.ok) (by omega)
  have g : GoodR h ps sg := ⟨cb, okP, lP, lB, by omega, ndS, lvS⟩
  have hJ0 : ∀ (o : MO) (X Y : MO), (LM M0 0 o (ls ++ [X, Y]))[M0.length + ls.length]? = some X := fun o X Y => by
    rw [LM.get, List.getElem?_append_right (Nat.le_refl _), Nat.sub_self]; rfl
  have hJ1 : ∀ (o : MO) (X Y : MO), (LM M0 0 o (ls ++ [X, Y]))[M0.length + (ls.length + 1)]? = some Y := fun o X Y => by
    rw [LM.get, List.getElem?_append_right (by omega), show ls.length + 1 - ls.length = 1 by omega]; rfl
  have sJ0 : ∀ (o : MO) (X Y Z : MO), (LM M0 0 o (ls ++ [X, Y])).set (M0.length + ls.length) Z = LM M0 0 o (ls ++ [Z, Y]) := fun o X Y Z => by
    rw [LM.set, List.set_append_right _ _ (Nat.le_refl _), Nat.sub_self]; rfl
  have sJ1 : ∀ (o : MO) (X Y Z : MO), (LM M0 0 o (ls ++ [X, Y])).set (M0.length + (ls.length + 1)) Z = LM M0 0 o (ls ++ [X, Z]) := fun o X Y Z => by
    rw [LM.set, List.set_append_right _ _ (by omega), show ls.length + 1 - ls.length = 1 by omega]; rfl
  have allS : ∀ (n : Nat) (xs : List Str), okMO n (.lst (sl xs)) = true := fun n xs => List.all_eq_true.mpr fun s hs => by
    obtain ⟨z, _, rfl⟩ := List.mem_map.mp hs
    rfl
  have hA2 : ∀ {o' : MO} {n : Nat} (xs : List Str) (kvs : List (Key × D)), PenO o' n → AllOk (LM M0 0 o' (ls ++ [MO.lst (sl xs), MO.dic kvs])) := fun xs kvs hq => by
    rw [← LM.app]
    refine (hA.pen hq.ok).app fun x hx => ?_
    simp only [List.mem_cons, List.not_mem_nil, or_false] at hx
    rcases hx with rfl | rfl
    · exact allS _ _
    · rfl
  have zz : sl ps ++ [Sl.dat (D.str "zz")] = sl (ps ++ [("zz" : Str)]) := by
    show _ = List.map _ _
    rw [List.map_append]
    rfl
  have qn : (Sum.inr ("q" : Str) : Key) ∉ (sgD sg).map (·.1) := by
    have e2 : (sgD sg).map (·.1) = (sg.map (·.1)).map Sum.inr := by unfold sgD; rw [List.map_map, List.map_map]; rfl
    rw [e2]
    intro hm
    obtain ⟨y, hy, hy2⟩ := List.mem_map.mp hm
    cases hy2
    obtain ⟨q, hq, hq2⟩ := List.mem_map.mp hy
    have hin := zS q hq
    rw [hq2] at hin
    revert hin
    decide +kernel
  obtain ⟨o7, e7, hp7⟩ := oR M0 0 _ o6 (ls ++ [MO.lst (sl ps ++ [Sl.dat (D.str "zz")]), MO.dic (sgD sg ++ [((Sum.inr ("q" : Str) : Key), D.str "")])]) h ps sg hi hp6 (by omega) (by rw [zz]; exact hA2 _ _ hp6) g (by omega)
  refine ⟨_, [some (.dat sc), some (.opq 0), some (.dat d), some (.dat (.str h)), some (.dat (.lst (ps.map D.str))), some (.dat (.dic (sgD sg))), some (.opq (M0.length + ls.length)), some (.opq (M0.length + (ls.length + 1))), some (.dat (.ins CR (ruleF h ps sg))), some (.dat (.ins CR (ruleF (revT h) (ps.reverse.map revT) sg))), some (.dat (.ins CR (ruleF h ps (sg ++ [(("q" : Str), ("" : Str))])))), s11, s12], (LM M0 0 o7 (ls ++ [MO.lst (sl ps ++ [Sl.dat (D.str "zz")]), MO.dic (sgD sg ++ [((Sum.inr ("q" : Str) : Key), D.str "")])])), rfl, ?_, o7, _, _, _, _, _, _, _, _, _, _, _, _, rfl, rfl, hp7.more (by omega), ?_⟩
  refine (ev_seq (ρ2 := [some (.dat sc), some (.opq 0), some (.dat d), some (.dat (.str h)), s4, s5, s6, s7, s8, s9, s10, s11, s12]) (m2 := LM M0 0 o3 ls) ?_).trans ?_
  · refine ev_set (s := .dat (.str h)) ?_
    rw [hh]
    refine ev_join (ws := ys.take (1 + kk)) ?_ hw1 (by rw [List.length_take]; omega)
    unfold fCut
    refine (ev_bind (x := .dat (.lst (ys.map D.str))) (m2 := LM M0 0 o2 ls) (ev_call2 (s := .opq 0) (t := .dat (.str z)) (m1 := LM M0 0 o ls) (m2 := LM M0 0 o1 ls) rfl (ev_call2 (s := .opq 0) (t := .dat (.lst [.str "abcd", .str "mzkq", .str "wxyz"])) (m1 := LM M0 0 o ls) (m2 := LM M0 0 o ls) rfl rfl e1) e2)).trans ?_
    refine (ev_bind (x := none) (m2 := LM M0 0 o2 ls) rfl).trans ?_
    refine (ev_bind (x := some ((1 + kk : Nat) : Int)) (m2 := LM M0 0 o3 ls) ?_).trans ?_
    · unfold fPart
      refine (ev_bind (x := .dat (.int ((1 + kk : Nat) : Int))) (m2 := LM M0 0 o3 ls) (ev_op (d := .int 1) (e := .int (kk : Int)) (m1 := LM M0 0 o2 ls) rfl (ev_call2 (s := .opq 0) (t := .dat (.int 4)) (m1 := LM M0 0 o2 ls) (m2 := LM M0 0 o2 ls) rfl rfl e3) ?_)).trans rfl
      show some (D.int (1 + (kk : Int))) = some (D.int ((1 + kk : Nat) : Int))
      rw [Int.natCast_add]
      rfl
    · show some (Except.ok (Sl.dat (D.lst (Pu.cutD (ys.map D.str) none (some ((1 + kk : Nat) : Int))))), LM M0 0 o3 ls) = _
      rw [cut_to, List.map_take]
  refine (ev_seq (ρ2 := [some (.dat sc), some (.opq 0), some (.dat d), some (.dat (.str h)), some (.dat (.lst (ps.map D.str))), some (.dat (.dic (sgD sg))), s6, s7, s8, s9, s10, s11, s12]) (m2 := LM M0 0 o6 ls) ?_).trans ?_
  · exact ev_par (s := .dat (.lst (ps.map D.str))) (t := .dat (.dic (sgD sg))) (m1 := LM M0 0 o4 ls) (ev_call2 (s := .opq 0) (t := .dat (.str h)) (m1 := LM M0 0 o3 ls) (m2 := LM M0 0 o3 ls) rfl rfl e4) (ev_call2 (s := .opq 0) (t := .dat (.str h)) (m1 := LM M0 0 o4 ls) (m2 := LM M0 0 o4 ls) rfl rfl e5)
  refine (ev_seq (ρ2 := [some (.dat sc), some (.opq 0), some (.dat d), some (.dat (.str h)), some (.dat (.lst (ps.map D.str))), some (.dat (.dic (sgD sg))), some (.opq (M0.length + ls.length)), some (.opq (M0.length + (ls.length + 1))), s8, s9, s10, s11, s12]) (m2 := (LM M0 0 o6 (ls ++ [MO.lst (sl ps), MO.dic (sgD sg)]))) ?_).trans ?_
  · refine ev_par (s := .opq (M0.length + ls.length)) (t := .opq (M0.length + (ls.length + 1))) (m1 := LM M0 0 o6 (ls ++ [MO.lst (sl ps)])) ?_ ?_
    · simp only [fNext, fSeq, fIfS, fPar, parG, fAsg, fAsgM, fSet, fPut, oPut, fRet, fAnd, fB, bindD, bindR, bindS, fCons, retD, fV, f2, f1, fN, fD, vw, vwAll, liftO, allD, gmT, gmCons, gmN, gmSub, gmNil, oGet_str, dkey, oC_int, oInt_int, oAdd_int, oSub_int, oLen_lst, oIx_lst, oTup, List.map_cons, List.map_nil, List.length_cons, List.length_nil, List.cons_append, List.nil_append, List.append_nil, List.getElem?_cons_zero, List.getElem?_cons_succ, List.replicate, List.set_cons_zero, List.set_cons_succ, List.set_set, if_true, if_false, Bool.false_eq_true, Option.map_some, Option.map_none, Nat.sub_zero, Nat.reduceSub, Nat.reduceAdd, and_true, true_and, fListM, elemsM, LM.len, LM.app, List.map_map]
      rfl
    · refine (ev_bind (x := [.dat (.dic (sgD sg))]) (m2 := LM M0 0 o6 (ls ++ [MO.lst (sl ps)])) rfl).trans ?_
      show some (Except.ok (Sl.opq (LM M0 0 o6 (ls ++ [MO.lst (sl ps)])).length), LM M0 0 o6 (ls ++ [MO.lst (sl ps)]) ++ [MO.dic (sgD sg)]) = _
      rw [LM.len, LM.app, List.length_append, List.append_assoc]
      rfl
  refine (ev_seq (ρ2 := [some (.dat sc), some (.opq 0), some (.dat d), some (.dat (.str h)), some (.dat (.lst (ps.map D.str))), some (.dat (.dic (sgD sg))), some (.opq (M0.length + ls.length)), some (.opq (M0.length + (ls.length + 1))), some (.dat (.ins CR (ruleF h ps sg))), s9, s10, s11, s12]) (m2 := (LM M0 0 o6 (ls ++ [MO.lst (sl ps), MO.dic (sgD sg)]))) ?_).trans ?_
  · refine ev_set (s := .dat (.ins CR (ruleF h ps sg))) (ev_makesK0 (zs := [.opq (M0.length + ls.length), .opq (M0.length + (ls.length + 1)), .dat (.str h)]) rfl ((N1 _ _ h (.opq (M0.length + ls.length)) (.lst (ps.map D.str)) ps (.opq (M0.length + (ls.length + 1))) sg get_made g (.inr ⟨_, rfl, .inr ⟨ps.map D.str, ?_, rfl⟩⟩) rfl rfl (.inl (.inr ⟨_, rfl, .inl ⟨sgD sg, ?_, rfl⟩⟩))).trans (by rw [set_made])) (hA2 ps (sgD sg) hp6))
    · rw [List.getElem?_append_left (by rw [LM.len, List.length_append]; show M0.length + ls.length < M0.length + (ls.length + 2); omega), hJ0, List.map_map]
      rfl
    · rw [List.getElem?_append_left (by rw [LM.len, List.length_append]; show M0.length + (ls.length + 1) < M0.length + (ls.length + 2); omega), hJ1]
  refine (ev_seq (ρ2 := [some (.dat sc), some (.opq 0), some (.dat d), some (.dat (.str h)), some (.dat (.lst (ps.map D.str))), some (.dat (.dic (sgD sg))), some (.opq (M0.length + ls.length)), some (.opq (M0.length + (ls.length + 1))), some (.dat (.ins CR (ruleF h ps sg))), s9, s10, s11, s12]) (m2 := (LM M0 0 o6 (ls ++ [MO.lst (sl ps ++ [Sl.dat (D.str "zz")]), MO.dic (sgD sg)]))) ?_).trans ?_
  · refine ev_do (s := .dat .non) ?_
    unfold fAppend
    refine (ev_bind (x := .opq (M0.length + ls.length)) (m2 := (LM M0 0 o6 (ls ++ [MO.lst (sl ps), MO.dic (sgD sg)]))) rfl).trans ?_
    have il : isLst (LM M0 0 o6 (ls ++ [MO.lst (sl ps), MO.dic (sgD sg)])) (.opq (M0.length + ls.length)) = true := by unfold isLst; simp only [hJ0]
    rw [if_pos il]
    show oAppend (.opq (M0.length + ls.length)) (.dat (.str "zz")) _ = _
    unfold oAppend
    dsimp only
    rw [hJ0]
    dsimp only
    rw [if_pos (by rw [List.length_map]; omega), sJ0]
  refine (ev_seq (ρ2 := [some (.dat sc), some (.opq 0), some (.dat d), some (.dat (.str h)), some (.dat (.lst (ps.map D.str))), some (.dat (.dic (sgD sg))), some (.opq (M0.length + ls.length)), some (.opq (M0.length + (ls.length + 1))), some (.dat (.ins CR (ruleF h ps sg))), s9, s10, s11, s12]) (m2 := (LM M0 0 o6 (ls ++ [MO.lst (sl ps ++ [Sl.dat (D.str "zz")]), MO.dic (sgD sg ++ [((Sum.inr ("q" : Str) : Key), D.str "")])]))) ?_).trans ?_
  · refine (ev_put (v := .str "") (z := "q") (m1 := (LM M0 0 o6 (ls ++ [MO.lst (sl ps ++ [Sl.dat (D.str "zz")]), MO.dic (sgD sg)]))) (j := (M0.length + (ls.length + 1))) rfl rfl rfl (hJ1 _ _ _) (by unfold sgD; rw [List.length_map]; omega)).trans ?_
    rw [sJ1, putD_new qn]
  refine (ev_seq (ρ2 := [some (.dat sc), some (.opq 0), some (.dat d), some (.dat (.str h)), some (.dat (.lst (ps.map D.str))), some (.dat (.dic (sgD sg))), some (.opq (M0.length + ls.length)), some (.opq (M0.length + (ls.length + 1))), some (.dat (.ins CR (ruleF h ps sg))), s9, s10, s11, s12]) (m2 := (LM M0 0 o6 (ls ++ [MO.lst (sl ps ++ [Sl.dat (D.str "zz")]), MO.dic (sgD sg ++ [((Sum.inr ("q" : Str) : Key), D.str "")])]))) ?_).trans ?_
  · refine (ev_if0 (m1 := (LM M0 0 o6 (ls ++ [MO.lst (sl ps ++ [Sl.dat (D.str "zz")]), MO.dic (sgD sg ++ [((Sum.inr ("q" : Str) : Key), D.str "")])]))) (ev_not (b := true) (ev_fB (ev_callL (ss := [.dat (.ins CR (ruleF h ps sg)), .dat (.str h), .dat (.lst (ps.map D.str)), .dat (.dic (sgD sg))]) (m1 := (LM M0 0 o6 (ls ++ [MO.lst (sl ps ++ [Sl.dat (D.str "zz")]), MO.dic (sgD sg ++ [((Sum.inr ("q" : Str) : Key), D.str "")])]))) rfl (oI _ h ps sg g))))).trans rfl
  have lP2 : ∀ p ∈ ps, p.length = 2 := fun p hp => pair_len (g.p p hp)
  have hA3 : AllOk (LM M0 0 o6 (ls ++ [MO.lst (sl ps ++ [Sl.dat (D.str "zz")]), MO.dic (sgD sg ++ [((Sum.inr ("q" : Str) : Key), D.str "")])])) := by rw [zz]; exact hA2 _ _ hp6
  have revS : ∀ (i : Nat) (ρ : Rho) (m' : Mem) (y : Str), ρ[i]? = some (some (.dat (.str y))) → y.length ≤ sizeLine → orR (bindD (fV i) fun s _ m => f1 oRevS s m) (bindD (fV i) fun s _ m => f1 oRev s m) ρ m' = some (.ok (.dat (.str (revT y))), m') := fun i ρ m' y hy hl => by
    refine orR_1 ((ev_bind (x := .dat (.str y)) (m2 := m') (by unfold fV; rw [hy])).trans ?_)
    have ho : oRevS (.str y) = some (.str (revT y)) := if_pos hl
    unfold f1 vw
    simp only [ho, liftO]
  refine (ev_seq (ρ2 := [some (.dat sc), some (.opq 0), some (.dat d), some (.dat (.str h)), some (.dat (.lst (ps.map D.str))), some (.dat (.dic (sgD sg))), some (.opq (M0.length + ls.length)), some (.opq (M0.length + (ls.length + 1))), some (.dat (.ins CR (ruleF h ps sg))), some (.dat (.ins CR (ruleF (revT h) (ps.reverse.map revT) sg))), s10, s11, s12]) (m2 := (LM M0 0 o6 (ls ++ [MO.lst (sl ps ++ [Sl.dat (D.str "zz")]), MO.dic (sgD sg ++ [((Sum.inr ("q" : Str) : Key), D.str "")])]))) ?_).trans ?_
  · refine ev_set (s := .dat (.ins CR (ruleF (revT h) (ps.reverse.map revT) sg))) (ev_makes (ss := [.dat (.str (revT h)), .dat (.tup ((ps.reverse.map revT).map D.str)), .dat (.dic (sgD sg))]) (ev_cons (revS 3 _ _ h rfl (by omega)) (ev_cons (ev_call1 (d := .lst ((ps.reverse.map revT).map D.str)) ?_ rfl) (ev_cons rfl rfl))) ((N1 _ _ (revT h) _ (.tup ((ps.reverse.map revT).map D.str)) (ps.reverse.map revT) (.dat (.dic (sgD sg))) sg get_made g.twin (.inl rfl) rfl rfl (.inl (.inl rfl))).trans (by rw [set_made])) hA3)
    rw [List.map_map]
    refine ev_lcS (fun z => .str (revT z)) (zs := ps.reverse) ?_ (by rw [List.length_reverse]; omega) fun y hy => ?_
    · unfold fIterA
      refine (ev_bind (x := .dat (.lst (ps.reverse.map D.str))) (m2 := (LM M0 0 o6 (ls ++ [MO.lst (sl ps ++ [Sl.dat (D.str "zz")]), MO.dic (sgD sg ++ [((Sum.inr ("q" : Str) : Key), D.str "")])]))) ((orR_2 ?_).trans ?_)).trans rfl
      · rfl
      · refine (ev_bind (x := .dat (.lst (ps.map D.str))) (m2 := (LM M0 0 o6 (ls ++ [MO.lst (sl ps ++ [Sl.dat (D.str "zz")]), MO.dic (sgD sg ++ [((Sum.inr ("q" : Str) : Key), D.str "")])]))) rfl).trans ?_
        show some (Except.ok (Sl.dat (D.lst (ps.map D.str).reverse)), (LM M0 0 o6 (ls ++ [MO.lst (sl ps ++ [Sl.dat (D.str "zz")]), MO.dic (sgD sg ++ [((Sum.inr ("q" : Str) : Key), D.str "")])]))) = _
        rw [List.map_reverse]
    · exact ⟨_, rfl, rfl, revS 12 _ _ y rfl (by rw [lP2 y (List.mem_reverse.mp hy)]; omega)⟩
  have gO : GoodR h ps (sg ++ [(("q" : Str), ("" : Str))]) := g.more lS qn
  refine (ev_seq (ρ2 := [some (.dat sc), some (.opq 0), some (.dat d), some (.dat (.str h)), some (.dat (.lst (ps.map D.str))), some (.dat (.dic (sgD sg))), some (.opq (M0.length + ls.length)), some (.opq (M0.length + (ls.length + 1))), some (.dat (.ins CR (ruleF h ps sg))), some (.dat (.ins CR (ruleF (revT h) (ps.reverse.map revT) sg))), some (.dat (.ins CR (ruleF h ps (sg ++ [(("q" : Str), ("" : Str))])))), s11, s12]) (m2 := (LM M0 0 o6 (ls ++ [MO.lst (sl ps ++ [Sl.dat (D.str "zz")]), MO.dic (sgD sg ++ [((Sum.inr ("q" : Str) : Key), D.str "")])]))) ?_).trans ?_
  · have hit : itemsD (sgD sg) ++ [D.tup [.str "q", .str ""]] = (sg ++ [(("q" : Str), ("" : Str))]).map fun q => D.tup [.str q.1, .str q.2] := by
      unfold itemsD sgD
      rw [List.map_map, List.map_append]
      rfl
    have hoi : oItems (.dic (sgD sg)) = some (.lst (itemsD (sgD sg))) := if_pos (by unfold sgD; rw [List.length_map]; omega)
    have hil : (itemsD (sgD sg)).length = sg.length := by unfold itemsD sgD; rw [List.length_map, List.length_map]
    have hdp : oDictP [.lst ((sg ++ [(("q" : Str), ("" : Str))]).map fun q => D.tup [.str q.1, .str q.2])] = some (.dic (sgD (sg ++ [(("q" : Str), ("" : Str))]))) := by
      show (pairsD _).map _ = _
      rw [pairsD_map (fun q : Str × Str => q.1) (fun q => .str q.2)]
      show some (D.dic (mergeD [] (sgD (sg ++ [(("q" : Str), ("" : Str))])))) = _
      rw [mergeD_nd (by
        rw [List.nil_append]
        unfold sgD
        rw [List.map_map]
        exact List.pairwise_map.mpr ((List.pairwise_map.mp gO.nd).imp fun hne e => hne (by injection e)))]
      rfl
    refine ev_set (s := .dat (.ins CR (ruleF h ps (sg ++ [(("q" : Str), ("" : Str))])))) (ev_makes (ss := [.dat (.str h), .dat (.lst (ps.map D.str)), .dat (.dic (sgD (sg ++ [(("q" : Str), ("" : Str))])))]) (ev_cons rfl (ev_cons rfl (ev_cons (ev_call1 (d := .lst ((sg ++ [(("q" : Str), ("" : Str))]).map fun q => D.tup [.str q.1, .str q.2])) ?_ hdp) rfl))) ((N1 _ _ h _ (.lst (ps.map D.str)) ps (.dat (.dic (sgD (sg ++ [(("q" : Str), ("" : Str))])))) (sg ++ [(("q" : Str), ("" : Str))]) get_made gO (.inl rfl) rfl rfl (.inl (.inl rfl))).trans (by rw [set_made])) hA3)
    refine ev_op (d := .lst (itemsD (sgD sg))) (e := .lst [.tup [.str "q", .str ""]]) ?_ (ev_l1 (ev_tup2 (d := .str "q") (e := .str "") rfl rfl)) ?_
    · refine (ev_bind (x := .dat (.dic (sgD sg))) (m2 := (LM M0 0 o6 (ls ++ [MO.lst (sl ps ++ [Sl.dat (D.str "zz")]), MO.dic (sgD sg ++ [((Sum.inr ("q" : Str) : Key), D.str "")])]))) rfl).trans ?_
      unfold f1 vw
      simp only [hoi, liftO]
    · rw [← hit]
      exact if_pos (by rw [hil]; show _ + 1 ≤ sizeLine; omega)
  have iI : ∀ gs, isInsD CR (.dat (.ins CR gs)) = true := fun gs => decide_eq_true rfl
  have ek : ∀ (d : D) (gs : List (Str × D)) (mm : Mem), tagOK L CR d = true → okR2 L CR mm (.dat (.ins CR gs)) (.dat d) = true := fun d gs mm hd => by
    unfold okR2
    rw [iI]
    exact hd
  have tI : ∀ gs, tagOK L CR (.ins CR gs) = true := fun gs => by
    show (decide (CR = CR) && decide (CR ∈ L)) = true
    rw [decide_eq_true rfl, decide_eq_true hCL]
    rfl
  have eqE : ∀ {i j : Nat} {ρ : Rho} {mm : Mem} {gs : List (Str × D)} {d : D} {b : Bool}, ρ[i]? = some (some (.dat (.ins CR gs))) → ρ[j]? = some (some (.dat d)) → tagOK L CR d = true → FE [.dat (.ins CR gs), .dat d] mm = some (.ok (.dat (.bl b)), mm) → fEqG L CR FE (fV i) (fV j) ρ mm = some (.ok (.dat (.bl b)), mm) := fun {i j ρ mm gs d b} h1 h2 h3 h4 => by
    unfold fEqG
    refine (ev_bind (x := .dat (.ins CR gs)) (m2 := mm) (by unfold fV; rw [h1])).trans ((ev_bind (x := .dat d) (m2 := mm) (by unfold fV; rw [h2])).trans ?_)
    rw [if_pos (ek d gs mm h3), h4]
  have neE : ∀ {i j : Nat} {ρ : Rho} {mm : Mem} {gs : List (Str × D)} {d : D} {b : Bool}, ρ[i]? = some (some (.dat (.ins CR gs))) → ρ[j]? = some (some (.dat d)) → tagOK L CR d = true → FE [.dat (.ins CR gs), .dat d] mm = some (.ok (.dat (.bl b)), mm) → fNeG L CR FE (fV i) (fV j) ρ mm = some (.ok (.dat (.bl (!b))), mm) := fun {i j ρ mm gs d b} h1 h2 h3 h4 => by
    unfold fNeG
    refine (ev_bind (x := .dat (.ins CR gs)) (m2 := mm) (by unfold fV; rw [h1])).trans ((ev_bind (x := .dat d) (m2 := mm) (by unfold fV; rw [h2])).trans ?_)
    rw [if_pos (ek d gs mm h3), h4]
  refine (ev_seq (ρ2 := [some (.dat sc), some (.opq 0), some (.dat d), some (.dat (.str h)), some (.dat (.lst (ps.map D.str))), some (.dat (.dic (sgD sg))), some (.opq (M0.length + ls.length)), some (.opq (M0.length + (ls.length + 1))), some (.dat (.ins CR (ruleF h ps sg))), some (.dat (.ins CR (ruleF (revT h) (ps.reverse.map revT) sg))), some (.dat (.ins CR (ruleF h ps (sg ++ [(("q" : Str), ("" : Str))])))), s11, s12]) (m2 := (LM M0 0 o6 (ls ++ [MO.lst (sl ps ++ [Sl.dat (D.str "zz")]), MO.dic (sgD sg ++ [((Sum.inr ("q" : Str) : Key), D.str "")])]))) ?_).trans ?_
  · have q1 := oE.1 (LM M0 0 o6 (ls ++ [MO.lst (sl ps ++ [Sl.dat (D.str "zz")]), MO.dic (sgD sg ++ [((Sum.inr ("q" : Str) : Key), D.str "")])])) h ps sg (revT h) (ps.reverse.map revT) sg
    rw [eqB_twin] at q1
    have q2 := oE.1 (LM M0 0 o6 (ls ++ [MO.lst (sl ps ++ [Sl.dat (D.str "zz")]), MO.dic (sgD sg ++ [((Sum.inr ("q" : Str) : Key), D.str "")])])) h ps sg h ps (sg ++ [(("q" : Str), ("" : Str))])
    rw [eqB_other] at q2
    exact (ev_if0 (m1 := (LM M0 0 o6 (ls ++ [MO.lst (sl ps ++ [Sl.dat (D.str "zz")]), MO.dic (sgD sg ++ [((Sum.inr ("q" : Str) : Key), D.str "")])]))) (ev_or0 (ev_not (ev_fB (eqE (i := 8) (j := 9) rfl rfl (tI _) q1))) (ev_or0 (ev_fB (neE (i := 8) (j := 9) rfl rfl (tI _) q1)) (ev_or0 (ev_fB (eqE (i := 8) (j := 10) rfl rfl (tI _) q2)) (ev_not (ev_fB (neE (i := 8) (j := 10) rfl rfl (tI _) q2))))))).trans rfl
  refine (ev_seq (ρ2 := [some (.dat sc), some (.opq 0), some (.dat d), some (.dat (.str h)), some (.dat (.lst (ps.map D.str))), some (.dat (.dic (sgD sg))), some (.opq (M0.length + ls.length)), some (.opq (M0.length + (ls.length + 1))), some (.dat (.ins CR (ruleF h ps sg))), some (.dat (.ins CR (ruleF (revT h) (ps.reverse.map revT) sg))), some (.dat (.ins CR (ruleF h ps (sg ++ [(("q" : Str), ("" : Str))])))), s11, s12]) (m2 := (LM M0 0 o6 (ls ++ [MO.lst (sl ps ++ [Sl.dat (D.str "zz")]), MO.dic (sgD sg ++ [((Sum.inr ("q" : Str) : Key), D.str "")])]))) ?_).trans ?_
  · refine (ev_if0 (m1 := (LM M0 0 o6 (ls ++ [MO.lst (sl ps ++ [Sl.dat (D.str "zz")]), MO.dic (sgD sg ++ [((Sum.inr ("q" : Str) : Key), D.str "")])]))) (ev_fB (ev_op (d := .lst []) (e := .lst []) (ev_lcNone (ds := [D.non, .str h, .lst (ps.map D.str), .dic (sgD sg), .tup []]) rfl (by rw [hsz]; show 5 < 16777216; decide) fun x hx => ?_) rfl neq_nil0))).trans rfl
    have hx2 : (tag L x).isSome = true ∧ isC CR x = false ∧ tagOK L CR x = true := by
      simp only [List.mem_cons, List.not_mem_nil, or_false] at hx
      rcases hx with rfl | rfl | rfl | rfl | rfl <;> exact ⟨rfl, rfl, rfl⟩
    have q := oE.2 (LM M0 0 o6 (ls ++ [MO.lst (sl ps ++ [Sl.dat (D.str "zz")]), MO.dic (sgD sg ++ [((Sum.inr ("q" : Str) : Key), D.str "")])])) h ps sg x hx2.1 hx2.2.1
    exact ⟨_, rfl, ev_or0 (ev_fB (eqE (i := 8) (j := 11) rfl rfl hx2.2.2 q)) (ev_not (b := true) (ev_fB (neE (i := 8) (j := 11) (b := false) rfl rfl hx2.2.2 q)))⟩
  refine (ev_seq (ρ2 := [some (.dat sc), some (.opq 0), some (.dat d), some (.dat (.str h)), some (.dat (.lst (ps.map D.str))), some (.dat (.dic (sgD sg))), some (.opq (M0.length + ls.length)), some (.opq (M0.length + (ls.length + 1))), some (.dat (.ins CR (ruleF h ps sg))), some (.dat (.ins CR (ruleF (revT h) (ps.reverse.map revT) sg))), some (.dat (.ins CR (ruleF h ps (sg ++ [(("q" : Str), ("" : Str))])))), s11, s12]) (m2 := (LM M0 0 o6 (ls ++ [MO.lst (sl ps ++ [Sl.dat (D.str "zz")]), MO.dic (sgD sg ++ [((Sum.inr ("q" : Str) : Key), D.str "")])]))) ?_).trans ?_
  · refine (ev_if0 (m1 := (LM M0 0 o6 (ls ++ [MO.lst (sl ps ++ [Sl.dat (D.str "zz")]), MO.dic (sgD sg ++ [((Sum.inr ("q" : Str) : Key), D.str "")])]))) ?_).trans rfl
    have fl : flatKv (sgD sg) = true := by
      unfold flatKv sgD
      rw [List.all_map]
      exact List.all_eq_true.mpr fun _ _ => rfl
    have oe := oEqA_dic fl (ls := []) rfl
    by_cases hsg : sg = []
    · have e0 : eqKv (sgD sg) [] = true := by rw [hsg]; rfl
      rw [e0] at oe
      refine ev_and1 (m1 := (LM M0 0 o6 (ls ++ [MO.lst (sl ps ++ [Sl.dat (D.str "zz")]), MO.dic (sgD sg ++ [((Sum.inr ("q" : Str) : Key), D.str "")])]))) (ev_fB (ev_op (d := .dic (sgD sg)) (e := .dic []) rfl rfl oe)) (ev_not (b := true) (ev_fB ?_))
      have q := oE.1 (LM M0 0 o6 (ls ++ [MO.lst (sl ps ++ [Sl.dat (D.str "zz")]), MO.dic (sgD sg ++ [((Sum.inr ("q" : Str) : Key), D.str "")])])) h ps [] h ps sg
      have eb : eqB h ps [] h ps sg = true := by rw [hsg]; exact eqB_self
      rw [eb] at q
      unfold fEqG
      refine (ev_bind (x := .dat (.ins CR (ruleF h ps []))) (m2 := (LM M0 0 o6 (ls ++ [MO.lst (sl ps ++ [Sl.dat (D.str "zz")]), MO.dic (sgD sg ++ [((Sum.inr ("q" : Str) : Key), D.str "")])]))) (ev_makes (ss := [.dat (.str h), .dat (.lst (ps.map D.str))]) rfl ((N1 _ _ h _ (.lst (ps.map D.str)) ps (.dat .non) [] get_made g.none (.inl rfl) rfl rfl (.inr ⟨rfl, rfl⟩)).trans (by rw [set_made])) hA3)).trans ((ev_bind (x := .dat (.ins CR (ruleF h ps sg))) (m2 := (LM M0 0 o6 (ls ++ [MO.lst (sl ps ++ [Sl.dat (D.str "zz")]), MO.dic (sgD sg ++ [((Sum.inr ("q" : Str) : Key), D.str "")])]))) rfl).trans ?_)
      rw [if_pos (ek _ _ _ (tI _)), q]
    · have e0 : eqKv (sgD sg) [] = false := by
        unfold eqKv
        have : ((sgD sg).length == ([] : List (Key × D)).length) = false := beq_false_of_ne (by unfold sgD; rw [List.length_map]; exact fun e => hsg (List.length_eq_zero_iff.mp e))
        rw [this, Bool.false_and]
      rw [e0] at oe
      exact ev_and0 (m1 := (LM M0 0 o6 (ls ++ [MO.lst (sl ps ++ [Sl.dat (D.str "zz")]), MO.dic (sgD sg ++ [((Sum.inr ("q" : Str) : Key), D.str "")])]))) (ev_fB (ev_op (d := .dic (sgD sg)) (e := .dic []) rfl rfl oe))
  · refine (ev_if0 (m1 := (LM M0 0 o7 (ls ++ [MO.lst (sl ps ++ [Sl.dat (D.str "zz")]), MO.dic (sgD sg ++ [((Sum.inr ("q" : Str) : Key), D.str "")])]))) (ev_not (b := true) (ev_fB (ev_callG (ss := [.opq 0, .dat (.str h), .dat (.lst (ps.map D.str)), .dat (.dic (sgD sg))]) (m1 := (LM M0 0 o6 (ls ++ [MO.lst (sl ps ++ [Sl.dat (D.str "zz")]), MO.dic (sgD sg ++ [((Sum.inr ("q" : Str) : Key), D.str "")])]))) rfl e7)))).trans rfl
  · rw [zz]
    exact hA2 _ _ hp7
end
end K58
namespace K58
open PySem PySem.Spec PyProof.Rows L2 Pu SeK EV
section
variable {K : PySem.W.Frag} {aN : Addr} {fdN : FuncData}
theorem init_b3 (F : FunD K "__init__" "Rule.__init__" (defArgs sInit) (defBody sInit) (defScope sInit) [.non] [] aN fdN) : Binds K fdN ["self", "colours", "beside", "letters"] [] := by
  obtain ⟨ds, v, b⟩ := F.binds1 (ps := ["self", "colours", "beside", "letters"]) 4 1 (by simp) rfl fun T kV doc pm an cdv ct us its hu hi => by
    match us, hu, its, hi with
    | [a, b, c, d], _, [x], _ => exact ⟨_, rfl, rfl⟩
  cases v
  exact b
theorem init_b2 (F : FunD K "__init__" "Rule.__init__" (defArgs sInit) (defBody sInit) (defScope sInit) [.non] [] aN fdN) : Binds K fdN ["self", "colours", "beside", "letters"] [.none] := by
  obtain ⟨ds, v, b⟩ := F.binds1 (ps := ["self", "colours", "beside", "letters"]) 3 0 (by simp) rfl fun T kV doc pm an cdv ct us its hu hi => by
    match us, hu, its, hi with
    | [a, b, c], _, [x], _ => exact ⟨_, rfl, rfl⟩
  obtain ⟨u, rfl, e⟩ := vals1 v
  cases (show u = Value.none from e)
  exact b
theorem init_bK (F : FunD K "__init__" "Rule.__init__" (defArgs sInit) (defBody sInit) (defScope sInit) [.non] [] aN fdN) : ∃ g, KBn K fdN ["self", "colours", "beside", "letters"] 2 ["beside", "letters"] g (fun vs zs => pk [0, 1, 2, 3] (vs ++ zs ++ [])) := by
  obtain ⟨its, b⟩ := F.kbindsD (ps := ["self", "colours", "beside", "letters"]) 2 ["beside", "letters"] (fun vs _ zs => pk [0, 1, 2, 3] (vs ++ zs ++ [])) (by simp) (fun a _ c => pk_paired ((a.append c).append .nil) _) fun T kV doc pm an cdv ct us its ws hu hi hw => by
    match us, hu, its, hi, ws, hw with
    | [a, b], _, [x], _, [c, d], _ => exact ⟨_, rfl, rfl⟩
  exact ⟨_, b⟩
theorem init_bK0 (F : FunD K "__init__" "Rule.__init__" (defArgs sInit) (defBody sInit) (defScope sInit) [.non] [] aN fdN) : ∃ g, KBn K fdN ["self", "colours", "beside", "letters"] 1 ["beside", "letters", "colours"] g (fun vs zs => pk [0, 3, 1, 2] (vs ++ zs ++ [])) := by
  obtain ⟨its, b⟩ := F.kbindsD (ps := ["self", "colours", "beside", "letters"]) 1 ["beside", "letters", "colours"] (fun vs _ zs => pk [0, 3, 1, 2] (vs ++ zs ++ [])) (by simp) (fun a _ c => pk_paired ((a.append c).append .nil) _) fun T kV doc pm an cdv ct us its ws hu hi hw => by
    match us, hu, its, hi, ws, hw with
    | [a], _, [x], _, [c, d, e], _ => exact ⟨_, rfl, rfl⟩
  exact ⟨_, b⟩
end
end K58
namespace K58
open PySem PySem.Spec PyProof.Rows L2 Pu SeK EV LamX
abbrev sBad5 : Stmt := inClass (top 5) 0
theorem scBad5 : FnScope ["self", "value"] ["self", "value"] (defScope sBad5) := ⟨rfl, rfl, rfl, by decide +kernel, rfl, by decide +kernel, by decide +kernel⟩
/-- a def with one default, None -/
structure DefNAt (K : PySem.W.Frag) (x qual : Str) (st : Stmt) (f : Addr) : Prop where
  fn : ∃ oc od T o n kV doc pm an cd ct sl, K.lookup f = some ⟨oc, od, .func (PySem.W.fnOf x qual (defArgs st) (defBody st) (defScope st) (.ref T) kV doc pm an cd ct), sl⟩ ∧ PySem.W.codeIn K cd qual = true ∧ K.lookup T = some o ∧ o.data = .seq #[.none] n
  keep : PySem.W.keepIn K (.ref f) = true
theorem DefNAt.mk' {K : PySem.W.Frag} {f T : Addr} {x qual : Str} {st : Stmt} {oc oc2 : Value} {od od2 : Option Addr} {kV doc pm : Value} {an : Option Addr} {cd ct : Value} {sl sl2 : Array (Option Value)} {n : Nat}
    (l : K.lookup f = some ⟨oc, od, .func (PySem.W.fnOf x qual (defArgs st) (defBody st) (defScope st) (.ref T) kV doc pm an cd ct), sl⟩) (c : PySem.W.codeIn K cd qual = true) (l2 : K.lookup T = some ⟨oc2, od2, .seq #[.none] n, sl2⟩) (k : PySem.W.keepIn K (.ref f) = true) : DefNAt K x qual st f :=
  ⟨⟨oc, od, T, _, n, kV, doc, pm, an, cd, ct, sl, l, c, l2, rfl⟩, k⟩
theorem DefNAt.fun {K : PySem.W.Frag} {x qual : Str} {st : Stmt} {f : Addr} (d : DefNAt K x qual st f) : ∃ fd, FunD K x qual (defArgs st) (defBody st) (defScope st) [.non] [] f fd := by
  obtain ⟨oc, od, T, o, n, kV, doc, pm, an, cd, ct, sl, l, c, l2, e⟩ := d.fn
  exact ⟨_, ⟨⟨oc, od, .ref T, kV, doc, pm, an, cd, ct, sl, rfl, l, c, .inr ⟨by simp, T, o, [.none], n, rfl, l2, e, .cons rfl .nil⟩, .inl rfl⟩, d.keep⟩⟩
theorem all_mk {l : PySem.W.OpenLaw} {w : World} {K : PySem.W.Frag} {mg : Str → Option Value} {h : Heap} {fa : Addr} {F2 F8 F11 F12 F13 F14 F15 F18 F19 F20 F21 F22 F23 F24 F25 F26 F27 F28 c27 c28 P27 W CB IB CR IR fE : Addr} {tk1 tk2 tk3 : Tok} (X : K.In h) (G : h.Ns mainGlobals mg) (hfa : mg "law" = some (.ref fa))
    (aW : PySem.W.nsIn K mainGlobals "WebError" = some (some (.ref W)))
    (EB : ErrAt K W "BadRule" "BadRule.__init__" sBad5 "value" CB IB)
    (sBB : PySem.W.subIn K (.ref CB) (.ref CB) = some true)
    (ZR : ClsLeft K "Rule" CR IR "colours")
    (iBW : PySem.W.kitOne K (.ref CB) (.ref W) = some true)
    (iBV : PySem.W.kitOne K (.ref CB) (.type "ValueError") = some true)
    (b_ValueError : PySem.W.nsIn K mainGlobals "ValueError" = some none)
    (JR : KitsAt K CR)
    (nB : PySem.W.findIn K (.ref CR) "beside" = some none)
    (nL : PySem.W.findIn K (.ref CR) "letters" = some none)
    (hn : PySem.W.specialIn K (.builtin "object.__class__") "__get__" = some (some (.builtin "getset_descriptor.__get__")))
    (ht : PySem.W.takesIn K (.builtin "object.__class__") = some true)
    (DI : DefNAt K "__init__" "Rule.__init__" sInit IR)
    (YE : MethAt K CR "__eq__" "Rule.__eq__" sEq fE)
    (oNE : PySem.W.findIn K (.ref CR) "__ne__" = some (some (.builtin "object.__ne__")))
    (o_NoneType : PySem.W.subIn K (.type "NoneType") (.ref CR) = some false)
    (o_bool : PySem.W.subIn K (.type "bool") (.ref CR) = some false)
    (o_int : PySem.W.subIn K (.type "int") (.ref CR) = some false)
    (o_str : PySem.W.subIn K (.type "str") (.ref CR) = some false)
    (o_dict : PySem.W.subIn K (.type "dict") (.ref CR) = some false)
    (o_list : PySem.W.subIn K (.type "list") (.ref CR) = some false)
    (o_tuple : PySem.W.subIn K (.type "tuple") (.ref CR) = some false)
    (a2 : PySem.W.nsIn K mainGlobals "is_list" = some (some (.ref F2)))
    (D2 : DefAt K "is_list" "is_list" sIsList F2)
    (a8 : PySem.W.nsIn K mainGlobals "is_letter" = some (some (.ref F8)))
    (D8 : DefAt K "is_letter" "is_letter" sIsLetter F8)
    (a11 : PySem.W.nsIn K mainGlobals "are_colours" = some (some (.ref F11)))
    (D11 : DefAt K "are_colours" "are_colours" sColours F11)
    (a12 : PySem.W.nsIn K mainGlobals "are_some_of" = some (some (.ref F12)))
    (D12 : DefAt K "are_some_of" "are_some_of" sSome F12)
    (a13 : PySem.W.nsIn K mainGlobals "are_letters_of" = some (some (.ref F13)))
    (D13 : DefAt K "are_letters_of" "are_letters_of" sLetters F13)
    (a14 : PySem.W.nsIn K mainGlobals "ascending" = some (some (.ref F14)))
    (D14 : DefAt K "ascending" "ascending" sAscending F14)
    (a15 : PySem.W.nsIn K mainGlobals "check_beside" = some (some (.ref F15)))
    (D15 : DefAt K "check_beside" "check_beside" sBeside F15)
    (a18 : PySem.W.nsIn K mainGlobals "_law_begin" = some (some (.ref F18)))
    (D18 : DefAt K "_law_begin" "_law_begin" sBegin F18)
    (a19 : PySem.W.nsIn K mainGlobals "_law_draw" = some (some (.ref F19)))
    (D19 : DefAt K "_law_draw" "_law_draw" sDraw F19)
    (a20 : PySem.W.nsIn K mainGlobals "_law_pick" = some (some (.ref F20)))
    (D20 : DefAt K "_law_pick" "_law_pick" sPick F20)
    (a21 : PySem.W.nsIn K mainGlobals "_law_shuffled" = some (some (.ref F21)))
    (D21 : DefAt K "_law_shuffled" "_law_shuffled" sShuf F21)
    (a22 : PySem.W.nsIn K mainGlobals "_law_refused" = some (some (.ref F22)))
    (D22 : DefAt K "_law_refused" "_law_refused" sRef F22)
    (a23 : PySem.W.nsIn K mainGlobals "_law_is_rule" = some (some (.ref F23)))
    (D23 : DefAt K "_law_is_rule" "_law_is_rule" sIsRule F23)
    (a24 : PySem.W.nsIn K mainGlobals "_law_strange" = some (some (.ref F24)))
    (D24 : DefAt K "_law_strange" "_law_strange" sStrange F24)
    (a25 : PySem.W.nsIn K mainGlobals "_law_pairs_of" = some (some (.ref F25)))
    (D25 : DefAt K "_law_pairs_of" "_law_pairs_of" sPairs F25)
    (a26 : PySem.W.nsIn K mainGlobals "_law_letters_of" = some (some (.ref F26)))
    (D26 : DefAt K "_law_letters_of" "_law_letters_of" sLet F26)
    (a27 : PySem.W.nsIn K mainGlobals "_law_refusals_right" = some (some (.ref F27)))
    (D27 : CodeAt K "_law_refusals_right" sRefs F27 c27)
    (a28 : PySem.W.nsIn K mainGlobals "law" = some (some (.ref F28)))
    (D28 : CodeAt K "law" sLaw F28 c28)
    (b_tuple : PySem.W.nsIn K mainGlobals "tuple" = some none)
    (b_len : PySem.W.nsIn K mainGlobals "len" = some none)
    (b_list : PySem.W.nsIn K mainGlobals "list" = some none)
    (b_range : PySem.W.nsIn K mainGlobals "range" = some none)
    (b_min : PySem.W.nsIn K mainGlobals "min" = some none)
    (b_abs : PySem.W.nsIn K mainGlobals "abs" = some none)
    (b_isinstance : PySem.W.nsIn K mainGlobals "isinstance" = some none)
    (b_int : PySem.W.nsIn K mainGlobals "int" = some none)
    (b_all : PySem.W.nsIn K mainGlobals "all" = some none)
    (b_sorted : PySem.W.nsIn K mainGlobals "sorted" = some none)
    (b_set : PySem.W.nsIn K mainGlobals "set" = some none)
    (b_dict : PySem.W.nsIn K mainGlobals "dict" = some none)
    (b_str : PySem.W.nsIn K mainGlobals "str" = some none)
    (n0 : PySem.W.nsIn K mainGlobals "ALPHABET" = some (some (.str "abcdefghijklmnopqrstuvwxyz" tk1)))
    (n1 : PySem.W.nsIn K mainGlobals "NO_LETTER" = some (some (.str "." tk2)))
    (n2 : PySem.W.nsIn K mainGlobals "MOST_COLOURS" = some (some (.int 4 tk3)))
    (cd27 : PySem.W.CodeHd h c27 P27)
    (tb27 : h.get? P27 = some emptyTab)
    (kn27 : K.lookup P27 = none)
    : ∃ (fd : FuncData) (cs : List (Addr × Addr)) (sp : Sp), (∀ p ∈ cs, h.get? p.2 = some emptyTab ∧ K.lookup p.2 = none ∧ PySem.W.CodeHd h p.1 p.2) ∧ (∀ (s : Shared) (u : Value), BindsTo s fd ⟨[u], []⟩ [("_law_script", u)]) ∧
      (∀ (H : Hp) (a : Addr) (ns : List Int), ns.length ≤ 63 → (∀ p ∈ cs, H p.2 = some (.tbl #[])) → SqL K H a (ns.map V.int) → sp [.ref a] H (fun v _ => v = .bl true) fun _ _ _ => False) ∧
      ∀ base : Heap, K.In base → base.Ns mainGlobals mg → (∀ p ∈ cs, TabB base mg p.1 p.2) → Pu.FnG l.prog w K mg base 10 fa fd ["_law_script"] sp := by
  have e := hfa.symm.trans (PySem.W.mg_of X G a28)
  cases e
  have z_tuple : mg "tuple" = none := PySem.W.mg_none_of X G b_tuple
  have z_len : mg "len" = none := PySem.W.mg_none_of X G b_len
  have z_list : mg "list" = none := PySem.W.mg_none_of X G b_list
  have z_range : mg "range" = none := PySem.W.mg_none_of X G b_range
  have z_min : mg "min" = none := PySem.W.mg_none_of X G b_min
  have z_abs : mg "abs" = none := PySem.W.mg_none_of X G b_abs
  have z_isinstance : mg "isinstance" = none := PySem.W.mg_none_of X G b_isinstance
  have z_int : mg "int" = none := PySem.W.mg_none_of X G b_int
  have z_all : mg "all" = none := PySem.W.mg_none_of X G b_all
  have z_sorted : mg "sorted" = none := PySem.W.mg_none_of X G b_sorted
  have z_set : mg "set" = none := PySem.W.mg_none_of X G b_set
  have z_dict : mg "dict" = none := PySem.W.mg_none_of X G b_dict
  have z_str : mg "str" = none := PySem.W.mg_none_of X G b_str
  have z_ValueError : mg "ValueError" = none := PySem.W.mg_none_of X G b_ValueError
  have mA : mg "ALPHABET" = some (.str "abcdefghijklmnopqrstuvwxyz" tk1) := PySem.W.mg_of X G n0
  have mN : mg "NO_LETTER" = some (.str "." tk2) := PySem.W.mg_of X G n1
  have mM : mg "MOST_COLOURS" = some (.int 4 tk3) := PySem.W.mg_of X G n2
  have gR : mg "Rule" = some (.ref CR) := PySem.W.mg_of X G ZR.aC
  obtain ⟨fd2, G2⟩ := D2.fun
  have A2 : At K mg "is_list" F2 fd2 ["value"] := ⟨PySem.W.mg_of X G a2, D2.keep, G2.binds (ps := ["value"]) fun _ _ _ _ _ _ us hl => match us, hl with | [_], _ => rfl⟩
  obtain ⟨fd8, G8⟩ := D8.fun
  have A8 : At K mg "is_letter" F8 fd8 ["value"] := ⟨PySem.W.mg_of X G a8, D8.keep, G8.binds (ps := ["value"]) fun _ _ _ _ _ _ us hl => match us, hl with | [_], _ => rfl⟩
  obtain ⟨fd11, G11⟩ := D11.fun
  have A11 : At K mg "are_colours" F11 fd11 ["value"] := ⟨PySem.W.mg_of X G a11, D11.keep, G11.binds (ps := ["value"]) fun _ _ _ _ _ _ us hl => match us, hl with | [_], _ => rfl⟩
  obtain ⟨fd12, G12⟩ := D12.fun
  have A12 : At K mg "are_some_of" F12 fd12 ["value", "colours"] := ⟨PySem.W.mg_of X G a12, D12.keep, G12.binds (ps := ["value", "colours"]) fun _ _ _ _ _ _ us hl => match us, hl with | [_, _], _ => rfl⟩
  obtain ⟨fd13, G13⟩ := D13.fun
  have A13 : At K mg "are_letters_of" F13 fd13 ["value", "colours"] := ⟨PySem.W.mg_of X G a13, D13.keep, G13.binds (ps := ["value", "colours"]) fun _ _ _ _ _ _ us hl => match us, hl with | [_, _], _ => rfl⟩
  obtain ⟨fd14, G14⟩ := D14.fun
  have A14 : At K mg "ascending" F14 fd14 ["signs"] := ⟨PySem.W.mg_of X G a14, D14.keep, G14.binds (ps := ["signs"]) fun _ _ _ _ _ _ us hl => match us, hl with | [_], _ => rfl⟩
  obtain ⟨fd15, G15⟩ := D15.fun
  have A15 : At K mg "check_beside" F15 fd15 ["beside", "colours"] := ⟨PySem.W.mg_of X G a15, D15.keep, G15.binds (ps := ["beside", "colours"]) fun _ _ _ _ _ _ us hl => match us, hl with | [_, _], _ => rfl⟩
  obtain ⟨fd18, G18⟩ := D18.fun
  have A18 : At K mg "_law_begin" F18 fd18 ["_law_script"] := ⟨PySem.W.mg_of X G a18, D18.keep, G18.binds (ps := ["_law_script"]) fun _ _ _ _ _ _ us hl => match us, hl with | [_], _ => rfl⟩
  obtain ⟨fd19, G19⟩ := D19.fun
  have A19 : At K mg "_law_draw" F19 fd19 ["_law_pen", "_law_span"] := ⟨PySem.W.mg_of X G a19, D19.keep, G19.binds (ps := ["_law_pen", "_law_span"]) fun _ _ _ _ _ _ us hl => match us, hl with | [_, _], _ => rfl⟩
  obtain ⟨fd20, G20⟩ := D20.fun
  have A20 : At K mg "_law_pick" F20 fd20 ["_law_pen", "_law_some"] := ⟨PySem.W.mg_of X G a20, D20.keep, G20.binds (ps := ["_law_pen", "_law_some"]) fun _ _ _ _ _ _ us hl => match us, hl with | [_, _], _ => rfl⟩
  obtain ⟨fd21, G21⟩ := D21.fun
  have A21 : At K mg "_law_shuffled" F21 fd21 ["_law_pen", "_law_some"] := ⟨PySem.W.mg_of X G a21, D21.keep, G21.binds (ps := ["_law_pen", "_law_some"]) fun _ _ _ _ _ _ us hl => match us, hl with | [_, _], _ => rfl⟩
  obtain ⟨fd22, G22⟩ := D22.fun
  have A22 : At K mg "_law_refused" F22 fd22 ["_law_call"] := ⟨PySem.W.mg_of X G a22, D22.keep, G22.binds (ps := ["_law_call"]) fun _ _ _ _ _ _ us hl => match us, hl with | [_], _ => rfl⟩
  obtain ⟨fd23, G23⟩ := D23.fun
  have A23 : At K mg "_law_is_rule" F23 fd23 ["_law_made", "_law_hues", "_law_pairs", "_law_signs"] := ⟨PySem.W.mg_of X G a23, D23.keep, G23.binds (ps := ["_law_made", "_law_hues", "_law_pairs", "_law_signs"]) fun _ _ _ _ _ _ us hl => match us, hl with | [_, _, _, _], _ => rfl⟩
  obtain ⟨fd24, G24⟩ := D24.fun
  have A24 : At K mg "_law_strange" F24 fd24 ["_law_pen"] := ⟨PySem.W.mg_of X G a24, D24.keep, G24.binds (ps := ["_law_pen"]) fun _ _ _ _ _ _ us hl => match us, hl with | [_], _ => rfl⟩
  obtain ⟨fd25, G25⟩ := D25.fun
  have A25 : At K mg "_law_pairs_of" F25 fd25 ["_law_pen", "_law_hues"] := ⟨PySem.W.mg_of X G a25, D25.keep, G25.binds (ps := ["_law_pen", "_law_hues"]) fun _ _ _ _ _ _ us hl => match us, hl with | [_, _], _ => rfl⟩
  obtain ⟨fd26, G26⟩ := D26.fun
  have A26 : At K mg "_law_letters_of" F26 fd26 ["_law_pen", "_law_hues"] := ⟨PySem.W.mg_of X G a26, D26.keep, G26.binds (ps := ["_law_pen", "_law_hues"]) fun _ _ _ _ _ _ us hl => match us, hl with | [_, _], _ => rfl⟩
  obtain ⟨fd27, G27, C27⟩ := D27.fun
  have A27 : At K mg "_law_refusals_right" F27 fd27 ["_law_pen", "_law_hues", "_law_pairs", "_law_signs"] := ⟨PySem.W.mg_of X G a27, D27.keep, G27.binds (ps := ["_law_pen", "_law_hues", "_law_pairs", "_law_signs"]) fun _ _ _ _ _ _ us hl => match us, hl with | [_, _, _, _], _ => rfl⟩
  obtain ⟨fd28, G28, C28⟩ := D28.fun
  obtain ⟨fdI, GI⟩ := DI.fun
  obtain ⟨fdE, GE⟩ := YE.df.fun
  have bE : Binds K fdE ["self", "other"] [] := GE.binds (ps := ["self", "other"]) fun _ _ _ _ _ _ us hl => match us, hl with | [_, _], _ => rfl
  have RB : ∀ (P : Program) (base : Heap), Err P w K mg base "BadRule" CB ["value"] := fun P base => EB.err X G (fun fd F T n => ok_init1 rfl scBad5 (Or.inl rfl) (Or.inl rfl) (by decide) (by decide) F T n) fun _ _ _ _ _ _ us ws h0 hl => match us, ws, h0, hl with | [_], [_], _, _ => rfl | [_, _], [], _, _ => rfl
  have OW : Own K [CR] := by
    refine ⟨fun C hC => ?_, fun C hC t ht0 => ?_, fun C hC C2 hC2 hne => ?_⟩
    · cases List.mem_singleton.mp hC; exact ZR.ins hn ht
    · cases List.mem_singleton.mp hC; exact ⟨ZR.kin t ht0, JR.all t ht0⟩
    · exact absurd ((List.mem_singleton.mp hC).trans (List.mem_singleton.mp hC2).symm) hne
  have RC : RuleC K mg [CR] CR := ⟨OW, ZR.cls, ZR.no, nB, nL, List.mem_singleton.mpr rfl, gR⟩
  have LT : LowT K CR := fun t ht0 => by
    simp only [kinds, List.mem_cons, List.not_mem_nil, or_false] at ht0
    rcases ht0 with z | z | z | z | z | z | z <;> subst z
    · first | exact o_NoneType | exact o_bool | exact o_int | exact o_str | exact o_dict | exact o_list | exact o_tuple
    · first | exact o_NoneType | exact o_bool | exact o_int | exact o_str | exact o_dict | exact o_list | exact o_tuple
    · first | exact o_NoneType | exact o_bool | exact o_int | exact o_str | exact o_dict | exact o_list | exact o_tuple
    · first | exact o_NoneType | exact o_bool | exact o_int | exact o_str | exact o_dict | exact o_list | exact o_tuple
    · first | exact o_NoneType | exact o_bool | exact o_int | exact o_str | exact o_dict | exact o_list | exact o_tuple
    · first | exact o_NoneType | exact o_bool | exact o_int | exact o_str | exact o_dict | exact o_list | exact o_tuple
    · first | exact o_NoneType | exact o_bool | exact o_int | exact o_str | exact o_dict | exact o_list | exact o_tuple
  have RF : RefF K mg CB W := ⟨PySem.W.mg_of X G EB.aC, PySem.W.mg_of X G aW, z_ValueError, PySem.W.exm_ref EB.eC EB.hC EB.tC sBB, EB.exc hn ht, EB.xf, EB.no, iBW, iBV⟩
  refine ⟨fd28, [(c27, P27)], spTrue K [(P27, qRefs)] 63, ?_, fun s u => ?_, fun H a ns hl hT hS => ?_, fun base hbK hbN hTB => ?_⟩
  · intro p hp
    cases List.mem_singleton.mp hp
    exact ⟨tb27, kn27, cd27⟩
  · obtain ⟨oc, od, kV, doc, pm, an, cdv, ct, osl, rfl, lk, hcd⟩ := G28.ex
    exact .of_eq rfl
  · refine ⟨a, ns, rfl, hS, hl, fun p hp => ?_, fun _ => rfl⟩
    cases List.mem_singleton.mp hp
    exact TabS.nil (hT (c27, P27) (by simp))
  · have T27 := hTB _ (List.mem_cons_self ..)
    obtain ⟨XL, YL, ZL⟩ := fx_isList (P := l.prog) (w := w) (mg := mg) (base := base) (T := [(P27, qRefs)]) (L := [CR]) OW G2 z_isinstance z_list z_tuple
    have OT := fx_isLetter (P := l.prog) (w := w) (mg := mg) (base := base) (T := [(P27, qRefs)]) (L := [CR]) OW G8 z_isinstance z_len z_str mA mN
    have OS := fx_some (P := l.prog) (w := w) (mg := mg) (base := base) (T := [(P27, qRefs)]) (L := [CR]) OW G12 z_isinstance z_all z_str
    have OC := fx_colours (P := l.prog) (w := w) (mg := mg) (base := base) (T := [(P27, qRefs)]) (L := [CR]) OW G11 z_isinstance z_len z_all z_set z_str mA mM
    obtain ⟨Xa, Ya, Za⟩ := fx_asc (P := l.prog) (w := w) (mg := mg) (base := base) (T := [(P27, qRefs)]) G14 z_sorted z_set
    obtain ⟨Xe, Ye, Ze⟩ := fx_letters OW G13 z_isinstance z_all z_dict OT A8 OS A12
    obtain ⟨Xb, Yb, Zb⟩ := fx_beside G15 z_len (RB l.prog base) YL A2 ZL OS A12
    obtain ⟨Xn, Yn, Zn⟩ := fx_init GI RC z_tuple z_sorted z_set (RB l.prog base) OC A11 Yb A15 Zb Ye A13 Ze Ya A14 Za
    obtain ⟨Xq, Yq, Zq⟩ := fx_eq (P := l.prog) (w := w) (mg := mg) (base := base) (T := [(P27, qRefs)]) GE RC z_isinstance
    obtain ⟨Xd, Yd, Zd⟩ := fx_draw (P := l.prog) (w := w) (mg := mg) (base := base) (T := [(P27, qRefs)]) G19 z_int z_len z_abs
    obtain ⟨Xp, Yp, Zp⟩ := fx_pick G20 z_len Yd A19 Zd
    obtain ⟨Xh, Yh, Zh⟩ := fx_shuf G21 z_len z_list Yd A19 Zd
    obtain ⟨Xi, Yi, Zi⟩ := fx_isRule (P := l.prog) (w := w) (mg := mg) (base := base) (T := [(P27, qRefs)]) G23 RC z_tuple z_sorted z_dict z_str
    obtain ⟨Xo, Yo, Zo⟩ := fx_strange G24 Yp A20 Zp
    obtain ⟨Xf, Yf, Zf⟩ := fx_pairs G25 Yd A19 Zd Yh A21 Zh
    obtain ⟨Xl, Yl, Zl⟩ := fx_let G26 Yd A19 Zd Yh A21 Zh
    obtain ⟨Xg, Yg, Zg⟩ := fx_begin (P := l.prog) (w := w) (mg := mg) (base := base) (T := [(P27, qRefs)]) G18 z_list
    have LK : LamK K mg CB W F22 fd22 := ⟨G22, A22, RF, z_isinstance⟩
    have KM : MakeK K mg CR IR fdI := ⟨ZR.make, gR, init_b3 GI, init_b2 GI, init_bK GI⟩
    have RE : EqOp K CR fE := ⟨YE.at_, YE.fn, oNE, ZR.mo, o_tuple⟩
    obtain ⟨Xr, Yr, Zr⟩ := fx_refs C27 LK OW KM z_len Yd A19 Zd Yp A20 Zp Yo A24 Zo Yn Zn T27 (List.mem_cons_self ..) (fun p hp _ => by cases List.mem_singleton.mp hp; rfl)
    obtain ⟨Xz, Yz, Zz⟩ := fx_law C28 OW (List.mem_singleton.mpr rfl) LT KM (init_bK0 GI) z_list z_tuple z_range z_dict z_len z_min Yg A18 Zg Yd A19 Zd Yp A20 Zp Yh A21 Zh Yf A25 Zf Yl A26 Zl Yi A23 Zi Yr A27 Zr Yn Zn RE Yq bE Zq
    exact law_true Yz Zz
end K58
local macro_rules | `(tactic| o_headL ($_ $a $b $c)) => `(tactic| o_headL (Pu.hookT $a $b $c [175]))
open PySem PySem.W PyProof.Rows
set_option maxRecDepth 100000 in
set_option maxHeartbeats 0 in
theorem PySem.Challenge.cw_growwebs_k58_rules_and_refusals_holds : PySem.Challenge.rw_growwebs_k58_rules_and_refusals.Holds := by
  w_on; o_law; k_headL; (case hw => w_witness2)
  k_fill
  refine Pu.walkG (l := PySem.Challenge.rw_growwebs_k58_rules_and_refusals) (n := 63) (k := 10) (x := "_law_script") rfl (by decide) rfl ⟨rfl, by decide, by decide⟩ (fun w h Y => Pu.in_left (kIn_of Y)) ?F
  case F =>
    intro w mg fa h Y KX G hmg
    refine' K58.all_mk (P27 := 175) KX G hmg ?aW ?EB ?sBB ?ZR ?iBW ?iBV ?b_ValueError ?JR ?nB ?nL ?hn ?ht ?DI ?YE ?oNE ?o_NoneType ?o_bool ?o_int ?o_str ?o_dict ?o_list ?o_tuple ?a2 ?D2 ?a8 ?D8 ?a11 ?D11 ?a12 ?D12 ?a13 ?D13 ?a14 ?D14 ?a15 ?D15 ?a18 ?D18 ?a19 ?D19 ?a20 ?D20 ?a21 ?D21 ?a22 ?D22 ?a23 ?D23 ?a24 ?D24 ?a25 ?D25 ?a26 ?D26 ?a27 ?D27 ?a28 ?D28 ?b_tuple ?b_len ?b_list ?b_range ?b_min ?b_abs ?b_isinstance ?b_int ?b_all ?b_sorted ?b_set ?b_dict ?b_str ?n0 ?n1 ?n2 ?cd27 ?tb27 ?kn27
    (case aW => k_is)
    (case EB => (refine' Pu.ErrAt.mk ?q_aC (Pu.obj_mk ?q_obj) ?q_sa ?q_ga ?q_gg ?q_no ?q_a1 ?q_t1 ?q_df ?q_kC ?q_eC ?q_tC ?q_hC ?q_cl ?q_mo; (case q_aC => k_is); (case q_obj => k_is); (case q_sa => k_is); (case q_ga => k_is); (case q_gg => k_is); (case q_no => k_is); (case q_a1 => k_is); (case q_t1 => k_is); (case q_df => (refine' Pu.DefAt.mk' ?q_l ?q_c ?q_k; (case q_l => k_is); (case q_c => k_is); (case q_k => k_is))); (case q_kC => k_is); (case q_eC => k_is); (case q_tC => k_is); (case q_hC => k_is); (case q_cl => k_is); (case q_mo => k_is)))
    (case sBB => k_is)
    (case ZR => (refine' Pu.ClsLeft.mk ?q_aC ?q_pg ?q_hd ?q_po ?q_sa ?q_cl ?q_mo ?q_me ?q_k1 ?q_k2 ?q_k3 ?q_k4 ?q_k5 ?q_k6 ?q_k7 ?q_mks ?q_it ?q_fn ?q_kp ?q_no; (case q_aC => k_is); (case q_pg => k_is); (case q_hd => k_is); (case q_po => k_is); (case q_sa => k_is); (case q_cl => k_is); (case q_mo => k_is); (case q_me => kit_is); (case q_k1 => kit_is); (case q_k2 => kit_is); (case q_k3 => kit_is); (case q_k4 => kit_is); (case q_k5 => kit_is); (case q_k6 => kit_is); (case q_k7 => kit_is); (case q_mks => k_is); (case q_it => k_is); (case q_fn => k_is); (case q_kp => k_is); (case q_no => k_is)))
    (case iBW => kit_is)
    (case iBV => kit_is)
    (case b_ValueError => k_is)
    (case JR => (refine' Pu.KitsAt.mk ?q_j1 ?q_j2 ?q_j3 ?q_j4 ?q_j5 ?q_j6 ?q_j7; (case q_j1 => kit_is); (case q_j2 => kit_is); (case q_j3 => kit_is); (case q_j4 => kit_is); (case q_j5 => kit_is); (case q_j6 => kit_is); (case q_j7 => kit_is)))
    (case nB => k_is)
    (case nL => k_is)
    (case hn => k_is)
    (case ht => k_is)
    (case DI => (refine' K58.DefNAt.mk' ?q_l ?q_c ?q_l2 ?q_k; (case q_l => k_is); (case q_c => k_is); (case q_l2 => k_is); (case q_k => k_is)))
    (case YE => (refine' Pu.MethAt.mk ?q_a ?q_f ?q_df; (case q_a => k_is); (case q_f => k_is); (case q_df => (refine' Pu.DefAt.mk' ?q_l ?q_c ?q_k; (case q_l => k_is); (case q_c => k_is); (case q_k => k_is)))))
    (case oNE => k_is)
    (case o_NoneType => k_is)
    (case o_bool => k_is)
    (case o_int => k_is)
    (case o_str => k_is)
    (case o_dict => k_is)
    (case o_list => k_is)
    (case o_tuple => k_is)
    (case a2 => k_is)
    (case D2 => (refine' Pu.DefAt.mk' ?q_l ?q_c ?q_k; (case q_l => k_is); (case q_c => k_is); (case q_k => k_is)))
    (case a8 => k_is)
    (case D8 => (refine' Pu.DefAt.mk' ?q_l ?q_c ?q_k; (case q_l => k_is); (case q_c => k_is); (case q_k => k_is)))
    (case a11 => k_is)
    (case D11 => (refine' Pu.DefAt.mk' ?q_l ?q_c ?q_k; (case q_l => k_is); (case q_c => k_is); (case q_k => k_is)))
    (case a12 => k_is)
    (case D12 => (refine' Pu.DefAt.mk' ?q_l ?q_c ?q_k; (case q_l => k_is); (case q_c => k_is); (case q_k => k_is)))
    (case a13 => k_is)
    (case D13 => (refine' Pu.DefAt.mk' ?q_l ?q_c ?q_k; (case q_l => k_is); (case q_c => k_is); (case q_k => k_is)))
    (case a14 => k_is)
    (case D14 => (refine' Pu.DefAt.mk' ?q_l ?q_c ?q_k; (case q_l => k_is); (case q_c => k_is); (case q_k => k_is)))
    (case a15 => k_is)
    (case D15 => (refine' Pu.DefAt.mk' ?q_l ?q_c ?q_k; (case q_l => k_is); (case q_c => k_is); (case q_k => k_is)))
    (case a18 => k_is)
    (case D18 => (refine' Pu.DefAt.mk' ?q_l ?q_c ?q_k; (case q_l => k_is); (case q_c => k_is); (case q_k => k_is)))
    (case a19 => k_is)
    (case D19 => (refine' Pu.DefAt.mk' ?q_l ?q_c ?q_k; (case q_l => k_is); (case q_c => k_is); (case q_k => k_is)))
    (case a20 => k_is)
    (case D20 => (refine' Pu.DefAt.mk' ?q_l ?q_c ?q_k; (case q_l => k_is); (case q_c => k_is); (case q_k => k_is)))
    (case a21 => k_is)
    (case D21 => (refine' Pu.DefAt.mk' ?q_l ?q_c ?q_k; (case q_l => k_is); (case q_c => k_is); (case q_k => k_is)))
    (case a22 => k_is)
    (case D22 => (refine' Pu.DefAt.mk' ?q_l ?q_c ?q_k; (case q_l => k_is); (case q_c => k_is); (case q_k => k_is)))
    (case a23 => k_is)
    (case D23 => (refine' Pu.DefAt.mk' ?q_l ?q_c ?q_k; (case q_l => k_is); (case q_c => k_is); (case q_k => k_is)))
    (case a24 => k_is)
    (case D24 => (refine' Pu.DefAt.mk' ?q_l ?q_c ?q_k; (case q_l => k_is); (case q_c => k_is); (case q_k => k_is)))
    (case a25 => k_is)
    (case D25 => (refine' Pu.DefAt.mk' ?q_l ?q_c ?q_k; (case q_l => k_is); (case q_c => k_is); (case q_k => k_is)))
    (case a26 => k_is)
    (case D26 => (refine' Pu.DefAt.mk' ?q_l ?q_c ?q_k; (case q_l => k_is); (case q_c => k_is); (case q_k => k_is)))
    (case a27 => k_is)
    (case D27 => (refine' Pu.CodeAt.mk' ?q_l ?q_c ?q_k; (case q_l => k_is); (case q_c => k_is); (case q_k => k_is)))
    (case a28 => k_is)
    (case D28 => (refine' Pu.CodeAt.mk' ?q_l ?q_c ?q_k; (case q_l => k_is); (case q_c => k_is); (case q_k => k_is)))
    (case b_tuple => k_is)
    (case b_len => k_is)
    (case b_list => k_is)
    (case b_range => k_is)
    (case b_min => k_is)
    (case b_abs => k_is)
    (case b_isinstance => k_is)
    (case b_int => k_is)
    (case b_all => k_is)
    (case b_sorted => k_is)
    (case b_set => k_is)
    (case b_dict => k_is)
    (case b_str => k_is)
    (case n0 => k_is)
    (case n1 => k_is)
    (case n2 => k_is)
    (case cd27 => exact codeHd_of_K KX (by kernel_rfl))
    (case tb27 => exact kIn_of Y _ _ (by kernel_rfl))
    (case kn27 => kernel_rfl)
