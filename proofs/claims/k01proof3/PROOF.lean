import PyProof.Rows.All
import Wide.All
import OpenK.AllK
import Wide.FinOn
import HandS.ForMost
import HandS.Sort
import HandS.SortInts
import HandS.Conv
import HandS.Zip
import HandS.IsInst
import HandS.Deep
import HandS.Walk
import KE.SortData
import KE.GoesMore
import KE.GoesEnum
import HandS.TupAny
import HandS.Flow
import HandS.More
import PySem.Challenge.RW_newfaces_k01_what_is_wrong_with_a_plan
set_option autoImplicit false
/-! Rounds of tables: the mathematics. -/
namespace Nf
abbrev Tbl := List Int
abbrev Rnd := List Tbl

/-! ### lists -/
theorem dropCons {α : Type} {l : List α} {i : Nat} {x : α} (h : l[i]? = some x) : l.drop i = x :: l.drop (i + 1) := by
  obtain ⟨hi, e⟩ := List.getElem?_eq_some_iff.mp h
  rw [List.drop_eq_getElem_cons hi, e]
theorem takeSucc {α : Type} {l : List α} {i : Nat} {x : α} (h : l[i]? = some x) : l.take (i + 1) = l.take i ++ [x] := by
  rw [List.take_add_one, h]
  rfl

/-! ### pairs -/
def pairsT : Tbl → List (Int × Int)
  | [] => []
  | a :: t => t.map (fun b => (a, b)) ++ pairsT t
def pairsR (r : Rnd) : List (Int × Int) := r.flatMap pairsT
theorem pairsT_len : ∀ t : Tbl, (pairsT t).length ≤ t.length * t.length
  | [] => Nat.le_refl _
  | a :: t => by
    have := pairsT_len t
    simp only [pairsT, List.length_append, List.length_map, List.length_cons]
    have e : (t.length + 1) * (t.length + 1) = t.length * t.length + 2 * t.length + 1 := by
      simp only [Nat.add_mul, Nat.mul_add]
      omega
    omega
theorem mem_pairsT : ∀ {t : Tbl} {p : Int × Int}, p ∈ pairsT t → p.1 ∈ t ∧ p.2 ∈ t
  | [], _, h => by simp [pairsT] at h
  | a :: t, p, h => by
    simp only [pairsT, List.mem_append, List.mem_map] at h
    rcases h with ⟨b, hb, rfl⟩ | h
    · exact ⟨by simp, by simp [hb]⟩
    · exact ⟨List.mem_cons_of_mem _ (mem_pairsT h).1, List.mem_cons_of_mem _ (mem_pairsT h).2⟩

/-! ### order of tables, of pairs -/
def leI (a b : Int) : Bool := decide (a ≤ b)
def leT (a b : Tbl) : Bool := decide (a ≤ b)
theorem leI_trans (a b c : Int) (h : leI a b = true) (h' : leI b c = true) : leI a c = true := by
  simp only [leI, decide_eq_true_eq] at *
  omega
theorem leI_total (a b : Int) : (leI a b || leI b a) = true := by
  simp only [leI, Bool.or_eq_true, decide_eq_true_eq]
  omega
theorem leT_trans (a b c : Tbl) (h : leT a b = true) (h' : leT b c = true) : leT a c = true := by
  simp only [leT, decide_eq_true_eq] at *
  exact List.le_trans h h'
theorem leT_total (a b : Tbl) : (leT a b || leT b a) = true := by
  simp only [leT, Bool.or_eq_true, decide_eq_true_eq]
  exact List.le_total a b
def sortI (t : Tbl) : Tbl := t.mergeSort leI
def sortT (r : Rnd) : Rnd := r.mergeSort leT
theorem sortI_perm (t : Tbl) : (sortI t).Perm t := List.mergeSort_perm _ _
theorem sortT_perm (r : Rnd) : (sortT r).Perm r := List.mergeSort_perm _ _
theorem sortI_up (t : Tbl) : (sortI t).Pairwise (· ≤ ·) := (List.pairwise_mergeSort leI_trans leI_total t).imp fun h => of_decide_eq_true h
theorem sortT_up (r : Rnd) : (sortT r).Pairwise (· ≤ ·) := (List.pairwise_mergeSort leT_trans leT_total r).imp fun h => of_decide_eq_true h
theorem sortI_iff (t : Tbl) : t = sortI t ↔ t.Pairwise (· ≤ ·) := by
  constructor
  · intro h
    rw [h]
    exact sortI_up t
  · intro h
    exact (List.mergeSort_of_pairwise (h.imp fun q => decide_eq_true q)).symm
theorem sortT_iff (r : Rnd) : r = sortT r ↔ r.Pairwise (· ≤ ·) := by
  constructor
  · intro h
    rw [h]
    exact sortT_up r
  · intro h
    exact (List.mergeSort_of_pairwise (h.imp fun q => decide_eq_true q)).symm

/-! ### rounds -/
structure IsRound (g s : Int) (r : Rnd) : Prop where
  sz : ∀ t ∈ r, 1 ≤ t.length ∧ (t.length : Int) ≤ s
  up : ∀ t ∈ r, t.Pairwise (· ≤ ·)
  lo : ∀ x ∈ r.flatten, 0 ≤ x ∧ x < g
  nd : r.flatten.Nodup
  ct : (r.length : Int) ≤ g / s
  ord : r.Pairwise (· ≤ ·)

def rises (t : Tbl) : Bool := (t.zip (t.drop 1)).all fun p => decide (p.1 < p.2)
theorem rises_iff : ∀ t : Tbl, rises t = true ↔ t.Pairwise (· < ·)
  | [] => by simp [rises]
  | [a] => by simp [rises]
  | a :: b :: t => by
    have ih := rises_iff (b :: t)
    have e : rises (a :: b :: t) = (decide (a < b) && rises (b :: t)) := by
      simp [rises]
    rw [e, Bool.and_eq_true, ih, decide_eq_true_eq, List.pairwise_cons (a := a)]
    constructor
    · rintro ⟨h, q⟩
      refine ⟨fun x hx => ?_, q⟩
      rcases List.mem_cons.mp hx with rfl | hx
      · exact h
      · have := (List.pairwise_cons.mp q).1 x hx
        omega
    · rintro ⟨h, q⟩
      exact ⟨h b (by simp), q⟩

theorem up_strict {t : Tbl} (h : t.Pairwise (· ≤ ·)) (n : t.Nodup) : t.Pairwise (· < ·) :=
  List.Pairwise.imp₂ (fun a b (h1 : a ≤ b) (h2 : a ≠ b) => by omega) h n
theorem strict_up {t : Tbl} (h : t.Pairwise (· < ·)) : t.Pairwise (· ≤ ·) := h.imp fun q => by omega

/-- the program's own test of a table -/
structure IsTable (g s : Int) (t : Tbl) : Prop where
  sz : 1 ≤ t.length ∧ (t.length : Int) ≤ s
  up : t.Pairwise (· < ·)
  lo : 0 ≤ t.headD 0
  hi : t.getLastD 0 < g
theorem last_top : ∀ {t : Tbl}, t.Pairwise (· ≤ ·) → ∀ x ∈ t, x ≤ t.getLastD 0
  | [], _, x, h => by simp at h
  | [a], _, x, h => by
    have e : x = a := by simpa using h
    subst e
    simp
  | a :: b :: t, h, x, hx => by
    have ih := last_top (t := b :: t) (List.pairwise_cons.mp h).2
    have e : (a :: b :: t).getLastD 0 = (b :: t).getLastD 0 := by simp [List.getLastD]
    rw [e]
    rcases List.mem_cons.mp hx with rfl | hx
    · have h1 := (List.pairwise_cons.mp h).1 b (by simp)
      have h2 := ih b (by simp)
      omega
    · exact ih x hx
theorem head_low : ∀ {t : Tbl}, t.Pairwise (· ≤ ·) → ∀ x ∈ t, t.headD 0 ≤ x
  | [], _, x, h => by simp at h
  | a :: t, h, x, hx => by
    show a ≤ x
    rcases List.mem_cons.mp hx with rfl | hx
    · exact Int.le_refl _
    · exact (List.pairwise_cons.mp h).1 x hx
theorem head_mem : ∀ {t : Tbl}, 1 ≤ t.length → t.headD 0 ∈ t
  | [], h => by simp at h
  | a :: t, _ => by simp
theorem last_mem : ∀ {t : Tbl}, 1 ≤ t.length → t.getLastD 0 ∈ t
  | [], h => by simp at h
  | [a], _ => by simp
  | a :: b :: t, _ => by
    have := last_mem (t := b :: t) (by simp)
    have e : (a :: b :: t).getLastD 0 = (b :: t).getLastD 0 := by simp [List.getLastD]
    rw [e]
    exact List.mem_cons_of_mem _ this
theorem IsTable.range {g s : Int} {t : Tbl} (h : IsTable g s t) : ∀ x ∈ t, 0 ≤ x ∧ x < g := fun x hx =>
  ⟨Int.le_trans h.lo (head_low (strict_up h.up) x hx), Int.lt_of_le_of_lt (last_top (strict_up h.up) x hx) h.hi⟩

theorem le_of_head {a b : Tbl} (ha : 1 ≤ a.length) (hb : 1 ≤ b.length) (h : a.headD 0 < b.headD 0) : a ≤ b := by
  cases a with
  | nil => simp at ha
  | cons x a =>
    cases b with
    | nil => simp at hb
    | cons y b => exact List.cons_le_cons_iff.mpr (.inl h)
theorem head_of_le {a b : Tbl} (ha : 1 ≤ a.length) (hb : 1 ≤ b.length) (h : a ≤ b) (d : ∀ x ∈ a, x ∉ b) : a.headD 0 < b.headD 0 := by
  cases a with
  | nil => simp at ha
  | cons x a =>
    cases b with
    | nil => simp at hb
    | cons y b =>
      rcases List.cons_le_cons_iff.mp h with h | ⟨rfl, _⟩
      · exact h
      · exact absurd List.mem_cons_self (d x List.mem_cons_self)

theorem flat_disjoint {r : Rnd} (h : r.flatten.Nodup) : r.Pairwise (fun a b => ∀ x ∈ a, x ∉ b) :=
  (List.pairwise_flatten.mp h).2.imp fun q x hx hy => q x hx x hy rfl
theorem flat_each {r : Rnd} (h : r.flatten.Nodup) : ∀ t ∈ r, t.Nodup := (List.pairwise_flatten.mp h).1

theorem pw_mem {α : Type} {R S : α → α → Prop} {l : List α} (h : l.Pairwise R) (q : ∀ a ∈ l, ∀ b ∈ l, R a b → S a b) : l.Pairwise S := by
  induction l with
  | nil => exact .nil
  | cons x l ih =>
    obtain ⟨h1, h2⟩ := List.pairwise_cons.mp h
    exact List.pairwise_cons.mpr ⟨fun y hy => q x (by simp) y (by simp [hy]) (h1 y hy), ih h2 fun a ha b hb => q a (by simp [ha]) b (by simp [hb])⟩

/-- the program's own test of a round -/
theorem isRound_iff {g s : Int} {r : Rnd} : IsRound g s r ↔ ((r.length : Int) ≤ g / s ∧ (∀ t ∈ r, IsTable g s t) ∧ r.flatten.Nodup ∧ (r.map (·.headD 0)).Pairwise (· < ·)) := by
  constructor
  · intro h
    refine ⟨h.ct, fun t ht => ?_, h.nd, ?_⟩
    · have l1 := h.sz t ht
      have m : ∀ x ∈ t, x ∈ r.flatten := fun x hx => List.mem_flatten.mpr ⟨t, ht, hx⟩
      exact ⟨l1, up_strict (h.up t ht) (flat_each h.nd t ht), (h.lo _ (m _ (head_mem l1.1))).1, (h.lo _ (m _ (last_mem l1.1))).2⟩
    · rw [List.pairwise_map]
      exact pw_mem (List.Pairwise.imp₂ (fun a b (p : a ≤ b) (q : ∀ x ∈ a, x ∉ b) => And.intro p q) h.ord (flat_disjoint h.nd)) fun a ha b hb q =>
        head_of_le (h.sz a ha).1 (h.sz b hb).1 q.1 q.2
  · rintro ⟨h1, h2, h3, h4⟩
    refine ⟨fun t ht => (h2 t ht).sz, fun t ht => strict_up (h2 t ht).up, fun x hx => ?_, h3, h1, ?_⟩
    · obtain ⟨t, ht, hxt⟩ := List.mem_flatten.mp hx
      exact (h2 t ht).range x hxt
    · rw [List.pairwise_map] at h4
      exact pw_mem h4 fun a ha b hb q => le_of_head (h2 a ha).sz.1 (h2 b hb).sz.1 q

theorem sum_le {r : Rnd} {s : Int} (h : ∀ t ∈ r, (t.length : Int) ≤ s) : (r.flatten.length : Int) ≤ r.length * s := by
  induction r with
  | nil => simp
  | cons t r ih =>
    have h1 := h t (by simp)
    have h2 := ih fun t ht => h t (by simp [ht])
    simp only [List.flatten_cons, List.length_append, List.length_cons]
    have e : ((r.length + 1 : Nat) : Int) * s = (r.length : Int) * s + s := by
      rw [Int.natCast_add, Int.add_mul]
      simp
    rw [e]
    omega

/-! ### what is wrong with a plan -/
inductive Verd where
  | good
  | rnd (k : Nat)
  | twice (a b : Int) (j k : Nat)
abbrev Known := Int → Int → Option Nat
open Classical in
noncomputable def kadd (kn : Known) (r : Rnd) (k : Nat) : Known := fun a b => if (a, b) ∈ pairsR r then some k else kn a b
def k0 : Known := fun _ _ => none
inductive IsV (g s : Int) : List Rnd → Known → Nat → Verd → Prop where
  | nil {kn : Known} {k : Nat} : IsV g s [] kn k .good
  | bad {r : Rnd} {rs : List Rnd} {kn : Known} {k : Nat} : ¬ IsRound g s r → IsV g s (r :: rs) kn k (.rnd k)
  | twice {r : Rnd} {rs : List Rnd} {kn : Known} {k j : Nat} {a b : Int} : IsRound g s r → (a, b) ∈ pairsR r → kn a b = some j →
      (∀ c d, (c, d) ∈ pairsR r → kn c d ≠ none → a < c ∨ (a = c ∧ b ≤ d)) → IsV g s (r :: rs) kn k (.twice a b j k)
  | next {r : Rnd} {rs : List Rnd} {kn : Known} {k : Nat} {v : Verd} : IsRound g s r → (∀ c d, (c, d) ∈ pairsR r → kn c d = none) →
      IsV g s rs (kadd kn r k) (k + 1) v → IsV g s (r :: rs) kn k v
theorem IsV.unique {g s : Int} : ∀ {rs : List Rnd} {kn : Known} {k : Nat} {v v' : Verd}, IsV g s rs kn k v → IsV g s rs kn k v' → v = v'
  | _, _, _, _, _, .nil, .nil => rfl
  | _, _, _, _, _, .bad _, .bad _ => rfl
  | _, _, _, _, _, .bad h, .twice h' _ _ _ => absurd h' h
  | _, _, _, _, _, .bad h, .next h' _ _ => absurd h' h
  | _, _, _, _, _, .twice h' _ _ _, .bad h => absurd h' h
  | _, _, _, _, _, .next h' _ _, .bad h => absurd h' h
  | _, _, _, _, _, .twice (a := a) (b := b) _ m e l, .twice (a := a') (b := b') _ m' e' l' => by
    have q := l _ _ m' (by rw [e']; exact Option.some_ne_none _)
    have q' := l' _ _ m (by rw [e]; exact Option.some_ne_none _)
    have ea : a = a' := by omega
    subst ea
    have eb : b = b' := by omega
    subst eb
    rw [e] at e'
    cases e'
    rfl
  | _, _, _, _, _, .twice _ m e _, .next _ n _ => by
    rw [n _ _ m] at e
    cases e
  | _, _, _, _, _, .next _ n _, .twice _ m e _ => by
    rw [n _ _ m] at e
    cases e
  | _, _, _, _, _, .next _ _ q, .next _ _ q' => q.unique q'

/-- no two sit together twice -/
structure GoodP (g s : Int) (plan : List Rnd) : Prop where
  rd : ∀ r ∈ plan, IsRound g s r
  np : plan.Pairwise (fun r r' => ∀ p ∈ pairsR r, p ∉ pairsR r')
theorem GoodP.nil {g s : Int} : GoodP g s [] := ⟨fun _ h => by simp at h, .nil⟩
theorem GoodP.snoc {g s : Int} {plan : List Rnd} {r : Rnd} (h : GoodP g s plan) (hr : IsRound g s r) (hn : ∀ p ∈ pairsR r, ∀ q ∈ plan, p ∉ pairsR q) : GoodP g s (plan ++ [r]) := by
  refine ⟨fun q hq => ?_, ?_⟩
  · rcases List.mem_append.mp hq with hq | hq
    · exact h.rd q hq
    · rw [List.mem_singleton.mp hq]
      exact hr
  · refine List.pairwise_append.mpr ⟨h.np, by simp, fun a ha b hb p hp hq => ?_⟩
    rw [List.mem_singleton.mp hb] at hq
    exact hn p hq a ha hp
theorem GoodP.isV {g s : Int} : ∀ {plan : List Rnd} {kn : Known} {k : Nat}, GoodP g s plan → (∀ r ∈ plan, ∀ p ∈ pairsR r, kn p.1 p.2 = none) → IsV g s plan kn k .good
  | [], _, _, _, _ => .nil
  | r :: rs, kn, k, h, e => by
    obtain ⟨h1, h2⟩ := List.pairwise_cons.mp h.np
    refine .next (h.rd r (by simp)) (fun c d m => e r (by simp) (c, d) m) (GoodP.isV ⟨fun q hq => h.rd q (by simp [hq]), h2⟩ fun q hq p hp => ?_)
    unfold kadd
    rw [if_neg fun z => h1 q hq _ z hp]
    exact e q (by simp [hq]) p hp

/-! ### rounds that are drawn -/
theorem chunk_flat (l : List Int) (s : Nat) : ∀ n : Nat, ((List.range n).map fun i => (l.drop (i * s)).take s).flatten = l.take (n * s)
  | 0 => by simp
  | n + 1 => by
    rw [List.range_succ, List.map_append, List.flatten_append, chunk_flat l s n]
    simp only [List.map_cons, List.map_nil, List.flatten_cons, List.flatten_nil, List.append_nil]
    rw [Nat.add_mul, Nat.one_mul, List.take_add]
theorem map_perm_flat {α : Type} (f g : α → List Int) : ∀ l : List α, (∀ x ∈ l, (f x).Perm (g x)) → ((l.map f).flatten).Perm ((l.map g).flatten)
  | [], _ => .refl _
  | x :: l, h => by
    simp only [List.map_cons, List.flatten_cons]
    exact (h x (by simp)).append (map_perm_flat f g l fun y hy => h y (by simp [hy]))
def rangeI (g : Nat) : List Int := (List.range g).map fun i : Nat => (i : Int)
theorem mem_rangeI {g : Nat} {x : Int} : x ∈ rangeI g ↔ 0 ≤ x ∧ x < g := by
  unfold rangeI
  constructor
  · intro h
    obtain ⟨i, hi, rfl⟩ := List.mem_map.mp h
    have := List.mem_range.mp hi
    omega
  · rintro ⟨h1, h2⟩
    exact List.mem_map.mpr ⟨x.toNat, List.mem_range.mpr (by omega), by omega⟩
theorem rangeI_nodup (g : Nat) : (rangeI g).Nodup := by
  unfold rangeI
  unfold List.Nodup
  rw [List.pairwise_map]
  exact (List.nodup_range (n := g)).imp fun h e => h (by omega)
theorem rangeI_len (g : Nat) : (rangeI g).length = g := by simp [rangeI]

/-- a round by its facts, its tables sorted -/
theorem isRound_sort {g s : Int} {r : Rnd} (sz : ∀ t ∈ r, 1 ≤ t.length ∧ (t.length : Int) ≤ s) (up : ∀ t ∈ r, t.Pairwise (· ≤ ·)) (lo : ∀ x ∈ r.flatten, 0 ≤ x ∧ x < g) (nd : r.flatten.Nodup) (ct : (r.length : Int) ≤ g / s) : IsRound g s (sortT r) := by
  have p := sortT_perm r
  refine ⟨fun t ht => sz t (p.mem_iff.mp ht), fun t ht => up t (p.mem_iff.mp ht), fun x hx => lo x (p.flatten.mem_iff.mp hx), p.flatten.nodup_iff.mpr nd, ?_, sortT_up r⟩
  rw [p.length_eq]
  exact ct

/-- seated: chunks, each sorted, the tables sorted -/
def seatedM (l : List Int) (s n : Nat) : Rnd := sortT ((List.range n).map fun i => sortI ((l.drop (i * s)).take s))
theorem seated_len (l : List Int) (s n : Nat) : (seatedM l s n).length = n := by
  unfold seatedM
  rw [(sortT_perm _).length_eq]
  simp
theorem seated_flat {l : List Int} {s n : Nat} (hl : l.length = n * s) : (seatedM l s n).flatten.Perm l := by
  refine ((sortT_perm _).flatten).trans ((map_perm_flat _ (fun i => (l.drop (i * s)).take s) _ fun i _ => sortI_perm _).trans ?_)
  rw [chunk_flat, List.take_of_length_le (by omega)]
theorem seated_each {l : List Int} {s n : Nat} (hl : l.length = n * s) : ∀ t ∈ seatedM l s n, t.length = s ∧ t.Pairwise (· ≤ ·) := fun t ht => by
  obtain ⟨i, hi, rfl⟩ := List.mem_map.mp ((sortT_perm _).mem_iff.mp ht)
  refine ⟨?_, sortI_up _⟩
  have hi := List.mem_range.mp hi
  rw [(sortI_perm _).length_eq, List.length_take, List.length_drop, hl]
  have e : (i + 1) * s ≤ n * s := Nat.mul_le_mul_right s hi
  rw [Nat.add_mul, Nat.one_mul] at e
  omega
theorem seated_round {l : List Int} {s n : Nat} (hp : l.Perm (rangeI (n * s))) (hs : 1 ≤ s) : IsRound ((n * s : Nat) : Int) s (seatedM l s n) := by
  have hl : l.length = n * s := by rw [hp.length_eq, rangeI_len]
  have fl := (seated_flat (s := s) hl).trans hp
  refine ⟨fun t ht => ?_, fun t ht => (seated_each hl t ht).2, fun x hx => ?_, fl.nodup_iff.mpr (rangeI_nodup _), ?_, sortT_up _⟩
  · rw [(seated_each hl t ht).1]
    exact ⟨hs, Int.le_refl _⟩
  · exact mem_rangeI.mp (fl.mem_iff.mp hx)
  · rw [seated_len]
    have : ((n * s : Nat) : Int) / (s : Int) = n := by
      rw [Int.natCast_mul]
      exact Int.mul_ediv_cancel _ (by omega)
    omega

/-- some of a round's guests are away -/
structure Thin (r f : Rnd) (i : Nat) : Prop where
  fl : f.flatten.Sublist (r.take i).flatten
  ct : f.length ≤ i
  each : ∀ t ∈ f, t ≠ [] ∧ ∃ u ∈ r, t.Sublist u
theorem Thin.zero (r : Rnd) : Thin r [] 0 := ⟨by simp, Nat.le_refl _, fun _ h => by simp at h⟩
theorem Thin.skip {r f : Rnd} {i : Nat} (h : Thin r f i) : Thin r f (i + 1) := by
  refine ⟨h.fl.trans ?_, Nat.le_succ_of_le h.ct, h.each⟩
  rw [List.take_add, List.flatten_append]
  exact List.sublist_append_left _ _
theorem Thin.add {r f : Rnd} {i : Nat} {t u : Tbl} (h : Thin r f i) (hu : r[i]? = some u) (ht : t.Sublist u) (hn : t ≠ []) : Thin r (f ++ [t]) (i + 1) := by
  refine ⟨?_, ?_, fun x hx => ?_⟩
  · rw [takeSucc hu, List.flatten_append, List.flatten_append]
    exact h.fl.append (by simpa using ht)
  · rw [List.length_append]
    exact Nat.succ_le_succ h.ct
  · rcases List.mem_append.mp hx with hx | hx
    · exact h.each x hx
    · rw [List.mem_singleton.mp hx]
      exact ⟨hn, u, List.mem_of_getElem? hu, ht⟩
theorem Thin.round {g s : Int} {r f : Rnd} (h : Thin r f r.length) (hr : IsRound g s r) : IsRound g s (sortT f) := by
  have fl : f.flatten.Sublist r.flatten := by
    have := h.fl
    rwa [List.take_of_length_le (Nat.le_refl _)] at this
  refine isRound_sort (fun t ht => ?_) (fun t ht => ?_) (fun x hx => hr.lo x (fl.subset hx)) (hr.nd.sublist fl) ?_
  · obtain ⟨hn, u, hu, hs⟩ := h.each t ht
    refine ⟨List.length_pos_iff.mpr hn, ?_⟩
    have := hs.length_le
    have := (hr.sz u hu).2
    omega
  · obtain ⟨hn, u, hu, hs⟩ := h.each t ht
    exact (hr.up u hu).sublist hs
  · have := h.ct
    have := hr.ct
    omega
end Nf
namespace Nf
/-! ### pairs in order -/
def leP (p q : Int × Int) : Bool := decide (p.1 < q.1 ∨ (p.1 = q.1 ∧ p.2 ≤ q.2))
def sortP (ps : List (Int × Int)) : List (Int × Int) := ps.mergeSort leP
theorem leP_trans (a b c : Int × Int) (h : leP a b = true) (h' : leP b c = true) : leP a c = true := by
  simp only [leP, decide_eq_true_eq] at *
  omega
theorem leP_total (a b : Int × Int) : (leP a b || leP b a) = true := by
  simp only [leP, Bool.or_eq_true, decide_eq_true_eq]
  omega
theorem sortP_perm (ps : List (Int × Int)) : (sortP ps).Perm ps := List.mergeSort_perm _ _
theorem sortP_up (ps : List (Int × Int)) : (sortP ps).Pairwise (fun p q => p.1 < q.1 ∨ (p.1 = q.1 ∧ p.2 ≤ q.2)) := (List.pairwise_mergeSort leP_trans leP_total ps).imp fun h => of_decide_eq_true h
theorem pairsT_drop {t : Tbl} {j : Nat} {a : Int} (h : t[j]? = some a) : pairsT (t.drop j) = (t.drop (j + 1)).map (fun b => (a, b)) ++ pairsT (t.drop (j + 1)) := by
  rw [dropCons h]
  rfl
theorem pairsR_drop {r : Rnd} {i : Nat} {t : Tbl} (h : r[i]? = some t) : pairsR (r.drop i) = pairsT t ++ pairsR (r.drop (i + 1)) := by
  rw [dropCons h]
  rfl
end Nf
namespace Nf
theorem pairsR_len : ∀ r : Rnd, (pairsR r).length ≤ r.flatten.length * r.flatten.length
  | [] => Nat.le_refl _
  | t :: r => by
    have h1 := pairsR_len r
    have h2 := pairsT_len t
    show (pairsT t ++ pairsR r).length ≤ _
    rw [List.length_append, List.flatten_cons, List.length_append, Nat.add_mul, Nat.mul_add, Nat.mul_add]
    omega
theorem IsRound.flat64 {g s : Int} {r : Rnd} (h : IsRound g s r) (hs : 0 < s) : (r.flatten.length : Int) ≤ g := by
  have e1 := sum_le (fun t ht => (h.sz t ht).2)
  have e2 : (r.length : Int) * s ≤ g / s * s := Int.mul_le_mul_of_nonneg_right h.ct (by omega)
  have e3 : g / s * s ≤ g := Int.ediv_mul_le g (by omega)
  omega
theorem IsRound.pairs_le {g s : Int} {r : Rnd} (h : IsRound g s r) (hs : 0 < s) (hg : g ≤ 64) : (pairsR r).length ≤ 4096 := by
  have h1 := pairsR_len r
  have h2 : r.flatten.length ≤ 64 := by
    have := h.flat64 hs
    omega
  have h3 : r.flatten.length * r.flatten.length ≤ 64 * 64 := Nat.mul_le_mul h2 h2
  omega
open Classical in
noncomputable def kaddL (kn : Known) (l : List (Int × Int)) (k : Nat) : Known := fun a b => if (a, b) ∈ l then some k else kn a b
theorem kaddL_nil (kn : Known) (k : Nat) : kaddL kn [] k = kn := by
  funext a b
  simp [kaddL]
theorem kaddL_snoc (kn : Known) (l : List (Int × Int)) (k : Nat) (x y a b : Int) : kaddL kn (l ++ [(x, y)]) k a b = if a = x ∧ b = y then some k else kaddL kn l k a b := by
  unfold kaddL
  by_cases h : a = x ∧ b = y
  · obtain ⟨rfl, rfl⟩ := h
    simp
  · have e : ((a, b) ∈ l ++ [(x, y)]) ↔ (a, b) ∈ l := by
      simp only [List.mem_append, List.mem_singleton, Prod.mk.injEq]
      constructor
      · rintro (z | z)
        · exact z
        · exact absurd z h
      · exact fun z => .inl z
    rw [if_neg h]
    by_cases hm : (a, b) ∈ l
    · rw [if_pos hm, if_pos (e.mpr hm)]
    · rw [if_neg hm, if_neg (fun z => hm (e.mp z))]
theorem kaddL_perm {kn : Known} {l : List (Int × Int)} {r : Rnd} {k : Nat} (h : l.Perm (pairsR r)) : kaddL kn l k = kadd kn r k := by
  funext a b
  unfold kaddL kadd
  by_cases hm : (a, b) ∈ pairsR r
  · rw [if_pos hm, if_pos (h.mem_iff.mpr hm)]
  · rw [if_neg hm, if_neg (fun z => hm (h.mem_iff.mp z))]
theorem sorted_first {r : Rnd} {m : Nat} {a b : Int} (h : (sortP (pairsR r))[m]? = some (a, b)) {kn : Known} (hn : ∀ p ∈ (sortP (pairsR r)).take m, kn p.1 p.2 = none) :
    ∀ c d, (c, d) ∈ pairsR r → kn c d ≠ none → a < c ∨ (a = c ∧ b ≤ d) := fun c d hm hk => by
  have hm' := (sortP_perm (pairsR r)).mem_iff.mpr hm
  obtain ⟨m', hm''⟩ := List.mem_iff_getElem?.mp hm'
  obtain ⟨l1, e1⟩ := List.getElem?_eq_some_iff.mp h
  obtain ⟨l2, e2⟩ := List.getElem?_eq_some_iff.mp hm''
  rcases Nat.lt_trichotomy m' m with z | z | z
  · refine absurd (hn (c, d) ?_) hk
    rw [List.mem_iff_getElem?]
    exact ⟨m', by rw [List.getElem?_take, if_pos z]; exact hm''⟩
  · subst z
    rw [h] at hm''
    cases hm''
    omega
  · have := List.pairwise_iff_getElem.mp (sortP_up (pairsR r)) m m' l1 l2 z
    rw [e1, e2] at this
    exact this
end Nf

set_option Elab.async false
set_option linter.all false
set_option maxRecDepth 100000
set_option maxHeartbeats 4000000
/-! Rules beside the hand layer's: len(set(ints)), sorted of a list or tuple of data, extend by a tuple, enumerate of a tuple. -/
namespace Nf
open PySem PySem.Spec PyProof.Rows L2

/-! ### len(set(xs)) of any whole numbers -/
def metN (ns : List Int) : Nat := (PyProof.Rows.firstMet (fun i => ns.getD i 0) ns.length).length
theorem firstMet_mem (f : Nat → Int) : ∀ (i j : Nat), j < i → f j ∈ PyProof.Rows.firstMet f i
  | 0, _, h => absurd h (Nat.not_lt_zero _)
  | i + 1, j, h => by
    rw [PyProof.Rows.firstMet_succ]
    unfold PyProof.Rows.step_dedup
    rcases Nat.lt_succ_iff_lt_or_eq.mp h with h | h
    · have := firstMet_mem f i j h
      split
      · exact this
      · exact List.mem_append_left _ this
    · subst h
      split
      · rename_i hb
        obtain ⟨y, hy, e⟩ := List.any_eq_true.mp hb
        rw [← eq_of_beq e]
        exact hy
      · simp
theorem metN_le (ns : List Int) : metN ns ≤ ns.length := PyProof.Rows.firstMet_length_le _ _
theorem firstMet_full (f : Nat → Int) : ∀ (i : Nat), (PyProof.Rows.firstMet f i).length = i → ∀ j k, j < k → k < i → f j ≠ f k
  | 0, _, _, _, _, h => absurd h (Nat.not_lt_zero _)
  | i + 1, e, j, k, hjk, hk => by
    rw [PyProof.Rows.firstMet_succ] at e
    unfold PyProof.Rows.step_dedup at e
    have hl := PyProof.Rows.firstMet_length_le f i
    split at e
    · omega
    · rename_i hb
      have e' : (PyProof.Rows.firstMet f i).length = i := by
        rw [List.length_append, List.length_singleton] at e
        omega
      rcases Nat.lt_succ_iff_lt_or_eq.mp hk with hk | hk
      · exact firstMet_full f i e' j k hjk hk
      · subst hk
        intro q
        apply hb
        refine List.any_eq_true.mpr ⟨f j, firstMet_mem f k j hjk, ?_⟩
        rw [q]
        exact beq_self_eq_true _
theorem metN_iff (ns : List Int) : metN ns = ns.length ↔ ns.Nodup := by
  constructor
  · intro h
    refine List.pairwise_iff_getElem.mpr fun i j hi hj hij e => ?_
    refine firstMet_full _ _ h i j hij hj ?_
    show ns.getD i 0 = ns.getD j 0
    rw [List.getD_eq_getElem?_getD, List.getD_eq_getElem?_getD, List.getElem?_eq_getElem hi, List.getElem?_eq_getElem hj]
    exact e
  · intro h
    unfold metN
    rw [RZ.firstMet_nodup h ns.length (Nat.le_refl _), List.take_length]
def tLenSet (K : PySem.W.Frag) (ta : TE) : TE := fun σ H Q => ta σ H fun x H1 => ∃ (l : Addr) (ns : List Int), x = .ref l ∧ SqL K H1 l (ns.map V.int) ∧ ns.length ≤ 4000 ∧ Q (.int (metN ns : Nat)) H1
theorem pe_lenSet {X : Cx} {a : Expr} {ta : TE} {p p2 q pos : Pos} (hg : Gl X "len") (hm : X.mg "len" = none) (hg2 : Gl X "set") (hm2 : X.mg "set" = none) (ha : PE X a ta) (hc : X.calm = true := by rfl)
    (na : starEach [a] X.env = (false, eval a X.env) :: starEach [] X.env := by rfl) : PE X (.Call (.Name "len" p) [.Call (.Name "set" p2) [a] [] q] [] pos) (tLenSet X.K ta) := by
  refine ⟨fun pins s σ H Q I h => ?_⟩
  refine Call_ (ld_blt I hg hm boot_len ?_)
  refine PyProof.Rows.callWith_builtin1 (PyProof.Rows.args_cons ?_ rfl) rfl rfl
  refine Call_ (ld_blt I hg2 hm2 boot_set ?_)
  refine PyProof.Rows.callWith_type1 (PyProof.Rows.args_cons (thn (ha.run pins s σ H _ I h) fun v s1 ⟨x, H1, I1, r1, q1⟩ => PyProof.Rows.args_nil ?_) na) na rfl
  obtain ⟨l, ns, rfl, hq, hl, q1⟩ := q1
  cases r1
  obtain ⟨its, r, pl, hz⟩ := I1.list hq
  have hlen : its.toArray.size = ns.length := by rw [List.size_toArray, ← r.length, List.length_map]
  have hle := metN_le ns
  refine call_set_list (I1.ok.hd hc) pl.isList (by simpa using RZ.intsAre_vals r) (by rw [hlen]; unfold scanBound; omega) fun h' tk hS hk => ?_
  refine PyProof.Rows.args_nil ?_
  rw [hlen] at hS
  obtain ⟨o, es, ep, t, ho, hex, hd, _, _, _, hf, hn⟩ := hS
  have I2 : Inv X pins σ H1 { s1 with heap := h', toks := tk } := I1.kept fun b o e => hk b o (Heap.lt_size e) e
  have hn' : es.size = metN ns := hn
  exact call_len_set ho hex hd hf (by rw [hn'] <;> omega) ⟨.int (metN ns : Nat), H1, I2.tok _, ⟨_, by rw [hn']⟩, q1⟩
end Nf

set_option Elab.async false
set_option linter.all false
set_option maxRecDepth 100000
set_option maxHeartbeats 4000000
namespace Nf
open PySem PySem.Spec PyProof.Rows L2

section
variable {prog : Program} {w : World} {A : Around} {E : Value → Shared → Prop} {s : Shared}
theorem collect_tup {l : Addr} {vs : List Value} {Q : List Value → Shared → Prop} (hl : IsTup s.heap l vs.toArray)
    (h : Q vs { s with heap := (s.heap.push (seqObj "list" #[] 0)).update s.heap.objs.size (Obj.mapSeq (· ++ vs.toArray)) }) (hsz : vs.length ≤ sizeLine) :
    wpAny (model prog w) A (collect (.ref l)) Q E s := by
  obtain ⟨o, ho, hc, n, hd⟩ := id hl
  unfold collect
  refine wpAny_bind (wpAny_runValue (codeAny_builtin entry_proto_collect' ?_))
  show wpAny _ _ (do again (.builtin "list.__iadd__" ⟨[← newList [], .ref l], []⟩)) _ _ s
  refine wpAny_bind (wpAny_newList (wpAny_pure ⟨Code.quiet_builtin _ (by decide +kernel), codeAny_builtin entry_list_iadd' ?_⟩))
  show wpAny _ _ (Builtin.List.listExtendWith (.ref s.heap.objs.size) (.ref l) (.ref s.heap.objs.size)) _ _ { s with heap := s.heap.push (seqObj "list" #[] 0) }
  unfold Builtin.List.listExtendWith
  have ho' : (s.heap.push (seqObj "list" #[] 0)).get? l = some o := Heap.get?_push_of_some _ ho
  refine wpAny_bind (wpAny_typeOf (T := "tuple") ⟨o, ho', hc⟩ ?_)
  have ht : (Value.type "tuple" == Value.type "tuple") = true := by rfl
  rw [if_pos (by rw [ht]; simp)]
  refine wpAny_bind (listItems_at ho' hd ?_)
  refine wpAny_bind (listItems_at (xs := #[]) (n := 0) (Heap.get?_push_size _ rfl) rfl ?_)
  rw [if_neg (by simp)]
  refine wpAny_bind (listUpdate_at (xs := #[]) (n := 0) (Heap.get?_push_size _ rfl) rfl ?_ (Nat.zero_le _) (by show (#[] ++ vs.toArray).size ≤ sizeLine + 1; simp only [Array.size_append, List.size_toArray, List.length_nil]; omega))
  refine wpAny_pure ?_
  show wpAny (model prog w) A (do
      let o ← load s.heap.objs.size
      match o.data with
      | .seq xs _ => pure xs.toList
      | _ => unsupported "internal:collect") Q E { s with heap := (s.heap.push (seqObj "list" #[] 0)).update s.heap.objs.size (Obj.mapSeq (· ++ vs.toArray)) }
  refine wpAny_bind (wpAny_load (get?_update_seq (Heap.get?_push_size _ rfl) _) ?_)
  show wpAny _ _ (pure ((#[] : Array Value) ++ vs.toArray).toList) Q E _
  rw [show ((#[] : Array Value) ++ vs.toArray).toList = vs by simp]
  exact wpAny_pure h
open PySem.W in
theorem sorted_of_sortT {l : Addr} {vs : List Value} {kw : List (Str × Value)} {Q : Value → Shared → Prop} (hl : IsTup s.heap l vs.toArray) (hL : vs.length ≤ sizeLine) (ha1 : argsOk "sorted" ⟨[.ref l], kw⟩) (ha2 : ∀ x, argsOk "list.sort" ⟨[.ref x], kw⟩)
    (body : ∀ E' : Value → Shared → Prop, wpAny (model prog w) A.in1.in1 (Builtin.«list.sort» ⟨[.ref (s.heap.objs.size + 1)], kw⟩) (fun f s' => f = .done (.ret .none) ∧ Q (.ref (s.heap.objs.size + 1)) s') E' { s with heap := copyHeap s.heap vs }) :
    wpAny (model prog w) A (call (.builtin "sorted") [.ref l] kw) Q E s := by
  refine call_function_entry_kw kind_sorted plain_sorted entry_sorted ha1 ?_
  unfold Builtin.«sorted»
  refine wpAny_bind (m := checkCount "sorted" 1 1 _) (wpAny_pure ?_)
  refine wpAny_bind (collect_tup hl ?_ hL)
  refine wpAny_bind (wpAny_newList ?_ hL)
  have hsz : ((s.heap.push (seqObj "list" #[] 0)).update s.heap.objs.size (Obj.mapSeq (· ++ vs.toArray))).objs.size = s.heap.objs.size + 1 := by
    rw [Heap.size_update, size_push']
  show wpAny _ _ _ _ _ { s with heap := copyHeap s.heap vs }
  rw [hsz]
  refine wpAny_bind (wpAny_holding (wpAny_call_entry_kw slot_list_sort ⟨_, copyHeap_at s.heap vs, rfl⟩ entry_list_sort ?body (ha2 _)))
  case body =>
    show wpAny (model prog w) A.in1.in1 (Builtin.«list.sort» ⟨[.ref (s.heap.objs.size + 1)], kw⟩) _ _ _
    refine wpAny_mono (body _) (fun f s' hf => ?_) fun _ _ e => e
    obtain ⟨rfl, hq⟩ := hf
    exact ⟨_, rfl, wpAny_pure ⟨_, rfl, hq⟩⟩
open PySem.W in
/-- sorted of a tuple that reads as data -/
theorem sorted_dataT {β : Type} {R : Value → β → Prop} {enc : β → PyData} {vs : List Value} {bs : List β} {l : Addr} {Q : Value → Shared → Prop} (hl : IsTup s.heap l vs.toArray) (e : EachIs R vs bs) (er : EachIs (fun v b => ∃ as, Reads s.heap v (enc b) as) vs bs) (hal : AllAlike (bs.map enc)) (hk : Sortable (bs.map enc)) (hL : bs.length ≤ sizeLine)
    (hu : ∀ b, b ∈ bs → A.units + 2 + (enc b).depth < cLine) (h : ∀ out, out.length = bs.length → EachIs R out (bs.mergeSort (dataLe false enc)) → Q (.ref (s.heap.objs.size + 1)) { s with heap := sortedAll s.heap vs (List.toArray out) }) :
    wpAny (model prog w) A (call (.builtin "sorted") [.ref l]) Q E s := by
  have er' : EachIs (fun v b => ∃ as, Reads (sortingHeap (copyHeap s.heap vs) (s.heap.objs.size + 1) vs) v (enc b) as) vs bs := er.mono fun _ _ ⟨as, r⟩ => ⟨as, PyProof.Rows.Reads.keeps (fun _ _ => sorting_copy_old) r⟩
  have hLv : vs.length ≤ sizeLine := by
    rw [e.length]
    exact hL
  refine sorted_of_sortT hl hLv (args_sorted1 _) (fun _ => args_list_sort _) fun _ => list_sort_vals (s := { s with heap := copyHeap s.heap vs }) (copyHeap_at s.heap vs) (SortsAt.data (s := { s with heap := sortingHeap (copyHeap s.heap vs) (s.heap.objs.size + 1) vs }) (each_map (R := fun v d => ∃ as, Reads (sortingHeap (copyHeap s.heap vs) (s.heap.objs.size + 1) vs) v d as) enc er') hal hk (bound_map hu)) hLv ⟨rfl, ?_⟩
  exact h _ (by rw [sortVals_length false rfl]; exact e.length) (sortVals_data false e er' hal)
end

end Nf

set_option Elab.async false
set_option linter.all false
set_option maxRecDepth 100000
set_option maxHeartbeats 4000000
namespace Nf
open PySem PySem.Spec PyProof.Rows L2

/-! ### sorted of a list or a tuple that reads as data -/
theorem each_of_paired {β : Type} {R : V → β → Prop} : ∀ {xs : List V} {us : List Value} {bs : List β}, Vals xs us → Paired R xs bs → PySem.W.EachIs (fun u b => ∃ x, RelV x u ∧ R x b) us bs
  | _, _, _, .nil, .nil => .nil
  | _, _, _, .cons r t, .cons q p => .cons ⟨_, r, q⟩ (each_of_paired t p)
theorem paired_of_each {β : Type} {R : V → β → Prop} : ∀ {us : List Value} {bs : List β}, PySem.W.EachIs (fun u b => ∃ x, RelV x u ∧ R x b) us bs → ∃ xs, Vals xs us ∧ Paired R xs bs
  | _, _, .nil => ⟨[], .nil, .nil⟩
  | _, _, .cons ⟨x, r, q⟩ t => by
    obtain ⟨xs, h1, h2⟩ := paired_of_each t
    exact ⟨x :: xs, .cons r h1, .cons q h2⟩
def rSortD (K : PySem.W.Frag) {β : Type} (enc : β → PyData) : List V → Hp → VK → Prop := fun vs H Q => ∃ (a : Addr) (xs : List V) (bs : List β) (R : V → β → Prop), vs = [.ref a] ∧ (SqL K H a xs ∨ SqT K H a xs) ∧ Paired R xs bs ∧
  (∀ x b, R x b → Dp K H x (enc b)) ∧ PySem.W.AllAlike (bs.map enc) ∧ PySem.W.Sortable (bs.map enc) ∧ (∀ b ∈ bs, (enc b).depth ≤ 8) ∧
  ∀ ys p, Paired R ys (bs.mergeSort (PySem.W.dataLe false enc)) → H p = none → Q (.ref p) (upd H p (.lst ys))
theorem cr_sortD {X : Cx} {β : Type} (enc : β → PyData) (hu : X.A.units + 64 < cLine) : CallR X (.builtin "sorted") (rSortD X.K enc) := by
  intro pins s σ H vs us Q I r h
  obtain ⟨a, xs, bs, R, rfl, hs, hp, hd, hal, hk, hdp, q⟩ := h
  rw [Vals.ref1 r]
  have main : ∀ (its : List Value), Vals xs its → xs.length ≤ sizeLine → (s.heap.IsList a its.toArray ∨ IsTup s.heap a its.toArray) → wpAny (model X.prog X.w) X.A (call (.builtin "sorted") [.ref a]) (EP X pins σ Q) X.xe s := fun its rv hz hl => by
    have e := each_of_paired rv hp
    have er : PySem.W.EachIs (fun v b => ∃ as, Reads s.heap v (enc b) as) its bs := e.mono fun u b ⟨x, rx, rb⟩ => Dp.reads I (enc b) x u (hd x b rb) rx
    have hlb : bs.length = xs.length := by
      rw [← e.length, ← rv.length]
    have fin : ∀ out, out.length = bs.length → PySem.W.EachIs (fun u b => ∃ x, RelV x u ∧ R x b) out (bs.mergeSort (PySem.W.dataLe false enc)) → EP X pins σ Q (.ref (s.heap.objs.size + 1)) { s with heap := sortedAll s.heap its (List.toArray out) } := fun out hlo eo => by
      obtain ⟨ys, ry, py⟩ := paired_of_each eo
      obtain ⟨ep, he'⟩ := PyProof.Rows.sortedAll_at s.heap its out.toArray
      have hly := ry.length
      exact ⟨.ref _, upd H (s.heap.objs.size + 1) (.lst ys), I.laid (t' := s.toks) (fun _ _ => PyProof.Rows.sortedAll_old) (Nat.le_succ _) ⟨by omega, out, ep, ry, he'⟩, rfl, q _ _ py (I.hok.fresh (Nat.le_succ _))⟩
    rcases hl with hl | hl
    · exact PySem.W.sorted_data hl e er hal hk (by omega) (fun b hb => by have := hdp b hb; omega) fin
    · exact sorted_dataT hl e er hal hk (by omega) (fun b hb => by have := hdp b hb; omega) fin
  rcases hs with hs | hs
  · obtain ⟨its, rv, hl, hz⟩ := I.list hs
    exact main its rv hz (.inl hl.isList)
  · obtain ⟨its, rv, hl, hz⟩ := I.tuple hs
    exact main its rv hz (.inr hl)

/-! ### xs.extend(t), t a tuple -/
def rExtendT : V → List V → Hp → VK → Prop := fun x vs H Q => ∃ l b xs zs, x = .ref l ∧ vs = [.ref b] ∧ H l = some (.lst xs) ∧ H b = some (.tup zs) ∧ xs.length + zs.length ≤ sizeLine ∧ Q .non (upd H l (.lst (xs ++ zs)))
theorem mt_extendT {X : Cx} : MtM X "list.extend" rExtendT := by
  intro pins s σ H x vs v us Q I rx rv h
  obtain ⟨l, b, xs, zs, rfl, rfl, hH, hB, hz, q⟩ := h
  cases rx
  obtain ⟨u, rfl, ru⟩ := rv.one
  cases ru
  obtain ⟨z, its, n, r, hl, e⟩ := I.lstM hH
  obtain ⟨its2, r2, ht, hz2⟩ := I.tuple (SqT.of (K := X.K) hB)
  obtain ⟨o, ho, hc, n2, hd⟩ := id ht
  have hl2 := r2.length
  have hsz : its.toArray.size + its2.toArray.size ≤ sizeLine := by rw [List.size_toArray, List.size_toArray]; omega
  have hlong : ¬ (!its.toArray.isEmpty && Builtin.List.listTooLong (its.toArray.size + its2.toArray.size)) = true := by
    rw [notLongL hsz, Bool.and_false]
    exact Bool.false_ne_true
  refine wpAny_call_entry F.slot_list_extend ⟨_, e, rfl⟩ F.entry_list_extend ?_ (F.args_list_extend_2 _ _)
  unfold Builtin.«list.extend»
  show wpAny _ _ (Builtin.List.listExtendWith (.ref l) (.ref b) .none) _ _ s
  unfold Builtin.List.listExtendWith
  refine wpAny_bind (wpAny_typeOf (T := "tuple") ⟨o, ho, hc⟩ ?_)
  have ht : (Value.type "tuple" == Value.type "tuple") = true := by rfl
  rw [if_pos (by rw [ht]; simp)]
  refine wpAny_bind (listItems_at ho hd ?_)
  refine wpAny_bind (listItems_at e rfl ?_)
  rw [if_neg hlong]
  refine wpAny_bind (listUpdate_at e rfl ?_ (by rw [List.size_toArray]; omega) (by rw [Array.size_append]; omega))
  refine wpAny_pure ⟨_, rfl, ?_⟩
  refine ⟨.non, _, I.lset (its' := its ++ its2) hH e (by simp) (r.append r2) ?_, rfl, q⟩
  rw [List.length_append]
  omega
end Nf

set_option Elab.async false
set_option linter.all false
set_option maxRecDepth 100000
set_option maxHeartbeats 4000000
namespace PySem
open AutoSeq1 (wpAny_loadPart')
theorem nf_meets_enumerate_newT (l : Addr) (items : Array Value) (n : Nat) (dct : Option Addr) (sl : Array (Option Value)) :
    Meets (Builtin.«enumerate.__new__» ⟨[.type "enumerate", .ref l], []⟩) (fun _ R s => s.heap.get? l = some { cls := .type "tuple", dict := dct, data := .seq items n, slots := sl } ∧
      R (.ok (.ret (.ref (s.heap.push { cls := .type "tuple_iterator", data := .fields #[.ref l, .int 0 0] }).objs.size)))
        { s with heap := (s.heap.push { cls := .type "tuple_iterator", data := .fields #[.ref l, .int 0 0] }).push { cls := .type "enumerate", data := .fields #[.none, .bool false, .ref s.heap.objs.size, rawInt 0, .none, .none] } }) :=
  .of_wp fun prog w A R s h => by
    obtain ⟨hp, g, d, tk, os⟩ := s; obtain ⟨hl, h⟩ := h
    have hsub := sub_enumerate
    have hL : Heap.IsTuple (Shared.heap ⟨hp, g, d, tk, os⟩) l items := ⟨_, hl, rfl, n, rfl⟩
    wp_walk using wpAny_loadPart' hl
    refine wpAny_stack_any fun st => wpAny_pure ?_
    split
    · rename_i c _ _ _ _ _
      cases (c == Value.type "enumerate")
      · wp_walk using wpAny_loadPart' hl, wpAny_pyIter_tuple hL
        exact ⟨_, rfl, h⟩
      · wp_walk using wpAny_loadPart' hl, wpAny_pyIter_tuple hL
        exact ⟨_, rfl, h⟩
    · wp_walk using wpAny_loadPart' hl, wpAny_pyIter_tuple hL
      exact ⟨_, rfl, h⟩
theorem nf_call_enumerate_tuple {prog : Program} {w : World} {A : Around} {E : Value → Shared → Prop} {s : Shared} {l : Addr} {items : Array Value} {Q : Value → Shared → Prop} (hL : s.heap.IsTuple l items)
    (h : ∀ h', IsEnum h' (s.heap.objs.size + 1) s.heap.objs.size 0 .none → h'.IsTupleIter s.heap.objs.size l 0 → h'.objs.size = s.heap.objs.size + 2 →
      (∀ b o, s.heap.get? b = some o → h'.get? b = some o) → Q (.ref (s.heap.objs.size + 1)) { s with heap := h' }) :
    wpAny (model prog w) A (call (.type "enumerate") [.ref l]) Q E s := by
  obtain ⟨⟨c, dct, dt, sl⟩, hl, hc, n, hd⟩ := hL
  replace hc : c = .type "tuple" := hc
  replace hd : dt = .seq items n := hd
  subst hc hd
  refine callType_new F.called_enumerate (by decide) (F.typeCall_enumerate_1 _) (F.newCall_enumerate_1 _) (fun obj => F.args_object_init_2 obj _) F.entry_enumerate_new
    (nf_meets_enumerate_newT l items n dct sl) ⟨hl, ?_⟩
  have hz : (s.heap.push { cls := .type "tuple_iterator", data := .fields #[.ref l, .int 0 0] }).objs.size = s.heap.objs.size + 1 := Heap.size_push ..
  show _ ∧ _
  rw [hz]
  have he : IsEnum ((s.heap.push { cls := .type "tuple_iterator", data := .fields #[.ref l, .int 0 0] }).push
      { cls := .type "enumerate", data := .fields #[.none, .bool false, .ref s.heap.objs.size, rawInt 0, .none, .none] }) (s.heap.objs.size + 1) s.heap.objs.size 0 .none := by
    have := Heap.get?_push_size (s.heap.push { cls := .type "tuple_iterator", data := .fields #[.ref l, .int 0 0] })
      (o := { cls := .type "enumerate", data := .fields #[.none, .bool false, .ref s.heap.objs.size, rawInt 0, .none, .none] }) rfl
    rw [hz] at this; exact this
  refine ⟨⟨_, he, rfl⟩, h _ he ⟨_, Heap.get?_push_of_some _ (Heap.get?_push_size _ rfl), rfl, rfl⟩ (by rw [Heap.size_push, hz]) fun b o x => Heap.get?_push_of_some _ (Heap.get?_push_of_some _ x)⟩
end PySem

set_option Elab.async false
set_option linter.all false
set_option maxRecDepth 100000
set_option maxHeartbeats 4000000
namespace Nf
open PySem PySem.Spec PyProof.Rows L2

/-! ### enumerate of a tuple -/
def IteT (K : PySem.W.Frag) (a : Addr) : It :=
  ⟨fun i H => ∃ (xs : List V) (x : V), SqT K H a xs ∧ xs[i]? = some x, fun i H v H' => ∃ T x, v = .ref T ∧ H T = none ∧ H' = upd H T (.tup [.int (i : Nat), x]) ∧ ∀ xs, SqT K H a xs → xs[i]? = some x, fun i H => ∃ xs : List V, SqT K H a xs ∧ xs.length ≤ i⟩
theorem turn_enumT {P : Program} {w : World} {K : PySem.W.Frag} {elts : List Expr} {kk : Nat} {tpos : Pos} (a e it : Addr) (hai : a ≠ it) (hae : a ≠ e) :
    Turn P w K (.Tuple elts kk tpos) (IteT K a) [e, it] e (fun i h => (∃ old, IsEnum h e it ((i : Nat) : Int) old) ∧ h.IsTupleIter it a i ∧ e ≠ it) where
  mem := by simp
  obj := fun i h st b hb => by
    obtain ⟨⟨old, he⟩, ⟨o, ho, hc, hd⟩, _⟩ := st
    have e' : b = e ∨ b = it := by simpa using hb
    rcases e' with z | z
    · rw [z]; exact ⟨_, he, fun v q => nomatch q⟩
    · rw [z]; exact ⟨o, ho, fun v q => by rw [hd] at q; cases q⟩
  keep := fun i h h' st k => let ⟨⟨old, he⟩, hi, hne⟩ := st; ⟨⟨old, k e (by simp) _ he⟩, hi.at fun o q => k it (by simp) o q, hne⟩
  item := by
    intro X hP hw hK hc i pins s σ H E I hf st hg
    subst hP hw hK
    obtain ⟨⟨old, he⟩, hit, hne⟩ := st
    obtain ⟨xs, x, hq, hx⟩ := hg
    obtain ⟨its, rv, p, hz⟩ := I.tuple hq
    obtain ⟨u, hu, ru⟩ := rv.get hx
    have hel : e < s.heap.objs.size := Heap.lt_size he
    have hil : it < s.heap.objs.size := by obtain ⟨_, q, _⟩ := hit; exact Heap.lt_size q
    have hu' : its.toArray[i]? = some u := by simpa using hu
    have hlt : i < its.toArray.size := by
      by_cases hq : i < its.toArray.size
      · exact hq
      · rw [Array.getElem?_eq_none (by omega)] at hu'
        cases hu'
    have hef : e ∉ [it, a] := by
      intro z
      simp only [List.mem_cons, List.not_mem_nil, or_false] at z
      rcases z with z | z
      · exact hne z
      · exact hae z.symm
    refine wpAny_pyNext_enum_itemD (Draws.tuple (A := X.A.in1) (show X.A.in1.handled = none from I.ok.hd hc) it a hai its.toArray) he ⟨hit, p⟩ hlt hne hef fun y h' tk hP ho hst' hT hsz hk => ?_
    have ey : y = u := Option.some.inj (hP.symm.trans hu')
    subst ey
    have hit' := hst'.1
    refine ⟨_, rfl, wpAny_letOwnedTupleGo_enum (s := { s with heap := h', toks := tk + 1 }) ho fun h'' he' sb => ?_⟩
    have hT2 : h''.get? s.heap.objs.size = some { cls := .type "tuple", data := .seq #[.int i tk, y] } := (sb.2 _ (Nat.ne_of_gt hel)).trans hT
    have new : ObjOk X.prog X.w (upd H s.heap.objs.size (.tup [.int (i : Nat), x])) h'' s.heap.objs.size (.tup [.int (i : Nat), x]) :=
      ⟨by show 2 ≤ sizeLine; decide, [.int i tk, y], .cons ⟨_, rfl⟩ (.cons ru .nil), ⟨_, hT2, rfl, _, rfl⟩⟩
    have I1 : Inv X pins σ (upd H s.heap.objs.size (.tup [.int (i : Nat), x])) { s with heap := h'', toks := tk + 1 } :=
      I.turnedNew (ch := [e, it]) (fun b ob hb q => (sb.2 b (fun z => hb (by simp [z]))).trans (hk b ob (fun z => hb (by simp [z])) (fun z => hb (by simp [z])) q)) hf (Nat.le_refl _) new
    refine ⟨.ref s.heap.objs.size, _, I1, rfl, ⟨_, x, rfl, I.hok.fresh (Nat.le_refl _), rfl, fun ys hy => by rw [I.tuple_inj hy hq]; exact hx⟩, ⟨⟨y, ?_⟩, hit'.at fun o q => (sb.2 it (Ne.symm hne)).trans q, hne⟩, fun b hb => ?_⟩
    · have e1 : ((i + 1 : Nat) : Int) = (i : Int) + 1 := by omega
      rw [e1]; exact he'
    · have hb' : b < s.heap.objs.size := by
        have e' : b = e ∨ b = it := by simpa using hb
        rcases e' with z | z
        · rw [z]; exact hel
        · rw [z]; exact hil
      rw [upd_ne (Nat.ne_of_lt hb')]
      exact (hf b hb).1
  done := by
    intro X hP hw hK hc i pins s σ H E I hf st hg
    subst hP hw hK
    obtain ⟨⟨old, he⟩, hit, hne⟩ := st
    obtain ⟨xs, hq, hx⟩ := hg
    obtain ⟨its, rv, p, hz⟩ := I.tuple hq
    obtain ⟨f0, f1, f2, f3, f4, f5⟩ := hf it (by simp)
    have hl := rv.length
    have hx' : its.toArray[i]? = none := by simp; omega
    have hT : s.TypeIs (.ref e) "enumerate" := ⟨_, he, rfl⟩
    unfold pyNext
    refine wpAny_bind (wpAny_attempt (wpAny_callSpecial?_slot (name := Str.ofString "__next__") hT F.slot_enumerate_next
      (wpAny_call_entry F.slot_enumerate_next hT F.entry_enumerate_next ?_ (F.args_enumerate_next_1 _))))
    show wpAny _ _ (field (.ref e) 2 >>= _) _ _ _
    refine wpAny_bind (wpAny_field he rfl (x := .ref it) rfl ?_)
    refine wpAny_bind (wpAny_nextOf_tuple_end (A := X.A.in1) (show X.A.in1.handled = none from I.ok.hd hc) hit p hx' fun h' x he' hx' => ?_)
    obtain ⟨o, ho, hc⟩ := hx'
    refine wpAny_bind (wpAny_isInstance (T := "StopIteration") (b := true) ⟨o, ho, hc⟩ isSubtype_stop ?_)
    exact wpAny_pure ⟨rfl, I.turned (t' := s.toks) (fun b o hb q => he' b o hb q) f0 f1 f3 f4 f5⟩
  self := fun A i s Q E st h => let ⟨⟨_, he⟩, _⟩ := st; wpAny_pyIter_enum he h
def iEnumT (K : PySem.W.Frag) (ta : TA) : TI := fun σ H R => ta σ H fun vs H1 => ∃ a xs, vs = [.ref a] ∧ SqT K H1 a xs ∧ R (IteT K a) H1
theorem pi_enumT {X : Cx} {e : Expr} {ta : TA} {p pos tpos : Pos} {elts : List Expr} {kk : Nat} (hg : Gl X "enumerate") (hm : X.mg "enumerate" = none) (ha : PA X [e] ta) (hs : starEach [e] X.env = [(false, eval e X.env)] := by rfl) :
    PI X (.Tuple elts kk tpos) (.Call (.Name "enumerate" p) [e] [] pos) (iEnumT X.K ta) := by
  refine ⟨fun pins s σ H R I h => ?_⟩
  refine Call_ (ld_blt I hg hm boot_enumerate (PyProof.Rows.callWith_type1 (thn (ha.run pos pins s σ H _ I h) fun us s1 ⟨vs, H1, I1, r1, q1⟩ => ?_) hs rfl))
  obtain ⟨a, xs, ex, hq, q⟩ := q1
  subst ex
  cases r1 with
  | cons r rr =>
    cases rr
    cases r
    obtain ⟨its, rv, p', hz⟩ := I1.tuple hq
    have hal : a < s1.heap.objs.size := by
      obtain ⟨o, ho, _⟩ := id p'
      exact Heap.lt_size ho
    refine nf_call_enumerate_tuple p' fun h' he hit hsz hk => wpAny_pyIter_enum he ?_
    have I2 : Inv X pins σ H1 { s1 with heap := h' } := I1.kept (t' := s1.toks) hk
    refine ⟨s1.heap.objs.size + 1, [s1.heap.objs.size + 1, s1.heap.objs.size], _, _, H1, rfl, I2, turn_enumT a (s1.heap.objs.size + 1) s1.heap.objs.size (Nat.ne_of_lt hal) (Nat.ne_of_lt (Nat.lt_succ_of_lt hal)), ⟨⟨.none, he⟩, hit, Nat.succ_ne_self _⟩, fun b hb => ?_, q⟩
    have e' : b = s1.heap.objs.size + 1 ∨ b = s1.heap.objs.size := by simpa using hb
    have hle : s1.heap.objs.size ≤ b := by
      rcases e' with z | z
      · rw [z]; exact Nat.le_add_right _ _
      · rw [z]; exact Nat.le_refl _
    exact I1.fpOk hle (I1.hok.fresh hle)
theorem walk_enumT {K : PySem.W.Frag} {a : Addr} {xs : List V} : Walk (IteT K a) xs.length (fun H => SqT K H a xs) (YPair (fun i => some (.int (i : Nat))) (fun i => xs[i]?)) := by
  refine ⟨fun i _ hi q => ⟨xs, xs[i], q, by simp [hi]⟩, fun _ q => ⟨xs, q, Nat.le_refl _⟩, fun i H v H' _ q y => ?_⟩
  obtain ⟨T, x, h1, h2, h3, h4⟩ := y
  exact ⟨T, .int (i : Nat), x, h1, h2, h3, rfl, h4 xs q⟩
theorem walk_zipT {K : PySem.W.Frag} {a b : Addr} {xs ys : List V} {n : Nat} (hn : n = min xs.length ys.length) : Walk (RZ.ItzT K a b) n (fun H => SqT K H a xs ∧ SqT K H b ys) (YPair (fun i => xs[i]?) (fun i => ys[i]?)) := by
  subst hn
  refine ⟨fun i _ hi q => ?_, fun _ q => ⟨xs, ys, q.1, q.2, by omega⟩, fun i H v H' _ q y => ?_⟩
  · have h1 : i < xs.length := by omega
    have h2 : i < ys.length := by omega
    exact ⟨xs, ys, xs[i], ys[i], q.1, q.2, by simp [h1], by simp [h2]⟩
  · obtain ⟨T, x, z, h1, h2, h3, h4, h5⟩ := y
    exact ⟨T, x, z, h1, h2, h3, h4 xs q.1, h5 ys q.2⟩
end Nf

set_option Elab.async false
set_option linter.all false
set_option maxRecDepth 100000
set_option maxHeartbeats 4000000
namespace Nf
open PySem PySem.Spec PyProof.Rows L2

theorem compTurnN_mid (elt : Expr) (gens : List Comprehension) (d : Nat) (t0 i0 t1 i1 : Expr) (ifs0 ifs1 : List Expr) (scope : Scope) (pos : Pos) (it acc : Value) (env : Env)
    (h0 : gens[d]? = some ⟨t0, i0, ifs0, 0⟩) (h1 : gens[d + 1]? = some ⟨t1, i1, ifs1, 0⟩) :
    compTurn (.ListComp elt gens scope pos) d it acc env = (do
      standAt i0.pos
      match ← pyNext it with
      | none => pure (.done .next)
      | some v =>
        letOwnedTupleGo t0 it v
        assign t0 env v
        let mut ok := true
        for c in ifs0 do
          if ok then ok ← isTrue c env (eval c env)
        if ok then
          let x ← eval i1 env
          standAt i1.pos
          let x ← foldedSetIterable i1 env x
          let _ ← runOwn (.compStart (.ListComp elt gens scope pos) (d + 1) (← holding [x] (pyIter x)) acc env) env
        again (.compLoop (.ListComp elt gens scope pos) d it acc env)) := by
  unfold compTurn
  simp only [h0, h1]
  rfl
theorem compTurnN_last (elt : Expr) (gens : List Comprehension) (d : Nat) (t1 i1 : Expr) (ifs1 : List Expr) (scope : Scope) (pos : Pos) (it acc : Value) (env : Env)
    (h0 : gens[d]? = some ⟨t1, i1, ifs1, 0⟩) (h1 : gens[d + 1]? = none) :
    compTurn (.ListComp elt gens scope pos) d it acc env = (do
      standAt i1.pos
      match ← pyNext it with
      | none => pure (.done .next)
      | some v =>
        letOwnedTupleGo t1 it v
        assign t1 env v
        let mut ok := true
        for c in ifs1 do
          if ok then ok ← isTrue c env (eval c env)
        if ok then
          (do let _ ← call (.builtin "list.append") [acc, ← eval elt env])
        again (.compLoop (.ListComp elt gens scope pos) d it acc env)) := by
  unfold compTurn
  simp only [h0, h1]
  rfl

section
variable {prog : Program} {w : World} {A : Around} {R : Result → Shared → Prop} {s : Shared} {elt t0 i0 t1 i1 : Expr} {gens : List Comprehension} {d : Nat} {ifs0 ifs1 : List Expr} {scope : Scope} {pos : Pos} {it acc : Value} {env : Env}
theorem compLoopN_mid (h0 : gens[d]? = some ⟨t0, i0, ifs0, 0⟩) (h1 : gens[d + 1]? = some ⟨t1, i1, ifs1, 0⟩) (hs : ∀ x, foldedSetIterable i1 env x = pure x) (I : Nat → Shared → Prop)
    (turn : ∀ n s, I n s → wpAny (model prog w) A (pyNext it) (fun r s₁ => match r with
      | none => R (.ok .next) s₁
      | some v => wpAny (model prog w) A (letOwnedTupleGo t0 it v) (fun _ s₁' => wpAny (model prog w) A (assign t0 env v) (fun _ s₂ =>
          wpAny (model prog w) A (forIn ifs0 true fun c r => if r = true then do let ok ← isTrue c env (eval c env); pure (ForInStep.yield ok) else pure (ForInStep.yield r)) (fun ok s₃ =>
            if ok = true then wpAny (model prog w) A (eval i1 env) (fun x s₄ => wpAny (model prog w) A (pyIter x) (fun it1 s₅ =>
              codeAny (model prog w) A (.compStart (.ListComp elt gens scope pos) (d + 1) it1 acc env) (fun r s' => match r with
                | .ok _ => ∃ m, m < n ∧ I m s'
                | .error _ => False) s₅) (notedBy (model prog w) A env fun e s' => R (.error e) s') s₄) (notedBy (model prog w) A env fun e s' => R (.error e) s') s₃
            else ∃ m, m < n ∧ I m s₃) (notedBy (model prog w) A env fun e s' => R (.error e) s') s₂) (notedBy (model prog w) A env fun e s' => R (.error e) s') s₁') (notedBy (model prog w) A env fun e s' => R (.error e) s') s₁) (notedBy (model prog w) A env fun e s' => R (.error e) s') s)
    (n : Nat) (h : I n s) :
    codeAny (model prog w) A (.compLoop (.ListComp elt gens scope pos) d it acc env) R s := by
  refine codeAny_loop rfl I (fun n s hI => ?_) n h
  show wpAny _ A ((compTurn (.ListComp elt gens scope pos) d it acc env).onRaise (fun x => do noteFrame x env; theTreesLotGoes x)) _ _ s
  refine wpAny_noted ?_
  rw [compTurnN_mid elt gens d t0 i0 t1 i1 ifs0 ifs1 scope pos it acc env h0 h1]
  refine wpAny_bind (wpAny_standAt (wpAny_bind (wpAny_mono (turn n s hI) (fun r s₁ h₁ => ?_) fun _ _ h' => h')))
  cases r with
  | none => exact wpAny_pure h₁
  | some v =>
    refine wpAny_bind (wpAny_mono h₁ (fun _ s₁' h₁' => ?_) fun _ _ h' => h')
    refine wpAny_bind (wpAny_mono h₁' (fun _ s₂ h₂ => wpAny_bind (wpAny_mono h₂ (fun ok s₃ h₃ => ?_) fun _ _ h' => h')) fun _ _ h' => h')
    cases ok with
    | false => exact wpAny_pure ⟨rfl, h₃⟩
    | true =>
      refine wpAny_bind (wpAny_mono h₃ (fun x s₄ h₄ => ?_) fun _ _ h' => h')
      refine wpAny_bind (wpAny_standAt (wpAny_bind (wpAny_of_eq (hs x) (wpAny_bind (wpAny_holding (wpAny_mono h₄ (fun it1 s₅ h₅ => ?_) fun _ _ h' => h'))))))
      refine wpAny_bind (wpAny_runOwn ?_)
      rw [Around.mark_none]
      refine codeAny_mono h₅ fun r s' hr => ?_
      cases r with
      | ok f =>
        first
          | exact wpAny_pure ⟨rfl, hr⟩
          | exact wpAny_bind (wpAny_pure (wpAny_pure ⟨rfl, hr⟩))
      | error e => exact hr.elim
theorem compLoopN_last (h0 : gens[d]? = some ⟨t1, i1, ifs1, 0⟩) (h1 : gens[d + 1]? = none) (I : Nat → Shared → Prop)
    (turn : ∀ n s, I n s → wpAny (model prog w) A (pyNext it) (fun r s₁ => match r with
      | none => R (.ok .next) s₁
      | some v => wpAny (model prog w) A (letOwnedTupleGo t1 it v) (fun _ s₁' => wpAny (model prog w) A (assign t1 env v) (fun _ s₂ =>
          wpAny (model prog w) A (forIn ifs1 true fun c r => if r = true then do let ok ← isTrue c env (eval c env); pure (ForInStep.yield ok) else pure (ForInStep.yield r)) (fun ok s₃ =>
            if ok = true then wpAny (model prog w) A (eval elt env) (fun x s₄ =>
              wpAny (model prog w) A (call (.builtin "list.append") [acc, x]) (fun _ s₅ => ∃ m, m < n ∧ I m s₅) (notedBy (model prog w) A env fun e s' => R (.error e) s') s₄) (notedBy (model prog w) A env fun e s' => R (.error e) s') s₃
            else ∃ m, m < n ∧ I m s₃) (notedBy (model prog w) A env fun e s' => R (.error e) s') s₂) (notedBy (model prog w) A env fun e s' => R (.error e) s') s₁') (notedBy (model prog w) A env fun e s' => R (.error e) s') s₁) (notedBy (model prog w) A env fun e s' => R (.error e) s') s)
    (n : Nat) (h : I n s) :
    codeAny (model prog w) A (.compLoop (.ListComp elt gens scope pos) d it acc env) R s := by
  refine codeAny_loop rfl I (fun n s hI => ?_) n h
  show wpAny _ A ((compTurn (.ListComp elt gens scope pos) d it acc env).onRaise (fun x => do noteFrame x env; theTreesLotGoes x)) _ _ s
  refine wpAny_noted ?_
  rw [compTurnN_last elt gens d t1 i1 ifs1 scope pos it acc env h0 h1]
  refine wpAny_bind (wpAny_standAt (wpAny_bind (wpAny_mono (turn n s hI) (fun r s₁ h₁ => ?_) fun _ _ h' => h')))
  cases r with
  | none => exact wpAny_pure h₁
  | some v =>
    refine wpAny_bind (wpAny_mono h₁ (fun _ s₁' h₁' => ?_) fun _ _ h' => h')
    refine wpAny_bind (wpAny_mono h₁' (fun _ s₂ h₂ => wpAny_bind (wpAny_mono h₂ (fun ok s₃ h₃ => ?_) fun _ _ h' => h')) fun _ _ h' => h')
    cases ok with
    | false => exact wpAny_pure ⟨rfl, h₃⟩
    | true =>
      exact wpAny_bind (wpAny_bind (wpAny_mono h₃ (fun x s₄ h₄ => wpAny_bind (wpAny_mono h₄ (fun _ s₅ h₅ => wpAny_pure (wpAny_pure ⟨rfl, h₅⟩)) fun _ _ h' => h')) fun _ _ h' => h'))
theorem compStartN_ok (hg : gens[d]? = some ⟨t1, i1, ifs1, 0⟩) (h0 : codeAny (model prog w) A (.compLoop (.ListComp elt gens scope pos) d it acc env) R s)
    (h : wpAny (model prog w) A (pyIter it) (fun it' s' => codeAny (model prog w) A (.compLoop (.ListComp elt gens scope pos) d it' acc env) R s')
      (notedBy (model prog w) A env fun x s' => R (.error x) s') s) :
    codeAny (model prog w) A (.compStart (.ListComp elt gens scope pos) d it acc env) R s := by
  refine codeAny_of_tree ?_
  show wpAny _ _ ((compStart (.ListComp elt gens scope pos) d it acc env).onRaise (fun x => do noteFrame x env; standAt theWindowsPlace)) _ _ s
  refine wpAny_notedAt ?_
  have hc : (clausesOf (.ListComp elt gens scope pos))[d]? = some ⟨t1, i1, ifs1, 0⟩ := hg
  unfold compStart
  rw [hc]
  show wpAny _ _ (ask >>= _) _ _ s
  refine wpAny_bind (wpAny_askSetting (wpAny_ite ?_))
  split
  · first
      | exact wpAny_bind (wpAny_pure (wpAny_pure (And.intro rfl h0)))
      | exact wpAny_pure (And.intro rfl h0)
  · first
      | exact wpAny_bind (wpAny_rule (wpAny_bind (wpAny_standAt (wpAny_bind (wpAny_mono h (fun it' s' h' => wpAny_pure (And.intro rfl h')) fun _ _ x => x)))))
      | (refine wpAny_bind (wpAny_rule ?_); show wpAny _ _ (standAt i1.pos >>= _) _ _ s; exact wpAny_bind (wpAny_standAt (wpAny_bind (wpAny_mono h (fun it' s' h' => wpAny_pure (And.intro rfl h')) fun _ _ x => x))))
end
end Nf

set_option Elab.async false
set_option linter.all false
set_option maxRecDepth 100000
set_option maxHeartbeats 4000000
namespace Nf
open PySem PySem.Spec PyProof.Rows L2


/-! ### list comprehensions of any number of clauses -/
theorem thnX {X : Cx} {α : Type} {t : Sem α} {Q Q' : α → Shared → Prop} {M : Model} {A : Around} {E : Value → Shared → Prop} {s : Shared} (hx : X.xe = fun _ _ => False) (h : wpAny M A t Q X.xe s) (hQ : ∀ a s, Q a s → Q' a s) : wpAny M A t Q' E s :=
  wpAny_mono h hQ fun e s' z => by
    rw [hx] at z
    exact z.elim
/-- what a loop leaves of the slots: those that it does not store -/
def KeepS (vs : List Nat) (σ σ' : L2.St) : Prop := σ.length = σ'.length ∧ ∀ (j : Nat) v, (wipe σ vs)[j]? = some (some v) → σ'[j]? = some (some v)
/-- the loop of the clause at depth d, its iterator made: vs the slots that it and the later clauses store -/
structure PCl (Y : Cx) (elt : Expr) (gens : List Comprehension) (scope : Scope) (pos : Pos) (d : Nat) (tg : Expr) (vs : List Nat) (t : It → Addr → L2.St → Hp → (Hp → Prop) → Prop) : Prop where
  run : ∀ (pins : List (Addr × Obj)) (s : Shared) (σ : L2.St) (H : Hp) (D : Addr) (Nx : Hp → Prop) (it : Addr) (fp : List Addr) (tn : Nat → Heap → Prop) (J : It) (R : Result → Shared → Prop), Inv Y pins σ H s → Turn Y.prog Y.w Y.K tg J fp it tn → tn 0 s.heap →
    (∀ b ∈ fp, FpOk Y pins H b) → t J D σ H Nx → (∀ s' σ' H', Inv Y pins σ' H' s' → KeepS vs σ σ' → Nx H' → R (.ok .next) s') →
    codeAny (model Y.prog Y.w) Y.A (.compLoop (.ListComp elt gens scope pos) d (.ref it) (.ref D) Y.env) R s
/-- a loop's reading: body tells what a turn does behind the tests -/
def tCl (g : TG) (tt : TT) (vs : List Nat) (body : Addr → L2.St → Hp → (Hp → Prop) → Prop) : It → Addr → L2.St → Hp → (Hp → Prop) → Prop := fun J D σ H Nx => ∃ W : Nat → Nat → Hp → Prop, (∃ m, W 0 m H) ∧ ∀ i m H, W i m H →
  (J.stop i H ∧ Nx H) ∨ (J.go i H ∧ ∃ N : Hp → Prop, (∀ H', N H' → ∃ m', m' < m ∧ W (i + 1) m' H') ∧ ∀ x H', J.yld i H x H' → g x (wipe σ vs) H' fun σ2 H2 => wipe σ2 vs = wipe σ vs ∧ tt σ2 H2 fun b H3 =>
    if b = true then body D σ2 H3 N else N H3)
/-- the last clause's: the element is put to the list -/
def bLast (te : TE) : Addr → L2.St → Hp → (Hp → Prop) → Prop := fun D σ2 H3 N => te σ2 H3 fun y H4 => ∃ acc, H4 D = some (.lst acc) ∧ acc.length < sizeLine ∧ N (upd H4 D (.lst (acc ++ [y])))
/-- another clause's: the next one's loop -/
def bMid (wi : TI) (t : It → Addr → L2.St → Hp → (Hp → Prop) → Prop) : Addr → L2.St → Hp → (Hp → Prop) → Prop := fun D σ2 H3 N => wi σ2 H3 fun J1 H4 => t J1 D σ2 H4 N
variable {Y : Cx} {elt tg iter : Expr} {gens : List Comprehension} {scope : Scope} {pos : Pos} {d : Nat} {ifs : List Expr} {g : TG} {tt : TT} {te : TE} {vs : List Nat}
theorem pcl_last (hc : Y.calm = true) (hx : Y.xe = fun _ _ => False) (h0 : gens[d]? = some ⟨tg, iter, ifs, 0⟩) (h1 : gens[d + 1]? = none) (pg : PG Y tg g) (pt : PTs Y ifs tt) (pe : PE Y elt te) : PCl Y elt gens scope pos d tg vs (tCl g tt vs (bLast te)) := by
  refine ⟨fun pins s σ H D Nx it fp tn J R I T st f h hR => ?_⟩
  obtain ⟨W, ⟨m0, w0⟩, turn⟩ := h
  have stat : ∀ {H' : Hp}, (∀ b ∈ fp, H' b = none) → ∀ b ∈ fp, FpOk Y pins H' b := fun hn b hb => ⟨hn b hb, (f b hb).2⟩
  refine compLoopN_last h0 h1 (fun k s' => ∃ j H', Inv Y pins (wipe σ vs) H' s' ∧ tn j s'.heap ∧ (∀ b ∈ fp, H' b = none) ∧ W j k H') ?_ m0 ⟨0, H, I.weak (wipe_length _ _) (fun j v e => (wipe_some e).1), st, fun b hb => (f b hb).1, w0⟩
  rintro k s12 ⟨j, H12, I12, st12, n12, w12⟩
  rcases turn j k H12 w12 with ⟨stop1, nx1⟩ | ⟨go1, Nx1, hNx1, step1⟩
  · refine thnF (T.done Y rfl rfl rfl hc j _ s12 (wipe σ vs) H12 (fun _ _ => False) I12 (stat n12) st12 stop1) fun r s13 ⟨hr, I13⟩ => ?_
    subst hr
    exact hR _ _ _ I13 ⟨(wipe_length σ vs).symm, fun _ _ e => e⟩ nx1
  · refine thnF (T.item Y rfl rfl rfl hc j _ s12 (wipe σ vs) H12 (fun _ _ => False) I12 (stat n12) st12 go1) fun r s13 ⟨u1, hr, h13⟩ => ?_
    subst hr
    refine thnF h13 fun _ s14 ⟨x1, H14, I14, r14, y14, st14, n14⟩ => ?_
    have I14' := I14.pinned (stat n14) (T.obj _ _ st14)
    refine thnX hx (pg.run _ s14 (wipe σ vs) H14 x1 u1 _ I14' r14 (step1 x1 H14 y14)) fun _ s15 ⟨σ15, H15, I15, hw15, q15⟩ => ?_
    refine thnX hx (pt.run _ s15 σ15 H15 _ I15 q15) fun b1 s16 ⟨H16, I16, q16⟩ => ?_
    have fin1 : ∀ {s' : Shared} {H' : Hp}, Inv Y (pins ++ pinsAt fp s14.heap) σ15 H' s' → Nx1 H' → ∃ m, m < k ∧ ∃ j H', Inv Y pins (wipe σ vs) H' s' ∧ tn j s'.heap ∧ (∀ b ∈ fp, H' b = none) ∧ W j m H' := fun {s' H'} I' nx => by
      obtain ⟨m', hm, w'⟩ := hNx1 H' nx
      have pin' : ∀ b ∈ fp, ∀ o, s14.heap.get? b = some o → s'.heap.get? b = some o ∧ H' b = none := fun b hb o e =>
        let z := I'.pin (b, o) (List.mem_append_right _ (List.mem_append_right _ (mem_pinsAt hb e)))
        ⟨z.1, z.2.1⟩
      refine ⟨m', hm, j + 1, H', I'.unpinned.weak (by rw [← hw15, wipe_length]) (fun j v e => by rw [← hw15] at e; exact (wipe_some e).1), T.keep _ _ _ st14 fun b hb o e => (pin' b hb o e).1, fun b hb => ?_, w'⟩
      obtain ⟨o, e, _⟩ := T.obj _ _ st14 b hb
      exact (pin' b hb o e).2
    cases b1 with
    | false =>
      simp only [Bool.false_eq_true, if_false] at q16 ⊢
      exact fin1 I16 q16
    | true =>
      simp only [if_true] at q16 ⊢
      refine thnX hx (pe.run _ s16 σ15 H16 _ I16 q16) fun z s17 ⟨yv, H17, I17, r17, acc, hD17, hz17, nx⟩ => ?_
      exact app_ok (X := Y) I17 hD17 hz17 r17 fun s18 I18 => fin1 I18 nx
theorem pcl_mid {tg1 iter1 : Expr} {ifs1 : List Expr} {wi1 : TI} {vs1 : List Nat} {t1 : It → Addr → L2.St → Hp → (Hp → Prop) → Prop} (hc : Y.calm = true) (hx : Y.xe = fun _ _ => False) (h0 : gens[d]? = some ⟨tg, iter, ifs, 0⟩) (h1 : gens[d + 1]? = some ⟨tg1, iter1, ifs1, 0⟩) (hv : ∀ i ∈ vs1, i ∈ vs)
    (pg : PG Y tg g) (pt : PTs Y ifs tt) (pi1 : PI Y tg1 iter1 wi1) (hs1 : ∀ x, foldedSetIterable iter1 Y.env x = pure x) (pc : PCl Y elt gens scope pos (d + 1) tg1 vs1 t1) : PCl Y elt gens scope pos d tg vs (tCl g tt vs (bMid wi1 t1)) := by
  refine ⟨fun pins s σ H D Nx it fp tn J R I T st f h hR => ?_⟩
  obtain ⟨W, ⟨m0, w0⟩, turn⟩ := h
  have stat : ∀ {H' : Hp}, (∀ b ∈ fp, H' b = none) → ∀ b ∈ fp, FpOk Y pins H' b := fun hn b hb => ⟨hn b hb, (f b hb).2⟩
  refine compLoopN_mid h0 h1 hs1 (fun k s' => ∃ j H', Inv Y pins (wipe σ vs) H' s' ∧ tn j s'.heap ∧ (∀ b ∈ fp, H' b = none) ∧ W j k H') ?_ m0 ⟨0, H, I.weak (wipe_length _ _) (fun j v e => (wipe_some e).1), st, fun b hb => (f b hb).1, w0⟩
  rintro k s12 ⟨j, H12, I12, st12, n12, w12⟩
  rcases turn j k H12 w12 with ⟨stop1, nx1⟩ | ⟨go1, Nx1, hNx1, step1⟩
  · refine thnF (T.done Y rfl rfl rfl hc j _ s12 (wipe σ vs) H12 (fun _ _ => False) I12 (stat n12) st12 stop1) fun r s13 ⟨hr, I13⟩ => ?_
    subst hr
    exact hR _ _ _ I13 ⟨(wipe_length σ vs).symm, fun _ _ e => e⟩ nx1
  · refine thnF (T.item Y rfl rfl rfl hc j _ s12 (wipe σ vs) H12 (fun _ _ => False) I12 (stat n12) st12 go1) fun r s13 ⟨u1, hr, h13⟩ => ?_
    subst hr
    refine thnF h13 fun _ s14 ⟨x1, H14, I14, r14, y14, st14, n14⟩ => ?_
    have I14' := I14.pinned (stat n14) (T.obj _ _ st14)
    refine thnX hx (pg.run _ s14 (wipe σ vs) H14 x1 u1 _ I14' r14 (step1 x1 H14 y14)) fun _ s15 ⟨σ15, H15, I15, hw15, q15⟩ => ?_
    refine thnX hx (pt.run _ s15 σ15 H15 _ I15 q15) fun b1 s16 ⟨H16, I16, q16⟩ => ?_
    have fin1 : ∀ {σ9 : L2.St} {s' : Shared} {H' : Hp}, Inv Y (pins ++ pinsAt fp s14.heap) σ9 H' s' → (wipe σ vs).length = σ9.length → (∀ (j : Nat) v, (wipe σ vs)[j]? = some (some v) → σ9[j]? = some (some v)) → Nx1 H' →
        ∃ m, m < k ∧ ∃ j H', Inv Y pins (wipe σ vs) H' s' ∧ tn j s'.heap ∧ (∀ b ∈ fp, H' b = none) ∧ W j m H' := fun {σ9 s' H'} I' hl hk nx => by
      obtain ⟨m', hm, w'⟩ := hNx1 H' nx
      have pin' : ∀ b ∈ fp, ∀ o, s14.heap.get? b = some o → s'.heap.get? b = some o ∧ H' b = none := fun b hb o e =>
        let z := I'.pin (b, o) (List.mem_append_right _ (List.mem_append_right _ (mem_pinsAt hb e)))
        ⟨z.1, z.2.1⟩
      refine ⟨m', hm, j + 1, H', I'.unpinned.weak hl hk, T.keep _ _ _ st14 fun b hb o e => (pin' b hb o e).1, fun b hb => ?_, w'⟩
      obtain ⟨o, e, _⟩ := T.obj _ _ st14 b hb
      exact (pin' b hb o e).2
    have hl15 : (wipe σ vs).length = σ15.length := by rw [← hw15, wipe_length]
    cases b1 with
    | false =>
      simp only [Bool.false_eq_true, if_false] at q16 ⊢
      exact fin1 I16 hl15 (fun j v e => by rw [← hw15] at e; exact (wipe_some e).1) q16
    | true =>
      simp only [if_true] at q16 ⊢
      refine thnX hx (pi1.run _ s16 σ15 H16 _ I16 q16) fun xv s10 hxx => thnX hx hxx fun itv s11 h11 => ?_
      obtain ⟨it1, fp1, tn1, J1, H11, e1, I11, T1, st11, f11, q11⟩ := h11
      subst e1
      have loop1 : codeAny (model Y.prog Y.w) Y.A (.compLoop (.ListComp elt gens scope pos) (d + 1) (.ref it1) (.ref D) Y.env)
          (fun r s' => match r with
            | .ok _ => ∃ m, m < k ∧ ∃ j H', Inv Y pins (wipe σ vs) H' s' ∧ tn j s'.heap ∧ (∀ b ∈ fp, H' b = none) ∧ W j m H'
            | .error _ => False) s11 := by
        refine pc.run _ s11 σ15 H11 D Nx1 it1 fp1 tn1 J1 _ I11 T1 st11 f11 q11 fun s' σ' H' I' ks nx => ?_
        refine fin1 I' (hl15.trans ks.1) (fun j v e => ?_) nx
        refine ks.2 j v ?_
        rw [← hw15] at e
        obtain ⟨e1, e2⟩ := wipe_some e
        rw [wipe_out fun z => e2 (hv j z)]
        exact e1
      exact compStartN_ok h1 loop1 (T1.self Y.A 0 _ _ _ st11 loop1)
end Nf

set_option Elab.async false
set_option linter.all false
set_option maxRecDepth 100000
set_option maxHeartbeats 4000000
namespace Nf
open PySem PySem.Spec PyProof.Rows L2

variable {X : Cx}
/-- [elt for tg in iter .. for .. ..] -/
def tLcN (wi : TI) (t : It → Addr → L2.St → Hp → (Hp → Prop) → Prop) (vs : List Nat) : TE := fun σ H Q => wi σ H fun J H1 => ∀ D, H1 D = none → t J D (wipe σ vs) (upd H1 D (.lst [])) fun H2 => Q (.ref D) H2
theorem lcN_core {pins : List (Addr × Obj)} {s : Shared} {σ : L2.St} {H : Hp} {Q : VK} {elt tg iter : Expr} {ifs : List Expr} {rest : List Comprehension} {scope : Scope} {own : List (Str × Nat)} {pos pos' : Pos} {wi : TI} {t : It → Addr → L2.St → Hp → (Hp → Prop) → Prop} {use : Option (Value → Sem Unit)} {Qf : Value → Shared → Prop}
    (hc : X.calm = true) (hN : X.N.Nodup) (I : Inv X pins σ H s) (hi : PI X tg iter wi) (ok : BlkOk X.N X.env.scope scope own)
    (hp : ∀ (s : Shared) (H : Hp) (C : Addr) (cl : List (Str × Addr)) (fp : List Addr), PCl (X.blk s H scope (compEnvC scope cl C X.env) fp) elt (⟨tg, iter, ifs, 0⟩ :: rest) scope pos 0 tg (own.map (·.2)) t) (hs : ∀ x, foldedSetIterable iter X.env x = pure x)
    (h : tLcN wi t (own.map (·.2)) σ H Q)
    (hRR : ∀ D C s' m H', Inv X pins σ H' s' → Q (.ref D) H' → s'.heap.Ns C m → FpOk X pins H' C → compPost (model X.prog X.w) X.A X.xe use Qf (.ref D) C (.ok .next) s') :
    wpAny (model X.prog X.w) X.A (comprehension (.ListComp elt (⟨tg, iter, ifs, 0⟩ :: rest) scope pos) scope X.env pos' (newList []) false (eval iter X.env) use) Qf X.xe s := by
  have hfree : ∀ y ∈ scope.names, y.2 = .free → ∃ c, X.env.cells.lookup y.1 = some c := fun y hy e => by
    rcases ok.free y hy e with k | k
    · exact I.ok.has _ (.inl k)
    · exact I.ok.has _ (.inr k)
  refine wpAny_comprehension_free (use := use) rfl hs (closure_ok hfree) ok.kind (fun y hy e => by rw [ok.uniq y hy, e])
    (thn (hi.run pins s σ H _ I h) fun xv s1 hx => thn hx fun itv s2 h2 => ?_)
  obtain ⟨it, fp, tn, J, H2, e, I2, T, st2, f2, q⟩ := h2
  subst e
  refine wpAny_newObj_type (newEnv_comp ?_) (by show 0 ≤ sizeLine; decide)
  generalize hD : s2.heap.objs.size = D
  have hDn : H2 D = none := I2.hok.fresh (Nat.le_of_eq hD)
  have qt := q D hDn
  -- the new list
  generalize hs3 : ({ s2 with heap := s2.heap.push { cls := .type "list", data := .seq ([] : List Value).toArray } } : Shared) = s3
  have I3 : Inv X pins σ (upd H2 D (.lst [])) s3 := by
    rw [← hs3]
    refine I2.laid (t' := s2.toks) (fun b o e => Heap.get?_push_of_some _ e) (Nat.le_of_eq hD) ⟨Nat.zero_le _, [], 0, .nil, ?_⟩
    rw [← hD]
    exact Heap.get?_push_size _ rfl
  have h3 : s3.heap = s2.heap.push { cls := .type "list", data := .seq ([] : List Value).toArray } := by rw [← hs3]
  have sz : ∀ b ∈ fp, b < s2.heap.objs.size := fun b hb => by
    obtain ⟨o, e, _⟩ := T.obj _ _ st2 b hb
    exact Heap.lt_size e
  have f3 : ∀ b ∈ fp, FpOk X pins (upd H2 D (.lst [])) b ∧ b < s3.heap.objs.size := fun b hb => by
    have hlt := sz b hb
    refine ⟨⟨?_, (f2 b hb).2⟩, by rw [h3, Heap.size_push]; exact Nat.lt_succ_of_lt hlt⟩
    rw [upd_ne (by rw [← hD]; exact Nat.ne_of_lt hlt)]
    exact (f2 b hb).1
  have st3 : tn 0 s3.heap := T.keep _ _ _ st2 fun b _ o e => by rw [h3]; exact Heap.get?_push_of_some _ e
  have I4 := block_start I3 ok hN f3
  have pc := hp s3 (upd H2 D (.lst [])) s3.heap.objs.size (cellsFrom (s3.heap.objs.size + 1) scope.names (cloFrom X.env.cells scope.names [])) fp
  show codeAny _ _ (.compStart (.ListComp elt (⟨tg, iter, ifs, 0⟩ :: rest) scope pos) 0 (.ref it) (.ref D) (compEnvC scope (cellsFrom (s3.heap.objs.size + 1) scope.names (cloFrom X.env.cells scope.names [])) s3.heap.objs.size X.env)) (compPost (model X.prog X.w) X.A X.xe use Qf (.ref D) s3.heap.objs.size) { s3 with heap := pushCells (s3.heap.push { cls := .type "dict", data := .dict #[] }) scope.names }
  have nfp : ∀ b ∈ fp, (upd H2 D (.lst [])) b = none := fun b hb => (f3 b hb).1.1
  generalize hce : compEnvC scope (cellsFrom (s3.heap.objs.size + 1) scope.names (cloFrom X.env.cells scope.names [])) s3.heap.objs.size X.env = ce at I4 pc ⊢
  have cL : ce.locals = s3.heap.objs.size := by subst hce; rfl
  generalize hH3 : upd H2 D (.lst []) = H3 at I3 I4 pc nfp f3 qt
  generalize hs4 : ({ s3 with heap := pushCells (s3.heap.push { cls := .type "dict", data := .dict #[] }) scope.names } : Shared) = s4 at I4 ⊢
  have st4 : tn 0 s4.heap := T.keep _ _ _ st3 fun b _ o e => by rw [← hs4]; exact pushCells_keeps _ _ _ _ (Heap.get?_push_of_some _ e)
  have stat : ∀ b ∈ fp, FpOk (X.blk s3 H3 scope ce fp) [] H3 b := fun b hb =>
    ⟨nfp b hb, (I4.ok.exf b hb).1, I4.ok.exfs b hb, .inl hb, fun x c e => (I4.ok.exf b hb).2 x c e, fun p hp => absurd (show p ∈ ([] : List (Addr × Obj)) ++ [] from hp) (by simp)⟩
  have loop : codeAny (model X.prog X.w) X.A (.compLoop (.ListComp elt (⟨tg, iter, ifs, 0⟩ :: rest) scope pos) 0 (.ref it) (.ref D) ce) (compPost (model X.prog X.w) X.A X.xe use Qf (.ref D) s3.heap.objs.size) s4 := by
    refine pc.run [] s4 _ H3 D _ it fp tn J _ I4 T st4 stat qt fun s6 σ6 H6 I6 _ qq => ?_
    have I7 : Inv X pins σ H6 s6 := I3.call' (ch := fp) I6.os I6.base I6.hok I6.bare fun b hb => ⟨(f3 b hb).1.2.2.2.1, (f3 b hb).1.2.1, (f3 b hb).1.2.2.2.2.1, (f3 b hb).1.2.2.2.2.2⟩
    have nC : H6 s3.heap.objs.size = none := by
      have z : H6 ce.locals = none := I6.free
      rw [cL] at z
      exact z
    obtain ⟨m, hn, _⟩ := I6.loc
    have hn : s6.heap.Ns ce.locals m := hn
    rw [cL] at hn
    exact hRR D s3.heap.objs.size s6 m H6 I7 qq hn (I3.fpOk (Nat.le_refl _) nC)
  exact codeAny_compStart_list loop (T.self X.A 0 _ _ _ st4 loop)
/-- as a value -/
theorem pe_lcN {elt tg iter : Expr} {ifs : List Expr} {rest : List Comprehension} {scope : Scope} {own : List (Str × Nat)} {pos : Pos} {wi : TI} {t : It → Addr → L2.St → Hp → (Hp → Prop) → Prop} (hc : X.calm = true) (hN : X.N.Nodup) (hi : PI X tg iter wi) (ok : BlkOk X.N X.env.scope scope own)
    (hp : ∀ (s : Shared) (H : Hp) (C : Addr) (cl : List (Str × Addr)) (fp : List Addr), PCl (X.blk s H scope (compEnvC scope cl C X.env) fp) elt (⟨tg, iter, ifs, 0⟩ :: rest) scope pos 0 tg (own.map (·.2)) t) (hs : ∀ x, foldedSetIterable iter X.env x = pure x := by intro _; rfl) :
    PE X (.ListComp elt (⟨tg, iter, ifs, 0⟩ :: rest) scope pos) (tLcN wi t (own.map (·.2))) := by
  refine ⟨fun pins s σ H Q I h => ?_⟩
  rw [eval_ListComp]
  refine lcN_core hc hN I hi ok hp hs h fun D C s' m H' I' q hn f => ⟨m, hn, fun h'' sb => ?_⟩
  obtain ⟨f0, f1, f2, f3, f4, f5⟩ := f
  exact ⟨.ref D, H', I'.turned (t' := s'.toks) (fun b o hb e => (sb.2 b hb).trans e) f0 f1 f3 f4 f5, rfl, q⟩
/-- name = [..] -/
theorem ps_setLcN {i : Nat} {y : Str} {py : Pos} {elt tg iter : Expr} {ifs : List Expr} {rest : List Comprehension} {scope : Scope} {own : List (Str × Nat)} {pos spos : Pos} {wi : TI} {t : It → Addr → L2.St → Hp → (Hp → Prop) → Prop} (hc : X.calm = true) (hN : X.N.Nodup) (hy : X.N[i]? = some y) (hyl : X.env.scope.names.lookup y = some .local)
    (hsw : swapsWith (.ListComp elt (⟨tg, iter, ifs, 0⟩ :: rest) scope pos) (some (.Name y py)) spos.line X.env = pure true) (hi : PI X tg iter wi) (ok : BlkOk X.N X.env.scope scope own)
    (hp : ∀ (s : Shared) (H : Hp) (C : Addr) (cl : List (Str × Addr)) (fp : List Addr), PCl (X.blk s H scope (compEnvC scope cl C X.env) fp) elt (⟨tg, iter, ifs, 0⟩ :: rest) scope pos 0 tg (own.map (·.2)) t) (hs : ∀ x, foldedSetIterable iter X.env x = pure x := by intro _; rfl) :
    PS X (.Assign [.Name y py] (.ListComp elt (⟨tg, iter, ifs, 0⟩ :: rest) scope pos) spos) (tAsg (tLcN wi t (own.map (·.2))) (gName i)) := by
  refine ⟨fun pins s σ H D I h => ?_⟩
  rw [exec_Assign_Name_used _ _ _ _ hsw]
  refine wpAny_bind (wpAny_standAt (wpAny_bind ?_))
  show wpAny _ X.A (do let _ ← comprehension (.ListComp elt (⟨tg, iter, ifs, 0⟩ :: rest) scope pos) scope X.env (firstIterPos (⟨tg, iter, ifs, 0⟩ :: rest) pos) (newList []) false (eval iter X.env) (some (assign (.Name y py) X.env))) _ _ s
  have h : tLcN wi t (own.map (·.2)) σ H (fun x H1 => gName i x σ H1 D.nx) := h
  refine wpAny_bind (thn (lcN_core (Qf := fun _ s' => SP X pins D .next s') hc hN I hi ok hp hs h fun L C s' m H' I' q hn f => ?_) fun _ s' hq => wpAny_pure (wpAny_pure hq))
  show wpAny _ _ (assign (.Name y py) X.env (.ref L)) _ _ _
  refine wpAny_assign_Name (store_ok2 (v := V.ref L) I' hN hy (.inl hyl) rfl (fun s2 I2 ⟨a, sb, ha⟩ => ?_) (.inr hyl))
  obtain ⟨f0, f1, f2, f3, f4, f5⟩ := f
  have haC : C ≠ a := by
    rcases ha with z | z
    · rw [z]; exact f1
    · exact fun e => f4 y a z e.symm
  refine ⟨m, hn.sameBut sb haC, fun h3 sb3 => ?_⟩
  exact ⟨_, H', I2.turned (t' := s2.toks) (fun b o hb e => (sb3.2 b hb).trans e) f0 f1 f3 f4 f5, q⟩

/-- a clause's loop over a walk: Pv by the turn and the heap -/
theorem cl_it {J : It} {n : Nat} {G : Hp → Prop} {Yd : Nat → Hp → V → Hp → Prop} (w : Walk J n G Yd) {g : TG} {tt : TT} {vs : List Nat} {body : Addr → L2.St → Hp → (Hp → Prop) → Prop} {D : Addr} {σ : L2.St} {H : Hp} {Nx : Hp → Prop} (Pv : Nat → Hp → Prop) (h0 : Pv 0 H) (hG : ∀ i H, i ≤ n → Pv i H → G H)
    (hs : ∀ i x H H', i < n → Pv i H → Yd i H x H' → g x (wipe σ vs) H' fun σ2 H2 => wipe σ2 vs = wipe σ vs ∧ tt σ2 H2 fun b H3 => if b = true then body D σ2 H3 (Pv (i + 1)) else Pv (i + 1) H3) (hd : ∀ H, Pv n H → Nx H) :
    tCl g tt vs body J D σ H Nx := by
  refine ⟨fun i m H => m = n - i ∧ i ≤ n ∧ Pv i H, ⟨n, by simp, Nat.zero_le _, h0⟩, ?_⟩
  rintro i m H ⟨rfl, hi, p⟩
  have q := hG i H hi p
  by_cases hlt : i < n
  · exact .inr ⟨w.goes i H hlt q, Pv (i + 1), fun H' p' => ⟨n - (i + 1), by omega, rfl, hlt, p'⟩, fun x H' y => hs i x H H' hlt p (w.yields i H x H' hlt q y)⟩
  · have e : i = n := by omega
    subst e
    exact .inl ⟨w.stops H q, hd H p⟩
end Nf

set_option Elab.async false
set_option linter.all false
set_option maxRecDepth 100000
set_option maxHeartbeats 4000000
namespace Nf
open PySem PySem.Spec PyProof.Rows L2

/-! ### the built-ins that stand as they are -/
structure Blt (mg : Str → Option Value) : Prop where
  len : mg "len" = none
  all : mg "all" = none
  zip : mg "zip" = none
  set : mg "set" = none
  sorted : mg "sorted" = none
  enumerate : mg "enumerate" = none
  list : mg "list" = none
  tuple : mg "tuple" = none
  range : mg "range" = none
  isinstance : mg "isinstance" = none
  min : mg "min" = none
  max : mg "max" = none
  int : mg "int" = none
  bool : mg "bool" = none
  str : mg "str" = none

theorem two_le : 2 ≤ sizeLine := by decide
theorem five_le : 5 ≤ sizeLine := by decide
/-! ### heaps -/
/-- tuples stay -/
def SameT (H H' : Hp) : Prop := ∀ a xs, H a = some (.tup xs) → H' a = some (.tup xs)
theorem SameT.refl (H : Hp) : SameT H H := fun _ _ e => e
theorem SameT.trans {H H1 H2 : Hp} (a : SameT H H1) (b : SameT H1 H2) : SameT H H2 := fun _ _ e => b _ _ (a _ _ e)
theorem same_toT {H H' : Hp} (h : Same H H') : SameT H H' := fun a xs e => h a _ e
theorem same_new {H : Hp} {p : Addr} {o : HO} (h : H p = none) : Same H (upd H p o) := fun b x e => by
  rw [upd_ne (ne_of_none e h)]
  exact e
/-- what was not there before may change -/
theorem same_put {H H' : Hp} {p : Addr} {o : HO} (s : Same H H') (h : H p = none) : Same H (upd H' p o) := fun b x e => by
  rw [upd_ne (ne_of_none e h)]
  exact s _ _ e
theorem yesT {σ : L2.St} {H : Hp} {A B : Hp → Prop} (h : A H) : tYes σ H fun b H3 => if b = true then A H3 else B H3 := by
  show if true = true then A H else B H
  exact iteT h
/-- all but r stays -/
def Sx (r : Addr) (H H' : Hp) : Prop := ∀ b o, b ≠ r → H b = some o → H' b = some o
theorem Sx.refl (r : Addr) (H : Hp) : Sx r H H := fun _ _ _ e => e
theorem Sx.trans {r : Addr} {H H1 H2 : Hp} (a : Sx r H H1) (b : Sx r H1 H2) : Sx r H H2 := fun c o n e => b c o n (a c o n e)
theorem same_sx {r : Addr} {H H' : Hp} (h : Same H H') : Sx r H H' := fun b o _ e => h b o e
theorem Sx.upd {r : Addr} {H : Hp} {o : HO} : Sx r H (upd H r o) := fun b x n e => by
  rw [upd_ne n]
  exact e
theorem Sx.toT {r : Addr} {H H' : Hp} {xs : List V} (h : Sx r H H') (hr : H r = some (.lst xs)) : SameT H H' := fun a ys e => h a _ (ne_of e hr (by intro z; cases z)) e
theorem Sx.seq {K : PySem.W.Frag} {r a : Addr} {H H' : Hp} {xs : List V} (h : Sx r H H') (n : a ≠ r) (q : SqL K H a xs) : SqL K H' a xs := by
  rcases q with (q | ⟨o, q⟩) | q
  · exact .inl (.inl (h _ _ n q))
  · exact .inl (.inr ⟨o, h _ _ n q⟩)
  · exact .inr q

/-! ### the slots of a comprehension -/
theorem wipe_get {σ : L2.St} : ∀ {vs : List Nat} {j : Nat}, (wipe σ vs)[j]? = if j ∈ vs ∧ j < σ.length then some none else σ[j]?
  | [], j => by simp [wipe]
  | v :: vs, j => by
    unfold wipe
    by_cases h : v = j
    · subst h
      by_cases hl : v < σ.length
      · rw [List.getElem?_set_self (by rw [wipe_length]; exact hl), if_pos ⟨List.mem_cons_self, hl⟩]
      · rw [if_neg (fun z => hl z.2), List.getElem?_eq_none (by simp [wipe_length]; omega), List.getElem?_eq_none (by omega)]
    · rw [List.getElem?_set_ne h, wipe_get]
      have e : (j ∈ v :: vs ∧ j < σ.length) ↔ (j ∈ vs ∧ j < σ.length) := by
        simp only [List.mem_cons]
        constructor
        · rintro ⟨z | z, q⟩
          · exact absurd z.symm h
          · exact ⟨z, q⟩
        · rintro ⟨z, q⟩
          exact ⟨.inr z, q⟩
      simp only [e]
theorem wipe_eq {σ σ' : L2.St} {vs : List Nat} (hl : σ'.length = σ.length) (h : ∀ j, j ∉ vs → σ'[j]? = σ[j]?) : wipe σ' vs = wipe σ vs := by
  refine List.ext_getElem? fun j => ?_
  rw [wipe_get, wipe_get, hl]
  by_cases hj : j ∈ vs ∧ j < σ.length
  · rw [if_pos hj, if_pos hj]
  · rw [if_neg hj, if_neg hj]
    by_cases hm : j ∈ vs
    · have : ¬ j < σ.length := fun z => hj ⟨hm, z⟩
      rw [List.getElem?_eq_none (by omega), List.getElem?_eq_none (by omega)]
    · exact h j hm
theorem wipe_put {σ : L2.St} {vs : List Nat} {i : Nat} {x : Option V} (hi : i ∈ vs) : wipe ((wipe σ vs).set i x) vs = wipe σ vs := by
  refine wipe_eq (by rw [List.length_set, wipe_length]) fun j hj => ?_
  have ne : i ≠ j := by
    intro e
    exact hj (e ▸ hi)
  rw [List.getElem?_set_ne ne, wipe_get, if_neg fun z => hj z.1]
theorem wipe_put2 {σ : L2.St} {vs : List Nat} {i k : Nat} {x y : Option V} (hi : i ∈ vs) (hk : k ∈ vs) : wipe (((wipe σ vs).set i x).set k y) vs = wipe σ vs := by
  refine wipe_eq (by rw [List.length_set, List.length_set, wipe_length]) fun j hj => ?_
  have ne : i ≠ j := by
    intro e
    exact hj (e ▸ hi)
  have nk : k ≠ j := by
    intro e
    exact hj (e ▸ hk)
  rw [List.getElem?_set_ne nk, List.getElem?_set_ne ne, wipe_get, if_neg fun z => hj z.1]
/-! ### tables, rounds -/
def TabV (H : Hp) (x : V) (t : Tbl) : Prop := ∃ a, x = .ref a ∧ H a = some (.tup (t.map V.int))
def RndV (H : Hp) (x : V) (r : Rnd) : Prop := ∃ a xs, x = .ref a ∧ H a = some (.tup xs) ∧ Paired (TabV H) xs r
theorem TabV.mono {H H' : Hp} {x : V} {t : Tbl} (h : TabV H x t) (s : SameT H H') : TabV H' x t := by
  obtain ⟨a, e, q⟩ := h
  exact ⟨a, e, s _ _ q⟩
theorem paired_mono {α β : Type} {R R' : α → β → Prop} (f : ∀ a b, R a b → R' a b) : ∀ {xs : List α} {ys : List β}, Paired R xs ys → Paired R' xs ys
  | _, _, .nil => .nil
  | _, _, .cons r t => .cons (f _ _ r) (paired_mono f t)
theorem RndV.mono {H H' : Hp} {x : V} {r : Rnd} (h : RndV H x r) (s : SameT H H') : RndV H' x r := by
  obtain ⟨a, xs, e, q, p⟩ := h
  exact ⟨a, xs, e, s _ _ q, paired_mono (fun _ _ z => z.mono s) p⟩
def PairV (H : Hp) (x : V) (p : Int × Int) : Prop := ∃ a, x = .ref a ∧ H a = some (.tup [.int p.1, .int p.2])
theorem PairV.mono {H H' : Hp} {x : V} {t : Int × Int} (h : PairV H x t) (s : SameT H H') : PairV H' x t := by
  obtain ⟨a, e, q⟩ := h
  exact ⟨a, e, s _ _ q⟩
theorem paired_get {α β : Type} {R : α → β → Prop} : ∀ {xs : List α} {ys : List β} {i : Nat} {y : β}, Paired R xs ys → ys[i]? = some y → ∃ x, xs[i]? = some x ∧ R x y
  | _, _, i, y, .nil, e => by simp at e
  | _, _, 0, y, .cons r _, e => by
    have e' := Option.some.inj e
    subst e'
    exact ⟨_, rfl, r⟩
  | _, _, i + 1, y, .cons _ t, e => by
    obtain ⟨x, h1, h2⟩ := paired_get (i := i) (y := y) t (by simpa using e)
    exact ⟨x, by simpa using h1, h2⟩
theorem paired_getL {α β : Type} {R : α → β → Prop} : ∀ {xs : List α} {ys : List β} {i : Nat} {x : α}, Paired R xs ys → xs[i]? = some x → ∃ y, ys[i]? = some y ∧ R x y
  | _, _, i, y, .nil, e => by simp at e
  | _, _, 0, y, .cons r _, e => by
    have e' := Option.some.inj e
    subst e'
    exact ⟨_, rfl, r⟩
  | _, _, i + 1, y, .cons _ t, e => by
    obtain ⟨x, h1, h2⟩ := paired_getL (i := i) (x := y) t (by simpa using e)
    exact ⟨x, by simpa using h1, h2⟩
theorem paired_len {α β : Type} {R : α → β → Prop} : ∀ {xs : List α} {ys : List β}, Paired R xs ys → xs.length = ys.length
  | _, _, .nil => rfl
  | _, _, .cons _ t => by simp [paired_len t]
theorem paired_snoc {α β : Type} {R : α → β → Prop} {x : α} {y : β} : ∀ {xs : List α} {ys : List β}, Paired R xs ys → R x y → Paired R (xs ++ [x]) (ys ++ [y])
  | _, _, .nil, r => .cons r .nil
  | _, _, .cons q t, r => .cons q (paired_snoc t r)
theorem sqt_same {K : PySem.W.Frag} {H H' : Hp} {a : Addr} {xs : List V} (h : SqT K H a xs) (s : Same H H') : SqT K H' a xs := by
  rcases h with (h | ⟨o, h⟩) | h
  · exact .inl (.inl (s _ _ h))
  · exact .inl (.inr ⟨o, s _ _ h⟩)
  · exact .inr h
theorem getElem?_int {ns : List Int} {i : Nat} {x : V} (h : (ns.map V.int)[i]? = some x) : ∃ n, ns[i]? = some n ∧ x = .int n := by
  rw [List.getElem?_map] at h
  cases e : ns[i]? with
  | none =>
    rw [e] at h
    cases h
  | some n =>
    rw [e] at h
    exact ⟨n, rfl, (Option.some.inj h).symm⟩
theorem int_getElem? {ns : List Int} {i : Nat} {n : Int} (h : ns[i]? = some n) : (ns.map V.int)[i]? = some (.int n) := by
  rw [List.getElem?_map, h]
  rfl

/-! ### the script's row of draws -/
structure RowAt (K : PySem.W.Frag) (H : Hp) (r a : Addr) (ns : List Int) : Prop where
  sc : SqL K H a (ns.map V.int)
  ne : a ≠ r ∨ ∀ H2 : Hp, SqL K H2 a (ns.map V.int)
  row : ∃ i s c : Int, H r = some (.lst [.ref a, .int i, .int s, .int c]) ∧ 0 ≤ i ∧ 0 ≤ s ∧ s < 2147483647
theorem RowAt.keep {K : PySem.W.Frag} {H H' : Hp} {r a : Addr} {ns : List Int} (h : RowAt K H r a ns) (s : Same H H') : RowAt K H' r a ns := by
  obtain ⟨i, z, c, e, q⟩ := h.row
  exact ⟨s.seq h.sc, h.ne, i, z, c, s _ _ e, q⟩
/-- a row that was just laid -/
theorem RowAt.new {K : PySem.W.Frag} {H : Hp} {r a : Addr} {ns : List Int} (h : SqL K H a (ns.map V.int)) (n : H r = none) : RowAt K (upd H r (.lst [.ref a, .int 0, .int 0, .int 0])) r a ns := by
  refine ⟨(same_new n).seq h, ?_, 0, 0, 0, upd_same, by decide, by decide, by decide⟩
  rcases h with (h | ⟨o, h⟩) | h
  · exact .inl (ne_of_none h n)
  · exact .inl (ne_of_none h n)
  · exact .inr fun _ => .inr h
theorem RowAt.lst {K : PySem.W.Frag} {H : Hp} {r a : Addr} {ns : List Int} (h : RowAt K H r a ns) : ∃ xs, H r = some (.lst xs) := by
  obtain ⟨i, z, c, e, _⟩ := h.row
  exact ⟨_, e⟩
theorem RowAt.set {K : PySem.W.Frag} {H : Hp} {r a : Addr} {ns : List Int} (h : RowAt K H r a ns) {i s c : Int} (hi : 0 ≤ i) (h0 : 0 ≤ s) (h1 : s < 2147483647) : RowAt K (upd H r (.lst [.ref a, .int i, .int s, .int c])) r a ns :=
  ⟨h.ne.elim (fun n => Sx.upd.seq n h.sc) (fun z => z _), h.ne, i, s, c, upd_same, hi, h0, h1⟩
end Nf

set_option Elab.async false
set_option linter.all false
set_option maxRecDepth 100000
set_option maxHeartbeats 4000000
namespace Nf
open PySem PySem.Spec PyProof.Rows L2
/-! ### the text by places -/
def topS (i : Nat) : Stmt := PySem.Challenge.pw_newfaces_k01_what_is_wrong_with_a_plan.main.body.getD i (.Pass ⟨0, 0, 0, 0⟩)
abbrev sFault : Stmt := topS 4
abbrev sIsRound : Stmt := topS 5
abbrev sIsTable : Stmt := topS 6
abbrev sRises : Stmt := topS 7
abbrev sPairs : Stmt := topS 8
abbrev cParty : Stmt := topS 14
abbrev sInit : Stmt := inClass cParty 0
abbrev sGuests : Stmt := inClass cParty 1
abbrev sSize : Stmt := inClass cParty 2
abbrev sTables : Stmt := inClass cParty 3
abbrev sIsParty : Stmt := topS 15
abbrev lTaken : Stmt := topS 17
abbrev lAlike : Stmt := topS 18
abbrev lFew : Stmt := topS 19
abbrev lMany : Stmt := topS 20
abbrev lMixed : Stmt := topS 21
abbrev lSeated : Stmt := topS 22
abbrev lPairs : Stmt := topS 23
abbrev lKnown : Stmt := topS 24
abbrev lNew : Stmt := topS 25
abbrev lThin : Stmt := topS 26
abbrev lPlan : Stmt := topS 27
abbrev lIsRound : Stmt := topS 28
abbrev lSpoilt : Stmt := topS 29
abbrev lDue : Stmt := topS 30
abbrev lLaw : Stmt := topS 31
end Nf

set_option Elab.async false
set_option linter.all false
set_option maxRecDepth 100000
set_option maxHeartbeats 4000000
namespace Nf
open PySem PySem.Spec PyProof.Rows L2
/-! ### what is known of pairs, in a dict; a verdict as a value -/
def KnownD (H : Hp) (d : Addr) (kn : Known) (N : Nat) : Prop := ∃ kvs : List (List Key × V), H d = some (.dT kvs) ∧ kvs.length ≤ N ∧ ∀ a b : Int, valV kvs [Sum.inl a, Sum.inl b] = (kn a b).map fun k => V.int (k : Nat)
theorem knownD_same {H H' : Hp} {d : Addr} {kn : Known} {N : Nat} (h : KnownD H d kn N) (s : Same H H') : KnownD H' d kn N := by
  obtain ⟨kvs, e, q⟩ := h
  exact ⟨kvs, s _ _ e, q⟩
theorem knownD_new {H : Hp} {d : Addr} (h : H d = some (.dT [])) : KnownD H d k0 0 := ⟨[], h, Nat.le_refl _, fun _ _ => rfl⟩
theorem key2_ne {a b x y : Int} : (([Sum.inl a, Sum.inl b] : List Key) = [Sum.inl x, Sum.inl y]) ↔ (a = x ∧ b = y) := by
  constructor
  · intro h
    injection h with h1 h2
    injection h2 with h2 _
    exact ⟨Sum.inl.inj h1, Sum.inl.inj h2⟩
  · rintro ⟨rfl, rfl⟩
    rfl
/-- d[(x, y)] = k -/
theorem knownD_put {H : Hp} {d T : Addr} {kn : Known} {N : Nat} {x y : Int} {l : List (Int × Int)} {k : Nat} (h : KnownD H d (kaddL kn l k) N) (hT : H T = some (.tup [.int x, .int y])) (hN : N < sizeLine) :
    ∃ kvs', DPut H d (.ref T) (.int (k : Nat)) (upd H d (.dT kvs')) ∧ KnownD (upd H d (.dT kvs')) d (kaddL kn (l ++ [(x, y)]) k) (N + 1) := by
  obtain ⟨kvs, e, hl, hv⟩ := h
  refine ⟨putK kvs [Sum.inl x, Sum.inl y] (.int (k : Nat)), DPut.t (k := [Sum.inl x, Sum.inl y]) e hT (by omega), _, upd_same, ?_, fun a b => ?_⟩
  · have := length_putK kvs [Sum.inl x, Sum.inl y] (.int (k : Nat))
    omega
  · rw [valV_put, kaddL_snoc, hv]
    by_cases h : a = x ∧ b = y
    · rw [if_pos h, if_pos (key2_ne.mpr h)]
      rfl
    · rw [if_neg h, if_neg (fun z => h (key2_ne.mp z))]
def VerdV (H : Hp) (x : V) : Verd → Prop
  | .good => x = .non
  | .rnd k => ∃ q, x = .ref q ∧ H q = some (.tup [.str "round", .int (k : Nat)])
  | .twice a b j k => ∃ q, x = .ref q ∧ H q = some (.tup [.str "twice", .int a, .int b, .int (j : Nat), .int (k : Nat)])
def PlanV (K : PySem.W.Frag) (H : Hp) (l : Addr) (rs : List Rnd) : Prop := ∃ xs, SqL K H l xs ∧ Paired (RndV H) xs rs
theorem planV_same {K : PySem.W.Frag} {H H' : Hp} {l : Addr} {rs : List Rnd} (h : PlanV K H l rs) (s : Same H H') : PlanV K H' l rs := by
  obtain ⟨xs, e, q⟩ := h
  exact ⟨xs, s.seq e, paired_mono (fun _ _ z => z.mono (same_toT s)) q⟩
structure Small (rs : List Rnd) : Prop where
  n : rs.length ≤ 1000
  r : ∀ r ∈ rs, r.length ≤ 100000
  t : ∀ r ∈ rs, ∀ t ∈ r, t.length ≤ 100000
end Nf

set_option Elab.async false
set_option linter.all false
set_option maxRecDepth 100000
set_option maxHeartbeats 4000000
namespace Nf
open PySem PySem.Spec PyProof.Rows L2
/-! ### tables and rounds as data -/
def dT (t : Tbl) : PyData := .tuple (t.map .int)
theorem eqvInts : ∀ {xs ys : List Int}, PyData.eqvAll (xs.map .int) (ys.map .int) = true ↔ xs = ys
  | [], [] => by simp [PyData.eqvAll]
  | [], _ :: _ => by simp [PyData.eqvAll]
  | _ :: _, [] => by simp [PyData.eqvAll]
  | x :: xs, y :: ys => by
    have ih := eqvInts (xs := xs) (ys := ys)
    simp only [List.map_cons, PyData.eqvAll, PyData.eqv, Bool.and_eq_true, ih, beq_iff_eq, List.cons.injEq]
theorem eqvTabs : ∀ {xs ys : List Tbl}, PyData.eqvAll (xs.map dT) (ys.map dT) = true ↔ xs = ys
  | [], [] => by simp [PyData.eqvAll]
  | [], _ :: _ => by simp [PyData.eqvAll]
  | _ :: _, [] => by simp [PyData.eqvAll]
  | x :: xs, y :: ys => by
    have ih := eqvTabs (xs := xs) (ys := ys)
    simp only [List.map_cons, PyData.eqvAll, dT, PyData.eqv, Bool.and_eq_true, eqvInts, List.cons.injEq]
    have ih : PyData.eqvAll (xs.map dT) (ys.map dT) = true ↔ xs = ys := ih
    exact and_congr Iff.rfl ih
theorem eqvRnds : ∀ {xs ys : List Rnd}, PyData.eqvAll (xs.map fun r => .tuple (r.map dT)) (ys.map fun r => .tuple (r.map dT)) = true ↔ xs = ys
  | [], [] => by simp [PyData.eqvAll]
  | [], _ :: _ => by simp [PyData.eqvAll]
  | _ :: _, [] => by simp [PyData.eqvAll]
  | x :: xs, y :: ys => by
    have ih := eqvRnds (xs := xs) (ys := ys)
    simp only [List.map_cons, PyData.eqvAll, PyData.eqv, Bool.and_eq_true, eqvTabs, List.cons.injEq, ih]
theorem layInts : ∀ xs : List Int, PyData.canLayAll0 (xs.map .int) = true
  | [] => rfl
  | x :: xs => by simp [PyData.canLayAll0, PyData.canLay0, layInts xs]
theorem layTabs : ∀ xs : List Tbl, PyData.canLayAll0 (xs.map dT) = true
  | [] => rfl
  | x :: xs => by simp [PyData.canLayAll0, PyData.canLay0, layTabs xs, dT, layInts]
theorem layRnds : ∀ xs : List Rnd, PyData.canLayAll0 (xs.map fun r => .tuple (r.map dT)) = true
  | [] => rfl
  | x :: xs => by simp [PyData.canLayAll0, PyData.canLay0, layRnds xs, layTabs]
theorem depInts (xs : List Int) : PyData.depthAll (xs.map .int) = 0 := PySem.W.depth_ints xs
theorem depT (t : Tbl) : (dT t).depth ≤ 1 := by
  unfold dT
  simp [PyData.depth, depInts]
theorem depTabs : ∀ xs : List Tbl, PyData.depthAll (xs.map dT) ≤ 1
  | [] => by simp [PyData.depthAll]
  | x :: xs => by
    have := depTabs xs
    have := depT x
    simp only [List.map_cons, PyData.depthAll]
    omega
theorem depRnds : ∀ xs : List Rnd, PyData.depthAll (xs.map fun r => .tuple (r.map dT)) ≤ 2
  | [] => by simp [PyData.depthAll]
  | x :: xs => by
    have := depRnds xs
    have := depTabs x
    simp only [List.map_cons, PyData.depthAll, PyData.depth]
    omega
theorem shInts (xs : List Int) : SeqAt.shaped (.list (xs.map .int)) = true := by
  have h := depInts xs
  have l := layInts xs
  unfold SeqAt.shaped
  rw [Bool.and_eq_true]
  refine ⟨by simp [PyData.canLay0, l], decide_eq_true ?_⟩
  simp only [PyData.depth]
  omega
theorem shIntsT (xs : List Int) : SeqAt.shaped (.tuple (xs.map .int)) = true := by
  have h := depInts xs
  have l := layInts xs
  unfold SeqAt.shaped
  rw [Bool.and_eq_true]
  refine ⟨by simp [PyData.canLay0, l], decide_eq_true ?_⟩
  simp only [PyData.depth]
  omega
theorem shTabs (xs : List Tbl) : SeqAt.shaped (.list (xs.map dT)) = true := by
  have h := depTabs xs
  have l := layTabs xs
  unfold SeqAt.shaped
  rw [Bool.and_eq_true]
  refine ⟨by simp [PyData.canLay0, l], decide_eq_true ?_⟩
  simp only [PyData.depth]
  omega
theorem shRnds (xs : List Rnd) : SeqAt.shaped (.list (xs.map fun r => .tuple (r.map dT))) = true := by
  have h := depRnds xs
  have l := layRnds xs
  unfold SeqAt.shaped
  rw [Bool.and_eq_true]
  refine ⟨by simp [PyData.canLay0, l], decide_eq_true ?_⟩
  simp only [PyData.depth]
  omega
section
variable {K : PySem.W.Frag} {H : Hp}
theorem dpAll_ints : ∀ ns : List Int, DpAll K H (ns.map V.int) (ns.map .int)
  | [] => .nil
  | n :: ns => .cons (.int n) (dpAll_ints ns)
theorem dp_tab {x : V} {t : Tbl} (h : TabV H x t) : Dp K H x (dT t) := by
  obtain ⟨a, rfl, e⟩ := h
  exact .tup (SqT.of e) (dpAll_ints t)
theorem dpAll_of {β : Type} {R : V → β → Prop} {enc : β → PyData} (f : ∀ x b, R x b → Dp K H x (enc b)) : ∀ {xs : List V} {bs : List β}, Paired R xs bs → DpAll K H xs (bs.map enc)
  | _, _, .nil => .nil
  | _, _, .cons r t => .cons (f _ _ r) (dpAll_of f t)
theorem dp_rnd {x : V} {r : Rnd} (h : RndV H x r) : Dp K H x (.tuple (r.map dT)) := by
  obtain ⟨a, xs, rfl, e, p⟩ := h
  exact .tup (SqT.of e) (dpAll_of (fun _ _ z => dp_tab z) p)
theorem dp_lst {β : Type} {R : V → β → Prop} {enc : β → PyData} (f : ∀ x b, R x b → Dp K H x (enc b)) {a : Addr} {xs : List V} {bs : List β} (h : SqL K H a xs) (p : Paired R xs bs) : Dp K H (.ref a) (.list (bs.map enc)) := .lst h (dpAll_of f p)
end
/-! ### sorted -/
theorem dataLe_ints : PySem.W.dataLe false (fun i : Int => PyData.int i) = leI := PySem.W.dataLe_int fun i => i
theorem dataLe_tabs : PySem.W.dataLe false dT = leT := by
  funext p q
  show (!PySem.W.dataLt (.tuple (q.map .int)) (.tuple (p.map .int))) = _
  rw [PySem.W.dataLt_tuple]
  show (!PySem.W.rowLt (q.map .int) (p.map .int)) = _
  rw [PySem.W.dataLt_ints]
  unfold leT
  by_cases h : q < p
  · have h' : ¬ p ≤ q := fun z => (List.not_lt.mpr z) h
    simp [h, h']
  · have h' : p ≤ q := List.not_lt.mp h
    simp [h, h']
theorem alikeTabs (rs : List Tbl) : PySem.W.AllAlike (rs.map dT) := PySem.W.AllAlike.of fun b b' => by
  show PySem.W.alike (.tuple _) (.tuple _) = true
  simp [PySem.W.alike, PySem.W.alike_ints]
theorem alikeInts (ns : List Int) : PySem.W.AllAlike (ns.map fun i : Int => PyData.int i) := PySem.W.AllAlike.of fun b b' => by simp [PySem.W.alike]
section
variable {K : PySem.W.Frag} {H : Hp} {Q : VK} {a : Addr}
theorem paired_ints : ∀ ns : List Int, Paired (fun x (n : Int) => x = V.int n) (ns.map V.int) ns
  | [] => .nil
  | n :: ns => .cons rfl (paired_ints ns)
theorem ints_paired : ∀ {xs : List V} {ns : List Int}, Paired (fun x (n : Int) => x = V.int n) xs ns → xs = ns.map V.int
  | _, _, .nil => rfl
  | _, _, .cons r t => by
    rw [r, ints_paired t]
    rfl
theorem sort_ints {ns : List Int} (hl : SqL K H a (ns.map V.int) ∨ SqT K H a (ns.map V.int)) (q : ∀ p, H p = none → Q (.ref p) (upd H p (.lst ((sortI ns).map V.int)))) : rSortD K (fun i : Int => PyData.int i) [.ref a] H Q := by
  refine ⟨a, ns.map V.int, ns, fun x n => x = V.int n, rfl, hl, paired_ints ns, fun x b h => h ▸ .int b, alikeInts ns, PySem.W.Sortable.others fun b => ⟨(fun e => nomatch e), fun xs e => nomatch e⟩, fun b _ => by simp [PyData.depth], fun ys p hy hn => ?_⟩
  rw [dataLe_ints] at hy
  rw [ints_paired hy]
  exact q p hn
theorem sort_tabs {xs : List V} {r : Rnd} (hl : SqL K H a xs ∨ SqT K H a xs) (hp : Paired (TabV H) xs r) (hn : ∀ t ∈ r, t ≠ []) (q : ∀ ys p, H p = none → Paired (TabV H) ys (sortT r) → Q (.ref p) (upd H p (.lst ys))) : rSortD K dT [.ref a] H Q := by
  refine ⟨a, xs, r, TabV H, rfl, hl, hp, fun x b h => dp_tab h, alikeTabs r, .inl fun d hd => ?_, fun b _ => Nat.le_trans (depT b) (by decide), fun ys p hy hn => ?_⟩
  · obtain ⟨t, ht, rfl⟩ := List.mem_map.mp hd
    cases t with
    | nil => exact absurd rfl (hn _ ht)
    | cons x t => exact ⟨_, _, rfl⟩
  · rw [dataLe_tabs] at hy
    exact q ys p hn hy
end
/-! ### what was not there before may change -/
theorem sx_put {r c : Addr} {H H4 : Hp} {o : HO} (s : Sx r H H4) (hc : H c = none) : Sx r H (upd H4 c o) := fun b x n e => by
  rw [upd_ne (ne_of_none e hc)]
  exact s b x n e
theorem row_put {K : PySem.W.Frag} {H H4 : Hp} {r a c : Addr} {ns : List Int} {o : HO} (R0 : RowAt K H r a ns) (hc : H c = none) (R4 : RowAt K H4 r a ns) : RowAt K (upd H4 c o) r a ns := by
  obtain ⟨i, z, x, e, q⟩ := R4.row
  obtain ⟨xr, hxr⟩ := R0.lst
  refine ⟨?_, R4.ne, i, z, x, by rw [upd_ne (ne_of_none hxr hc)]; exact e, q⟩
  have go : a ≠ c → SqL K (upd H4 c o) a (ns.map V.int) := fun n => by
    rcases R4.sc with (h | ⟨ob, h⟩) | h
    · exact .inl (.inl (by rw [upd_ne n]; exact h))
    · exact .inl (.inr ⟨ob, by rw [upd_ne n]; exact h⟩)
    · exact .inr h
  rcases R0.sc with (h | ⟨ob, h⟩) | h
  · exact go (ne_of_none h hc)
  · exact go (ne_of_none h hc)
  · exact .inr h
theorem perm_erase : ∀ {l : List Int} {i : Nat} (h : i < l.length), (l[i] :: l.eraseIdx i).Perm l
  | [], _, h => by simp at h
  | x :: l, 0, _ => .refl _
  | x :: l, i + 1, h => by
    have ih := perm_erase (l := l) (i := i) (by simpa using h)
    show (l[i]'(by simpa using h) :: x :: l.eraseIdx i).Perm (x :: l)
    exact (List.Perm.swap _ _ _).trans (ih.cons x)
end Nf

set_option Elab.async false
set_option linter.all false
set_option maxRecDepth 100000
set_option maxHeartbeats 4000000
namespace Nf
open PySem PySem.Spec PyProof.Rows L2
variable {P : Program} {w : World} {K : PySem.W.Frag} {mg : Str → Option Value} {base : Heap}
theorem scTaken : FnScope ["_law_row", "_law_many_here", "_law_found", "_law_cell"] ["_law_row", "_law_many_here"] (defScope lTaken) := ⟨rfl, rfl, rfl, by decide +kernel, rfl, by decide +kernel, by decide +kernel⟩
def spTaken (K : PySem.W.Frag) : Sp := fun vs H Q _ => ∃ (r a : Addr) (ns : List Int) (n : Int), vs = [.ref r, .int n] ∧ RowAt K H r a ns ∧ 0 < n ∧ n < 1073741824 ∧
  ∀ v H', 0 ≤ v → v < n → RowAt K H' r a ns → Sx r H H' → Q (.int v) H'
theorem ok_taken {f : Addr} {fd : FuncData} (F : Fun K "_law_taken" "_law_taken" lTaken f fd) (B : Blt mg) : FnOk P w K mg base CX0 1 f fd ["_law_row", "_law_many_here"] (spTaken K) := by
  refine F.ok scTaken (fun vs H Q E h => ?_) (fun cdv A outer s H vs Q E hr h => ?_)
  · obtain ⟨r, a, ns, n, rfl, _⟩ := h
    rfl
  · obtain ⟨r, a, ns, n, rfl, hR, hn0, hn1, q⟩ := h
    refine ⟨_, pss_cons (ps_if (pt_cmpR op_gt (pe_ix ix_list (pv 0) pe_int (fun _ _ => rfl)) pe_int (nomark _))
        (pss_cons (ps_set (i := 2) scTaken.nd rfl (.inl rfl) (pe_op op_mod (pe_ix ix_list (pv 0) pe_int (fun _ _ => rfl)) (pv 1)))
        (pss_cons (ps_asg (pe_op op_fdiv (pe_ix ix_list (pv 0) pe_int (fun _ _ => rfl)) (pv 1)) (pg_sub (pv 0) pe_int set_list))
        (pss_one (ps_ret (pv 2))))) pss_nil)
      (pss_cons (ps_asg (pe_op op_add (pe_ix ix_list (pv 0) pe_int (fun _ _ => rfl)) pe_int) (pg_sub (pv 0) pe_int set_list))
      (pss_cons (ps_if (pt_cmpR op_gt (pe_ix ix_list (pv 0) pe_int (fun _ _ => rfl)) (pe_callB call_len_seq (by rfl) B.len PySem.boot_len (pa_cons (pe_ix ix_list (pv 0) pe_int (fun _ _ => rfl)) pa_nil)) (nomark _))
        (pss_cons (ps_asg (pe_op op_mod (pe_op op_add (pe_op op_mul (pe_ix ix_list (pv 0) pe_int (fun _ _ => rfl)) pe_int) pe_int) pe_int) (pg_sub (pv 0) pe_int set_list))
        (pss_one (ps_ret (pe_op op_mod (pe_op op_fdiv (pe_ix ix_list (pv 0) pe_int (fun _ _ => rfl)) pe_int) (pv 1))))) pss_nil)
      (pss_cons (ps_set (i := 3) scTaken.nd rfl (.inl rfl) (pe_ix ix_list (pe_ix ix_list (pv 0) pe_int (fun _ _ => rfl)) (pe_op op_sub (pe_ix ix_list (pv 0) pe_int (fun _ _ => rfl)) pe_int) (fun _ _ => rfl)))
      (pss_cons (ps_asg (pe_op op_mod (pe_op op_add (pe_op op_add (pe_op op_mul (pe_ix ix_list (pv 0) pe_int (fun _ _ => rfl)) pe_int) (pv 3)) pe_int) pe_int) (pg_sub (pv 0) pe_int set_list))
      (pss_cons (ps_asg (pe_ifExp (pt_cmpR op_ge (pv 3) (pe_op op_pow pe_int pe_int) (nomark _)) (pe_op op_fdiv (pv 3) (pv 1)) pe_int) (pg_sub (pv 0) pe_int set_list))
      (pss_one (ps_ret (pe_op op_mod (pv 3) (pv 1))))))))), ?_⟩
    obtain ⟨i, z, c, hrow, hi0, hz0, hz1⟩ := hR.row
    have hS : SqL K H r [.ref a, .int i, .int z, .int c] := SqL.of hrow
    -- row[3] > 0
    refine ⟨.ref r, rfl, r, _, 3, _, rfl, rfl, hS, rfl, _, _, rfl, rfl, _, rfl, ite2 (fun hc => ?_) (fun hc => ?_)⟩
    · refine ⟨.ref r, rfl, r, _, 3, _, rfl, rfl, hS, rfl, .int n, rfl, _, _, rfl, rfl, hn0, ?_⟩
      refine ⟨.ref r, rfl, r, _, 3, _, rfl, rfl, hS, rfl, .int n, rfl, _, _, rfl, rfl, ⟨hn0, hn1⟩, ?_⟩
      refine ⟨.ref r, rfl, r, _, 3, 3, rfl, rfl, hrow, rfl, ?_⟩
      refine ⟨_, rfl, ?_⟩
      exact q _ _ (Int.emod_nonneg _ (by omega)) (Int.emod_lt_of_pos _ hn0) (hR.set hi0 hz0 hz1) Sx.upd
    · -- row[1] = row[1] + 1
      refine ⟨.ref r, rfl, r, _, 1, _, rfl, rfl, hS, rfl, _, _, rfl, rfl, .ref r, rfl, r, _, 1, 1, rfl, rfl, hrow, rfl, ?_⟩
      have R1 : RowAt K (upd H r (.lst [.ref a, .int (i + 1), .int z, .int c])) r a ns := hR.set (by omega) hz0 hz1
      have S1 : SqL K (upd H r (.lst [.ref a, .int (i + 1), .int z, .int c])) r [.ref a, .int (i + 1), .int z, .int c] := SqL.of upd_same
      -- row[1] > len(row[0])
      refine ⟨.ref r, rfl, r, _, 1, _, rfl, rfl, S1, rfl, .ref r, rfl, r, _, 0, _, rfl, rfl, S1, rfl, a, _, rfl, .inl R1.sc, _, _, rfl, rfl, _, rfl, ite2 (fun hl => ?_) (fun hl => ?_)⟩
      · refine ⟨.ref r, rfl, r, _, 2, _, rfl, rfl, S1, rfl, _, _, rfl, rfl, .inl ⟨by omega, by omega⟩, _, _, rfl, rfl, _, _, rfl, rfl, (by show (0 : Int) < 2147483647; decide), ?_⟩
        refine ⟨.ref r, rfl, r, _, 2, 2, rfl, rfl, upd_same, rfl, ?_⟩
        refine ⟨.ref r, rfl, r, _, 2, _, rfl, rfl, SqL.of upd_same, rfl, _, _, rfl, rfl, ⟨by decide, by decide⟩, .int n, rfl, _, _, rfl, rfl, hn0, ?_⟩
        rw [upd_upd]
        exact q _ _ (Int.emod_nonneg _ (by omega)) (Int.emod_lt_of_pos _ hn0) (hR.set (by omega) (Int.emod_nonneg _ (by decide)) (Int.emod_lt_of_pos _ (by decide))) Sx.upd
      · have hlt : i.toNat < ns.length := by
          have h2 : ¬ ((((ns.map V.int).length : Nat) : Int) < i + 1) := fun z => hl (decide_eq_true z)
          rw [List.length_map] at h2
          omega
        refine ⟨.ref r, rfl, r, _, 0, _, rfl, rfl, S1, rfl, .ref r, rfl, r, _, 1, _, rfl, rfl, S1, rfl, _, _, rfl, rfl, a, _, _, .int ns[i.toNat], rfl, rfl, R1.sc, ?_, ?_⟩
        · have e : i + 1 - 1 = ((i.toNat : Nat) : Int) := by omega
          rw [e]
          exact atI_nat (int_getElem? (List.getElem?_eq_getElem hlt))
        -- row[2] = ..
        refine ⟨.ref r, rfl, r, _, 2, _, rfl, rfl, S1, rfl, _, _, rfl, rfl, .inl ⟨by omega, by omega⟩, .int ns[i.toNat], rfl, _, _, rfl, rfl, _, _, rfl, rfl, _, _, rfl, rfl, (by show (0 : Int) < 2147483647; decide), ?_⟩
        refine ⟨.ref r, rfl, r, _, 2, 2, rfl, rfl, upd_same, rfl, ?_⟩
        rw [upd_upd]
        -- row[3] = ..
        refine ⟨.int ns[i.toNat], rfl, _, _, rfl, rfl, ⟨by decide, by decide, by decide⟩, _, _, rfl, rfl, _, rfl, ite2 (fun hb => ?_) (fun hb => ?_)⟩
        · refine ⟨.int ns[i.toNat], rfl, .int n, rfl, _, _, rfl, rfl, ⟨hn0, hn1⟩, .ref r, rfl, r, _, 3, 3, rfl, rfl, upd_same, rfl, ?_⟩
          refine ⟨.int ns[i.toNat], rfl, .int n, rfl, _, _, rfl, rfl, hn0, ?_⟩
          rw [upd_upd]
          exact q _ _ (Int.emod_nonneg _ (by omega)) (Int.emod_lt_of_pos _ hn0) (hR.set (by omega) (Int.emod_nonneg _ (by decide)) (Int.emod_lt_of_pos _ (by decide))) Sx.upd
        · refine ⟨.ref r, rfl, r, _, 3, 3, rfl, rfl, upd_same, rfl, ?_⟩
          refine ⟨.int ns[i.toNat], rfl, .int n, rfl, _, _, rfl, rfl, hn0, ?_⟩
          rw [upd_upd]
          exact q _ _ (Int.emod_nonneg _ (by omega)) (Int.emod_lt_of_pos _ hn0) (hR.set (by omega) (Int.emod_nonneg _ (by decide)) (Int.emod_lt_of_pos _ (by decide))) Sx.upd
end Nf

set_option Elab.async false
set_option linter.all false
set_option maxRecDepth 100000
set_option maxHeartbeats 4000000
namespace Nf
open PySem PySem.Spec PyProof.Rows L2
variable {P : Program} {w : World} {K : PySem.W.Frag} {mg : Str → Option Value} {base : Heap}
/-! ### rises -/
theorem cut1 (xs : List V) : cutV xs (some 1) none = xs.drop 1 := by
  unfold cutV
  rw [show HT.sIx xs.length 0 (some 1) = min 1 xs.length from HT.sIx_nat xs.length 0 1, HT.sIx_none]
  cases xs with
  | nil => rfl
  | cons x r =>
    rw [show min 1 (x :: r).length = 1 by
      rw [List.length_cons]
      omega]
    show (List.take ((x :: r).length - 1) r) = r
    rw [List.length_cons, Nat.add_sub_cancel]
    exact List.take_length
def upB (ns : Tbl) : List Bool := (ns.zip (ns.drop 1)).map fun p => decide (p.1 < p.2)
theorem upB_rises (ns : Tbl) : (upB ns).all id = rises ns := by
  unfold upB rises
  rw [List.all_map]
  rfl
theorem upB_len (ns : Tbl) : (upB ns).length = min (ns.map V.int).length ((ns.map V.int).drop 1).length := by
  simp [upB]
theorem upB_at {ns : Tbl} {i : Nat} {x y : Int} (h1 : ns[i]? = some x) (h2 : (ns.drop 1)[i]? = some y) : (upB ns)[i]? = some (decide (x < y)) := by
  unfold upB
  rw [List.getElem?_map, List.getElem?_zip_eq_some (z := (x, y)) |>.mpr ⟨h1, h2⟩]
  rfl
theorem scRises : FnScope ["numbers", "low", "high"] ["numbers"] (defScope sRises) := ⟨rfl, rfl, rfl, by decide +kernel, rfl, by decide +kernel, by decide +kernel⟩
def spRises (K : PySem.W.Frag) : Sp := fun vs H Q _ => ∃ (a : Addr) (ns : List Int), vs = [.ref a] ∧ (SqL K H a (ns.map V.int) ∨ SqT K H a (ns.map V.int)) ∧ ns.length ≤ 100000 ∧ ∀ H', Same H H' → Q (.bl (rises ns)) H'
theorem ok_rises {f : Addr} {fd : FuncData} (F : Fun K "rises" "rises" sRises f fd) (B : Blt mg) : FnOk P w K mg base CX0 1 f fd ["numbers"] (spRises K) := by
  refine F.ok scRises (fun vs H Q E h => ?_) (fun cdv A outer s H vs Q E hr h => ?_)
  · obtain ⟨a, ns, rfl, _⟩ := h
    rfl
  · obtain ⟨a, ns, rfl, hS, hlen, q⟩ := h
    refine ⟨_, pss_one (ps_ret (pe_callB (cr_all rfl) (by rfl) B.all (by decide +kernel) (pa_cons
      (pe_lc (own := [("low", 1), ("high", 2)]) (g := gTup K 2 (gCons (gName 1) (gCons (gName 2) gNil))) (tt := tYes) (te := tOp (rI0 fun i j => .bl (decide (i < j))) (tVar 1) (tVar 2)) (by rfl) scRises.nd (RZ.pi_zipA (by rfl) B.zip (pa_cons (pv 0) (pa_cons (pe_slice (SlR.or sl_list sl_tupA) (pv 0) (po_some pe_int) po_none) pa_nil)))
        (blkOk_by (N := ["numbers", "low", "high"]) (sc := defScope sRises) (by decide +kernel)) (fun _ _ _ _ _ => pg_tup rfl (pgs_cons (pg_name (i := 1) (x := "low") scRises.nd rfl (.inl rfl) (.inr rfl)) (pgs_cons (pg_name (i := 2) (x := "high") scRises.nd rfl (.inl rfl) (.inr rfl)) pgs_nil)))
        (fun _ _ _ _ _ => pts_nil) (fun _ _ _ _ _ => pe_cmpR op_lt (pv 1) (pv 2) (nomark _))) pa_nil))), ?_⟩
    -- one turn, whatever is walked
    have turn : ∀ (H1 : Hp) (D : Addr) (i : Nat) (x : V) (H2 H3 : Hp), H1 D = none → i < (upB ns).length → (Same H1 H2 ∧ H2 D = some (.lst (((upB ns).take i).map V.bl))) → YPair (fun i => (ns.map V.int)[i]?) (fun i => ((ns.map V.int).drop 1)[i]?) i H2 x H3 →
        gTup K 2 (gCons (gName 1) (gCons (gName 2) gNil)) x (wipe [some (.ref a), none, none] [1, 2]) H3 fun σ2 H2 => wipe σ2 [1, 2] = wipe [some (.ref a), none, none] [1, 2] ∧ tYes σ2 H2 fun b H3 =>
          if b = true then tOp (rI0 fun i j => .bl (decide (i < j))) (tVar 1) (tVar 2) σ2 H3 fun y H4 => ∃ acc, H4 D = some (.lst acc) ∧ acc.length < sizeLine ∧ (Same H1 (upd H4 D (.lst (acc ++ [y]))) ∧ (upd H4 D (.lst (acc ++ [y]))) D = some (.lst (((upB ns).take (i + 1)).map V.bl)))
          else (Same H1 H3 ∧ H3 D = some (.lst (((upB ns).take (i + 1)).map V.bl))) := fun H1 D i x H2 H3 hDn hi p y => by
      obtain ⟨T, y1, y2, rfl, hT, rfl, g1, g2⟩ := y
      obtain ⟨n1, e1, rfl⟩ := getElem?_int g1
      rw [← List.map_drop] at g2
      obtain ⟨n2, e2, rfl⟩ := getElem?_int g2
      obtain ⟨sm, hD⟩ := p
      have nDT : D ≠ T := ne_of_none hD hT
      refine ⟨T, _, rfl, SqT.of upd_same, rfl, _, _, rfl, _, _, rfl, ⟨rfl, rfl, yesT ⟨_, rfl, _, rfl, n1, n2, rfl, rfl, _, (upd_ne nDT).trans hD, ?_, same_put (sm.trans (same_new hT)) hDn, ?_⟩⟩⟩
      · rw [List.length_map, List.length_take]
        have := upB_len ns
        simp only [List.length_map, List.length_drop] at this
        have hz : (100000 : Nat) < sizeLine := by decide
        omega
      · rw [upd_same, takeSucc (upB_at e1 e2), List.map_append]
        rfl
    have fin : ∀ (D : Addr) (H2 : Hp), Same H H2 → H2 D = some (.lst (((upB ns).take (upB ns).length).map V.bl)) → rAll K [.ref D] H2 Q := fun D H2 sm hD => by
      refine ⟨D, upB ns, rfl, SqL.of ?_, ?_⟩
      · rw [List.take_of_length_le (Nat.le_refl _)] at hD
        exact hD
      · rw [upB_rises]
        exact q _ sm
    rcases hS with hS | hS
    · refine ⟨.ref a, rfl, .ref a, rfl, 1, rfl, .inl ⟨a, _, rfl, hS, fun c nc => ?_⟩⟩
      have s1 := same_new (o := .lst (cutV (ns.map V.int) (some 1) none)) nc
      refine ⟨a, c, ns.map V.int, _, rfl, .inl ⟨s1.seq hS, SqL.of upd_same, fun D nD => ?_⟩⟩
      rw [cut1] at *
      exact lc_it (walk_zip (upB_len ns)) (fun i H2 => Same _ H2 ∧ H2 D = some (.lst (((upB ns).take i).map V.bl))) ⟨same_new nD, upd_same⟩ (fun i H2 _ p => ⟨p.1.seq (s1.seq hS), p.1.seq (SqL.of upd_same)⟩) (fun i x H2 H3 hi p y => turn _ D i x H2 H3 nD hi p y) (fun H2 p => fin D H2 (s1.trans p.1) p.2)
    · refine ⟨.ref a, rfl, .ref a, rfl, 1, rfl, .inr ⟨a, _, rfl, hS, fun hw => ?_, fun hw c nc => ?_⟩⟩
      · have e0 : (ns.map V.int).drop 1 = ns.map V.int := by
          have := hw.1
          rw [show HT.sIx (ns.map V.int).length 0 (some 1) = min 1 (ns.map V.int).length from HT.sIx_nat _ 0 1] at this
          cases ns with
          | nil => rfl
          | cons x r =>
            rw [List.length_map, List.length_cons] at this
            omega
        refine ⟨a, a, ns.map V.int, ns.map V.int, rfl, .inr ⟨hS, hS, fun D nD => ?_⟩⟩
        exact lc_it (Nf.walk_zipT (upB_len ns)) (fun i H2 => Same _ H2 ∧ H2 D = some (.lst (((upB ns).take i).map V.bl))) ⟨same_new nD, upd_same⟩ (fun i H2 _ p => ⟨sqt_same hS p.1, by rw [e0]; exact sqt_same hS p.1⟩) (fun i x H2 H3 hi p y => turn _ D i x H2 H3 nD hi p y) (fun H2 p => fin D H2 p.1 p.2)
      · have s1 := same_new (o := .tup (cutV (ns.map V.int) (some 1) none)) nc
        refine ⟨a, c, ns.map V.int, _, rfl, .inr ⟨sqt_same hS s1, SqT.of upd_same, fun D nD => ?_⟩⟩
        rw [cut1] at *
        exact lc_it (Nf.walk_zipT (upB_len ns)) (fun i H2 => Same _ H2 ∧ H2 D = some (.lst (((upB ns).take i).map V.bl))) ⟨same_new nD, upd_same⟩ (fun i H2 _ p => ⟨sqt_same (sqt_same hS s1) p.1, sqt_same (SqT.of upd_same) p.1⟩) (fun i x H2 H3 hi p y => turn _ D i x H2 H3 nD hi p y) (fun H2 p => fin D H2 (s1.trans p.1) p.2)
end Nf

set_option Elab.async false
set_option linter.all false
set_option maxRecDepth 100000
set_option maxHeartbeats 4000000
namespace Nf
open PySem PySem.Spec PyProof.Rows L2
variable {P : Program} {w : World} {K : PySem.W.Frag} {mg : Str → Option Value} {base : Heap}
/-! ### pairs -/
theorem cutFrom (xs : List V) (j : Nat) : cutV xs (some ((j : Nat) : Int)) none = xs.drop j := by
  unfold cutV
  rw [HT.sIx_nat xs.length 0 j, HT.sIx_none]
  by_cases h : j ≤ xs.length
  · rw [Nat.min_eq_left h]
    exact List.take_of_length_le (by simp)
  · rw [Nat.min_eq_right (by omega), List.drop_of_length_le (Nat.le_refl _), List.drop_of_length_le (by omega)]
    simp
/-- so far: the list at D holds ps, the rest is to come -/
def PrI (H : Hp) (D : Addr) (r : Rnd) (H2 : Hp) (rem : List (Int × Int)) : Prop := Same H H2 ∧ ∃ acc ps, H2 D = some (.lst acc) ∧ Paired (PairV H2) acc ps ∧ ps ++ rem = pairsR r
theorem PrI.keep {H H2 H3 : Hp} {D : Addr} {r : Rnd} {rem : List (Int × Int)} (h : PrI H D r H2 rem) (s : Same H2 H3) : PrI H D r H3 rem := by
  obtain ⟨h1, acc, ps, h2, h3, h4⟩ := h
  exact ⟨h1.trans s, acc, ps, s _ _ h2, paired_mono (fun _ _ z => z.mono (same_toT s)) h3, h4⟩
theorem PrI.rem {H H2 : Hp} {D : Addr} {r : Rnd} {rem rem' : List (Int × Int)} (h : PrI H D r H2 rem) (e : rem = rem') : PrI H D r H2 rem' := e ▸ h
theorem dataLe_pairs : PySem.W.dataLe false (fun p : Int × Int => PyData.tuple [.int p.1, .int p.2]) = leP := PySem.W.dataLe_ii (fun p : Int × Int => p.1) (fun p => p.2)
theorem dp_pair {H : Hp} {x : V} {p : Int × Int} (h : PairV H x p) : Dp K H x (.tuple [.int p.1, .int p.2]) := by
  obtain ⟨a, rfl, e⟩ := h
  exact .tup (SqT.of e) (.cons (.int _) (.cons (.int _) .nil))
theorem sort_pairs {H : Hp} {Q : VK} {a : Addr} {acc : List V} {ps : List (Int × Int)} (hl : H a = some (.lst acc)) (hp : Paired (PairV H) acc ps) (q : ∀ ys p, H p = none → Paired (PairV H) ys (sortP ps) → Q (.ref p) (upd H p (.lst ys))) :
    rSortD K (fun p : Int × Int => PyData.tuple [.int p.1, .int p.2]) [.ref a] H Q := by
  refine ⟨a, acc, ps, PairV H, rfl, .inl (SqL.of hl), hp, fun x b h => dp_pair h, PySem.W.AllAlike.of fun b b' => by simp [PySem.W.alike, PySem.W.alikeAll], PySem.W.Sortable.tuples fun b => ⟨_, _, rfl⟩, fun b _ => by simp [PyData.depth, PyData.depthAll], fun ys p hy hn => ?_⟩
  rw [dataLe_pairs] at hy
  exact q ys p hn hy
theorem scPairs : FnScope ["tables", "table", "at", "a", "b"] ["tables"] (defScope sPairs) := ⟨rfl, rfl, rfl, by decide +kernel, rfl, by decide +kernel, by decide +kernel⟩
def spPairs : Sp := fun vs H Q _ => ∃ (x : V) (r : Rnd), vs = [x] ∧ RndV H x r ∧ (pairsR r).length ≤ 100000 ∧
  ∀ H' q ys, Same H H' → H q = none → H' q = some (.lst ys) → Paired (PairV H') ys (sortP (pairsR r)) → Q (.ref q) H'
theorem ok_pairs {f : Addr} {fd : FuncData} (F : Fun K "pairs" "pairs" sPairs f fd) (B : Blt mg) : FnOk P w K mg base CX0 1 f fd ["tables"] spPairs := by
  refine F.ok scPairs (fun vs H Q E h => ?_) (fun cdv A outer s H vs Q E hr h => ?_)
  · obtain ⟨x, r, rfl, _⟩ := h
    rfl
  · obtain ⟨x, r, rfl, ⟨p, xs, rfl, hp, hxs⟩, hlen, q⟩ := h
    refine ⟨_, pss_one (ps_ret (pe_callB (cr_sortD (fun p : Int × Int => PyData.tuple [.int p.1, .int p.2]) hr.units) (by rfl) B.sorted (by decide +kernel) (pa_cons
      (pe_lcN (own := [("table", 1), ("at", 2), ("a", 3), ("b", 4)]) (wi := iTup K (tVar 0))
        (t := tCl (gName 1) tYes [1, 2, 3, 4] (bMid (iEnumT K (tCons (tVar 1) tNil)) (tCl (gTup K 2 (gCons (gName 2) (gCons (gName 3) gNil))) tYes [2, 3, 4]
          (bMid (iTup K (tSl (rSlA K) (tVar 1) (tPart (tOp (rI0 fun i j => .int (i + j)) (tVar 2) (tC (.int 1)))) tNoPart)) (tCl (gName 4) tYes [4] (bLast (tTup (tCons (tVar 3) (tCons (tVar 4) tNil)))))))))
        rfl scPairs.nd (pi_tup (pv 0)) (blkOk_by (N := ["tables", "table", "at", "a", "b"]) (sc := defScope sPairs) (by decide +kernel))
        (fun _ _ _ _ _ => pcl_mid rfl rfl rfl rfl (by decide) (pg_name (i := 1) (x := "table") scPairs.nd rfl (.inl rfl) (.inr rfl)) pts_nil (pi_enumT (by rfl) B.enumerate (pa_cons (pv 1) pa_nil)) (by intro _; rfl)
          (pcl_mid rfl rfl rfl rfl (by decide) (pg_tup rfl (pgs_cons (pg_name (i := 2) (x := "at") scPairs.nd rfl (.inl rfl) (.inr rfl)) (pgs_cons (pg_name (i := 3) (x := "a") scPairs.nd rfl (.inl rfl) (.inr rfl)) pgs_nil))) pts_nil
            (pi_tup (pe_slice sl_tupA (pv 1) (po_some (pe_op op_add (pv 2) pe_int)) po_none)) (by intro _; rfl)
            (pcl_last rfl rfl rfl rfl (pg_name (i := 4) (x := "b") scPairs.nd rfl (.inl rfl) (.inr rfl)) pts_nil (pe_tup (pa_cons (pv 3) (pa_cons (pv 4) pa_nil))))))) pa_nil))), ?_⟩
    refine ⟨.ref p, rfl, p, rfl, ⟨_, SqT.of hp⟩, fun D nD => ?_⟩
    have s0 : Same H (upd H D (.lst [])) := same_new nD
    show tCl (gName 1) tYes [1, 2, 3, 4] _ _ D [some (.ref p), none, none, none, none] _ _
    refine cl_it walk_tup (fun i H2 => PrI H D r H2 (pairsR (r.drop i))) ⟨s0, [], [], upd_same, .nil, by simp⟩ (fun i H2 _ p => SqT.of (p.1 _ _ hp)) (fun i x H2 H3 hi hI y => ?_) (fun H2 hI => ?_)
    · obtain ⟨rfl, hx⟩ := y
      obtain ⟨t, ht, a, rfl, ha⟩ := paired_getL hxs hx
      have hpl : (pairsR r).length < sizeLine := Nat.lt_of_le_of_lt hlen (by decide)
      refine ⟨wipe_put (by decide), yesT ?_⟩
      show bMid _ _ D [some (.ref p), some (.ref a), none, none, none] _ _
      have haT : ∀ {H' : Hp}, Same H H' → SqT K H' a (t.map V.int) := fun sm => SqT.of (sm _ _ ha)
      refine ⟨.ref a, rfl, a, _, rfl, haT hI.1, ?_⟩
      refine cl_it walk_enumT (fun j H2 => PrI H D r H2 (pairsT (t.drop j) ++ pairsR (r.drop (i + 1)))) (hI.rem (by rw [List.drop_zero]; exact pairsR_drop ht)) (fun j H2 _ p => haT p.1) (fun j x H2 H3 hj hJ y => ?_) (fun H2 hJ => hJ.rem (by rw [List.length_map, List.drop_of_length_le (Nat.le_refl _)]; rfl))
      obtain ⟨T, y1, y2, rfl, hT, rfl, g1, g2⟩ := y
      obtain ⟨n, hn, rfl⟩ := getElem?_int g2
      have ej : y1 = .int ((j : Nat) : Int) := (Option.some.inj g1).symm
      subst ej
      have hJ' := hJ.keep (same_new (o := .tup [.int ((j : Nat) : Int), .int n]) hT)
      refine ⟨T, _, rfl, SqT.of upd_same, rfl, _, _, rfl, _, _, rfl, ⟨rfl, wipe_put2 (by decide) (by decide), yesT ?_⟩⟩
      show bMid _ _ D [some (.ref p), some (.ref a), some (.int ((j : Nat) : Int)), some (.int n), none] _ _
      refine ⟨.ref a, rfl, .int ((j : Nat) : Int), rfl, _, _, rfl, rfl, _, rfl, a, _, rfl, haT hJ'.1, fun hw => ?_, fun hw c nc => ?_⟩
      · have hz := hw.1
        have e1 : (j : Int) + 1 = ((j + 1 : Nat) : Int) := by omega
        rw [e1, HT.sIx_nat] at hz
        omega
      have e1 : (j : Int) + 1 = ((j + 1 : Nat) : Int) := by omega
      rw [e1, cutFrom, ← List.map_drop]
      have hJ2 := hJ'.keep (same_new (o := .tup ((t.drop (j + 1)).map V.int)) nc)
      refine ⟨c, rfl, ⟨_, SqT.of upd_same⟩, ?_⟩
      refine cl_it (walk_tup (xs := (t.drop (j + 1)).map V.int)) (fun m H2 => PrI H D r H2 (((t.drop (j + 1)).drop m).map (fun b => (n, b)) ++ (pairsT (t.drop (j + 1)) ++ pairsR (r.drop (i + 1)))) ∧ H2 c = some (.tup ((t.drop (j + 1)).map V.int)))
        ⟨hJ2.rem (by rw [List.drop_zero, pairsT_drop hn, List.append_assoc]), upd_same⟩ (fun m H2 _ p => SqT.of p.2) (fun m x H2 H3 hm hM y => ?_) (fun H2 hM => hM.1.rem (by rw [List.length_map, List.drop_of_length_le (Nat.le_refl _)]; rfl))
      obtain ⟨rfl, hx⟩ := y
      obtain ⟨b, hb, rfl⟩ := getElem?_int hx
      obtain ⟨⟨sm, acc, ps, hD, hps, e⟩, hc⟩ := hM
      refine ⟨wipe_put (by decide), yesT ?_⟩
      show bLast _ D [some (.ref p), some (.ref a), some (.int ((j : Nat) : Int)), some (.int n), some (.int b)] _ _
      refine ⟨.int n, rfl, .int b, rfl, two_le, fun T2 nT2 => ?_⟩
      have nDT : D ≠ T2 := ne_of_none hD nT2
      rw [dropCons hb, List.map_cons, List.cons_append] at e
      have s3 : Same H3 (upd H3 T2 (.tup [.int n, .int b])) := same_new nT2
      refine ⟨acc, (upd_ne nDT).trans hD, ?_, ⟨same_put (sm.trans s3) nD, acc ++ [.ref T2], ps ++ [(n, b)], upd_same, ?_, ?_⟩, ?_⟩
      · have hl : ps.length ≤ (pairsR r).length := by
          rw [← e, List.length_append]
          omega
        have := paired_len hps
        omega
      · have keepT : ∀ {z : V} {pr : Int × Int}, PairV (upd H3 T2 (.tup [.int n, .int b])) z pr → PairV (upd (upd H3 T2 (.tup [.int n, .int b])) D (.lst (acc ++ [.ref T2]))) z pr := fun {z pr} h => by
          obtain ⟨u, rfl, hu⟩ := h
          refine ⟨u, rfl, ?_⟩
          rw [upd_ne (ne_of hu ((upd_ne nDT).trans hD) (by intro z; cases z))]
          exact hu
        refine paired_snoc (paired_mono (fun z pr h => keepT (h.mono (same_toT s3))) hps) (keepT ⟨T2, rfl, upd_same⟩)
      · rw [List.append_assoc]
        exact e
      · have ncD : c ≠ D := ne_of hc hD (by intro z; cases z)
        rw [upd_ne ncD]
        exact s3 _ _ hc
    · obtain ⟨sm, acc, ps, hD, hps, e⟩ := hI
      rw [paired_len hxs, List.drop_of_length_le (Nat.le_refl _)] at e
      have e2 : ps = pairsR r := by simpa [pairsR] using e
      subst e2
      refine sort_pairs hD hps fun ys p2 np hys => ?_
      have s4 := same_new (o := .lst ys) np
      exact q _ p2 ys (sm.trans s4) (sm.free np) upd_same (paired_mono (fun _ _ z => z.mono (same_toT s4)) hys)
end Nf

set_option Elab.async false
set_option linter.all false
set_option maxRecDepth 100000
set_option maxHeartbeats 4000000
namespace Nf
open PySem PySem.Spec PyProof.Rows L2
variable {P : Program} {w : World} {K : PySem.W.Frag} {mg : Str → Option Value} {base : Heap}
/-! ### the class of parties -/
theorem ms_ : ¬ (("many" : Str) = "seats") := by decide +kernel
def pf (g s : Int) : List (Str × V) := putF "seats" (.int s) (putF "many" (.int g) [])
theorem pf_many (g s : Int) : (pf g s).lookup ("many" : Str) = some (.int g) := by
  unfold pf
  rw [lookup_putF, if_neg ms_, lookup_putF, if_pos rfl]
theorem pf_seats (g s : Int) : (pf g s).lookup ("seats" : Str) = some (.int s) := by
  unfold pf
  rw [lookup_putF, if_pos rfl]
theorem pf_no (g s : Int) {m : Str} (h1 : ¬ m = "seats") (h2 : ¬ m = "many") : (pf g s).lookup m = none := by
  unfold pf
  rw [lookup_putF, if_neg h1, lookup_putF, if_neg h2]
  all_goals rfl
def PartyV (C : Addr) (H : Hp) (p : Addr) (g s : Int) : Prop := ∃ dx, H p = some (.ins C dx (pf g s))
theorem PartyV.same {C : Addr} {H H' : Hp} {p : Addr} {g s : Int} (h : PartyV C H p g s) (z : Same H H') : PartyV C H' p g s := by
  obtain ⟨dx, e⟩ := h
  exact ⟨dx, z _ _ e⟩
structure Txt (K : PySem.W.Frag) (mg : Str → Option Value) (C : Addr) : Prop where
  cl : Cls K C
  nM : NoAttr K C "many"
  nS : NoAttr K C "seats"
  mgC : mg "Party" = some (.ref C)
  fg : ∃ t, mg "FEWEST_GUESTS" = some (.int 2 t)
  mo : ∃ t, mg "MOST_GUESTS" = some (.int 64 t)
  ss : ∃ t, mg "SMALLEST_SIZE" = some (.int 2 t)
  ls : ∃ t, mg "LARGEST_SIZE" = some (.int 8 t)
theorem scGuests : FnScope ["self"] ["self"] (defScope sGuests) := ⟨rfl, rfl, rfl, by decide +kernel, rfl, by decide +kernel, by decide +kernel⟩
def spGuests (C : Addr) : Sp := fun vs H Q _ => ∃ (p : Addr) (g s : Int), vs = [.ref p] ∧ PartyV C H p g s ∧ Q (.int g) H
theorem ok_guests {f C : Addr} {fd : FuncData} (F : Fun K "guests" "Party.guests" sGuests f fd) (T : Txt K mg C) : FnOk P w K mg base CX0 1 f fd ["self"] (spGuests C) := by
  refine F.ok scGuests (fun vs H Q E h => ?_) (fun cdv A outer s H vs Q E hr h => ?_)
  · obtain ⟨p, g, s, rfl, _⟩ := h
    rfl
  · obtain ⟨p, g, s, rfl, ⟨dx, hp⟩, q⟩ := h
    exact ⟨_, pss_one (ps_ret (pe_fld (pv 0) rfl)), _, rfl, p, C, dx, _, _, rfl, hp, T.cl, T.nM, pf_many _ _, q⟩
theorem scSize : FnScope ["self"] ["self"] (defScope sSize) := ⟨rfl, rfl, rfl, by decide +kernel, rfl, by decide +kernel, by decide +kernel⟩
def spSize (C : Addr) : Sp := fun vs H Q _ => ∃ (p : Addr) (g s : Int), vs = [.ref p] ∧ PartyV C H p g s ∧ Q (.int s) H
theorem ok_size {f C : Addr} {fd : FuncData} (F : Fun K "size" "Party.size" sSize f fd) (T : Txt K mg C) : FnOk P w K mg base CX0 1 f fd ["self"] (spSize C) := by
  refine F.ok scSize (fun vs H Q E h => ?_) (fun cdv A outer s H vs Q E hr h => ?_)
  · obtain ⟨p, g, s, rfl, _⟩ := h
    rfl
  · obtain ⟨p, g, s, rfl, ⟨dx, hp⟩, q⟩ := h
    exact ⟨_, pss_one (ps_ret (pe_fld (pv 0) rfl)), _, rfl, p, C, dx, _, _, rfl, hp, T.cl, T.nS, pf_seats _ _, q⟩
theorem scTables : FnScope ["self"] ["self"] (defScope sTables) := ⟨rfl, rfl, rfl, by decide +kernel, rfl, by decide +kernel, by decide +kernel⟩
def spTables (C : Addr) : Sp := fun vs H Q _ => ∃ (p : Addr) (g s : Int), vs = [.ref p] ∧ PartyV C H p g s ∧ 0 < s ∧ s < 1073741824 ∧ Q (.int (g / s)) H
theorem ok_tables {f C : Addr} {fd : FuncData} (F : Fun K "tables" "Party.tables" sTables f fd) (T : Txt K mg C) : FnOk P w K mg base CX0 1 f fd ["self"] (spTables C) := by
  refine F.ok scTables (fun vs H Q E h => ?_) (fun cdv A outer s H vs Q E hr h => ?_)
  · obtain ⟨p, g, s, rfl, _⟩ := h
    rfl
  · obtain ⟨p, g, s, rfl, ⟨dx, hp⟩, h0, h1, q⟩ := h
    exact ⟨_, pss_one (ps_ret (pe_op op_fdiv (pe_fld (pv 0) rfl) (pe_fld (pv 0) rfl))), _, rfl, p, C, dx, _, _, rfl, hp, T.cl, T.nM, pf_many _ _, _, rfl, p, C, dx, _, _, rfl, hp, T.cl, T.nS, pf_seats _ _, _, _, rfl, rfl, ⟨h0, h1⟩, q⟩
/-- a party's bounds -/
structure IsParty (g s : Int) : Prop where
  g2 : 2 ≤ g
  g64 : g ≤ 64
  s2 : 2 ≤ s
  s8 : s ≤ 8
  dv : g % s = 0
theorem scIsParty : FnScope ["guests", "size"] ["guests", "size"] (defScope sIsParty) := ⟨rfl, rfl, rfl, by decide +kernel, rfl, by decide +kernel, by decide +kernel⟩
def spIsParty : Sp := fun vs H Q _ => ∃ (g s : Int), vs = [.int g, .int s] ∧ ∀ b, (b = true ↔ IsParty g s) → Q (.bl b) H
theorem ok_isParty {f C : Addr} {fd : FuncData} (F : Fun K "is_party" "is_party" sIsParty f fd) (T : Txt K mg C) : FnOk P w K mg base CX0 1 f fd ["guests", "size"] spIsParty := by
  obtain ⟨t1, m1⟩ := T.fg
  obtain ⟨t2, m2⟩ := T.mo
  obtain ⟨t3, m3⟩ := T.ss
  obtain ⟨t4, m4⟩ := T.ls
  refine F.ok scIsParty (fun vs H Q E h => ?_) (fun cdv A outer s H vs Q E hr h => ?_)
  · obtain ⟨g, s, rfl, _⟩ := h
    rfl
  · obtain ⟨g, z, rfl, q⟩ := h
    refine ⟨_, pss_cons (ps_if (pt_not (pt_chain op_le op_le (pe_glob (v := .int 2) (by rfl) m1 ⟨_, rfl⟩) (pv 0) (pe_glob (v := .int 64) (by rfl) m2 ⟨_, rfl⟩))) (pss_one (ps_ret pe_bl)) pss_nil)
      (pss_cons (ps_if (pt_not (pt_chain op_le op_le (pe_glob (v := .int 2) (by rfl) m3 ⟨_, rfl⟩) (pv 1) (pe_glob (v := .int 8) (by rfl) m4 ⟨_, rfl⟩))) (pss_one (ps_ret pe_bl)) pss_nil)
      (pss_one (ps_ret (pe_cmpR op_eq (pe_op op_mod (pv 0) (pv 1)) pe_int (nomark _))))), ?_⟩
    have no : ¬ IsParty g z → Q (.bl false) H := fun h => q false ⟨(fun e => by cases e), fun e => absurd e h⟩
    refine ⟨.int g, rfl, 2, g, rfl, rfl, _, rfl, ite2 (fun h1 => ?_) (fun h1 => ?_)⟩
    · have h1 := of_decide_eq_true h1
      refine ⟨g, 64, rfl, rfl, _, rfl, ite2 (fun h2 => ?_) (fun h2 => ?_)⟩
      · exact no fun z => by
          have := z.g64
          simp [this] at h2
      · have h2 : g ≤ 64 := by simpa using h2
        refine ⟨.int z, rfl, 2, z, rfl, rfl, _, rfl, ite2 (fun h3 => ?_) (fun h3 => ?_)⟩
        · have h3 := of_decide_eq_true h3
          refine ⟨z, 8, rfl, rfl, _, rfl, ite2 (fun h4 => ?_) (fun h4 => ?_)⟩
          · exact no fun y => by
              have := y.s8
              simp [this] at h4
          · have h4 : z ≤ 8 := by simpa using h4
            refine ⟨.int g, rfl, .int z, rfl, g, z, rfl, rfl, (by omega : (0 : Int) < z), rfl, ?_⟩
            refine q _ ⟨fun e => ?_, fun e => ?_⟩
            · have e' := V.int.inj (of_decide_eq_true e)
              exact ⟨h1, h2, h3, h4, e'⟩
            · exact decide_eq_true (congrArg V.int e.dv)
        · refine ⟨_, rfl, iteT ?_⟩
          exact no fun y => h3 (decide_eq_true y.s2)
    · refine ⟨_, rfl, iteT ?_⟩
      exact no fun y => h1 (decide_eq_true y.g2)
theorem scInit : FnScope ["self", "guests", "size"] ["self", "guests", "size"] (defScope sInit) := ⟨rfl, rfl, rfl, by decide +kernel, rfl, by decide +kernel, by decide +kernel⟩
def spInit (C : Addr) : Sp := fun vs H Q _ => ∃ (p dx : Addr) (g s : Int), vs = [.ref p, .int g, .int s] ∧ H p = some (.ins C dx []) ∧ IsParty g s ∧ Q .non (upd H p (.ins C dx (pf g s)))
theorem ok_init {f fP C : Addr} {fd fdP : FuncData} (F : Fun K "__init__" "Party.__init__" sInit f fd) (T : Txt K mg C) (FP : Fun K "is_party" "is_party" sIsParty fP fdP) (bP : Binds K fdP ["guests", "size"] []) (gP : mg "is_party" = some (.ref fP)) :
    FnOk P w K mg base CX0 2 f fd ["self", "guests", "size"] (spInit C) := by
  have GP : FnOk P w K mg base CX0 1 fP fdP ["guests", "size"] spIsParty := ok_isParty FP T
  refine F.ok scInit (fun vs H Q E h => ?_) (fun cdv A outer s H vs Q E hr h => ?_)
  · obtain ⟨p, dx, g, s, rfl, _⟩ := h
    rfl
  · obtain ⟨p, dx, g, z, rfl, hp, hI, q⟩ := h
    refine ⟨_, pss_cons (ps_if (pt_not (pt_val (pe_call GP hr (by rfl) gP FP.kp bP .nil pass0 (pa_cons (pv 1) (pa_cons (pv 2) pa_nil))))) pss_never pss_nil)
      (pss_cons (ps_fld (pv 0) (pv 1) rfl) (pss_one (ps_fld (pv 0) (pv 2) rfl))), ?_⟩
    refine ⟨.int g, rfl, .int z, rfl, g, z, rfl, fun b hb => ?_⟩
    have eb : b = true := hb.mpr hI
    subst eb
    refine ⟨_, rfl, iteF ?_⟩
    refine ⟨.int g, rfl, _, rfl, p, C, dx, [], rfl, hp, T.cl, T.nM, (by show 0 < 1000; decide), ?_⟩
    refine ⟨.int z, rfl, _, rfl, p, C, dx, _, rfl, upd_same, T.cl, T.nS, (by show 1 < 1000; decide), ?_⟩
    rw [upd_upd]
    exact q
end Nf

set_option Elab.async false
set_option linter.all false
set_option maxRecDepth 100000
set_option maxHeartbeats 4000000
namespace Nf
open PySem PySem.Spec PyProof.Rows L2
variable {P : Program} {w : World} {K : PySem.W.Frag} {mg : Str → Option Value} {base : Heap}
/-! ### is_table, is_round -/
theorem atI_head {t : Tbl} (h : 1 ≤ t.length) : atI (t.map V.int) 0 = some (.int (t.headD 0)) := by
  cases t with
  | nil => simp at h
  | cons a t => exact atI_nat (j := 0) rfl
theorem atI_end {t : Tbl} (h : 1 ≤ t.length) : atI (t.map V.int) (-1) = some (.int (t.getLastD 0)) := by
  have hn : t ≠ [] := by
    intro e
    subst e
    simp at h
  have e : t.map V.int = t.dropLast.map V.int ++ [.int (t.getLast hn)] := by
    rw [← List.map_singleton, ← List.map_append, List.dropLast_concat_getLast]
  rw [e, atI_last]
  rw [List.getLastD_eq_getLast?, List.getLast?_eq_getLast hn]
  rfl
theorem scIsTable : FnScope ["party", "table"] ["party", "table"] (defScope sIsTable) := ⟨rfl, rfl, rfl, by decide +kernel, rfl, by decide +kernel, by decide +kernel⟩
def spIsTable (C : Addr) : Sp := fun vs H Q _ => ∃ (p : Addr) (g s : Int) (x : V) (t : Tbl), vs = [.ref p, x] ∧ PartyV C H p g s ∧ TabV H x t ∧ t.length ≤ 100000 ∧ ∀ b H', Same H H' → (b = true ↔ IsTable g s t) → Q (.bl b) H'
theorem ok_isTable {f fR fG fS C : Addr} {fd fdR fdG fdS : FuncData} (F : Fun K "is_table" "is_table" sIsTable f fd) (B : Blt mg) (T : Txt K mg C) (FR : Fun K "rises" "rises" sRises fR fdR) (bR : Binds K fdR ["numbers"] []) (gR : mg "rises" = some (.ref fR))
    (FG : Fun K "guests" "Party.guests" sGuests fG fdG) (bG : Binds K fdG ["self"] []) (mG : Meth K C "guests" fG) (FS : Fun K "size" "Party.size" sSize fS fdS) (bS : Binds K fdS ["self"] []) (mS : Meth K C "size" fS) : FnOk P w K mg base CX0 2 f fd ["party", "table"] (spIsTable C) := by
  have GR : FnOk P w K mg base CX0 1 fR fdR ["numbers"] (spRises K) := ok_rises FR B
  have GG : FnOk P w K mg base CX0 1 fG fdG ["self"] (spGuests C) := ok_guests FG T
  have GS : FnOk P w K mg base CX0 1 fS fdS ["self"] (spSize C) := ok_size FS T
  have ng : ∀ g s, (pf g s).lookup ("guests" : Str) = none := fun g s => pf_no _ _ (by decide +kernel) (by decide +kernel)
  have ns : ∀ g s, (pf g s).lookup ("size" : Str) = none := fun g s => pf_no _ _ (by decide +kernel) (by decide +kernel)
  refine F.ok scIsTable (fun vs H Q E h => ?_) (fun cdv A outer s H vs Q E hr h => ?_)
  · obtain ⟨p, g, s, x, t, rfl, _⟩ := h
    rfl
  · obtain ⟨p, g, z, x, t, rfl, hP, ⟨a, rfl, ha⟩, hlen, q⟩ := h
    refine ⟨_, pss_cons (ps_if (pt_not (pt_chain op_le op_le pe_int (pe_callB call_len_seq (by rfl) B.len PySem.boot_len (pa_cons (pv 1) pa_nil)) (pe_meth0 (pv 0) T.cl mS GS hr bS .nil pass0))) (pss_one (ps_ret pe_bl)) pss_nil)
      (pss_one (ps_ret (pe_and (pe_call GR hr (by rfl) gR FR.kp bR .nil pass0 (pa_cons (pv 1) pa_nil)) (pe_and (pe_cmpR op_ge (pe_ix ix_tup (pv 1) pe_int (fun _ _ => rfl)) pe_int (nomark _))
        (pe_one (pe_cmpR op_lt (pe_ix ix_tup (pv 1) (pe_un un_neg pe_int) (fun _ _ => rfl)) (pe_meth0 (pv 0) T.cl mG GG hr bG .nil pass0) (nomark _))))))), ?_⟩
    have no : ∀ H', Same H H' → ¬ IsTable g z t → Q (.bl false) H' := fun H' sm h => q false H' sm ⟨(fun e => by cases e), fun e => absurd e h⟩
    obtain ⟨dx, hp⟩ := id hP
    refine ⟨.ref a, rfl, a, _, rfl, .inr (SqT.of ha), 1, _, rfl, rfl, _, rfl, ite2 (fun h1 => ?_) (fun h1 => ?_)⟩
    · have h1 : 1 ≤ t.length := by
        have := of_decide_eq_true h1
        rw [List.length_map] at this
        omega
      refine ⟨_, rfl, p, dx, _, rfl, hp, ns _ _, p, g, z, rfl, hP, _, _, rfl, rfl, _, rfl, ite2 (fun h2 => ?_) (fun h2 => ?_)⟩
      · exact no _ (Same.refl _) fun y => by
          have := y.sz.2
          rw [List.length_map] at h2
          simp [this] at h2
      · have h2 : (t.length : Int) ≤ z := by
          rw [List.length_map] at h2
          simpa using h2
        refine ⟨.ref a, rfl, a, t, rfl, .inr (SqT.of ha), hlen, fun H1 s1 => ?_⟩
        have ha1 := s1 _ _ ha
        refine ⟨_, rfl, ite2 (fun h3 => ?_) (fun h3 => ?_)⟩
        · refine ⟨.ref a, rfl, a, _, 0, _, rfl, rfl, SqT.of ha1, atI_head h1, _, _, rfl, rfl, _, rfl, ite2 (fun h4 => ?_) (fun h4 => ?_)⟩
          · have h4 := of_decide_eq_true h4
            obtain ⟨dx1, hp1⟩ := hP.same s1
            refine ⟨.ref a, rfl, 1, rfl, a, _, -1, _, rfl, rfl, SqT.of ha1, atI_end h1, _, rfl, p, dx1, _, rfl, hp1, ng _ _, p, g, z, rfl, ⟨dx1, hp1⟩, _, _, rfl, rfl, ?_⟩
            refine q _ H1 s1 ⟨fun e => ⟨⟨h1, h2⟩, (rises_iff t).mp h3, h4, of_decide_eq_true e⟩, fun e => decide_eq_true e.hi⟩
          · exact no H1 s1 fun y => h4 (decide_eq_true y.lo)
        · exact no H1 s1 fun y => h3 ((rises_iff t).mpr y.up)
    · refine ⟨_, rfl, iteT ?_⟩
      exact no _ (Same.refl _) fun y => h1 (decide_eq_true (by rw [List.length_map]; have := y.sz.1; omega))
theorem scIsRound : FnScope ["party", "thing", "sitting", "table", "guest"] ["party", "thing"] (defScope sIsRound) := ⟨rfl, rfl, rfl, by decide +kernel, rfl, by decide +kernel, by decide +kernel⟩
def spIsRound (C : Addr) : Sp := fun vs H Q _ => ∃ (p : Addr) (g s : Int) (x : V) (r : Rnd), vs = [.ref p, x] ∧ PartyV C H p g s ∧ IsParty g s ∧ RndV H x r ∧ r.length ≤ 100000 ∧ (∀ t ∈ r, t.length ≤ 100000) ∧ ∀ b H', Same H H' → (b = true ↔ IsRound g s r) → Q (.bl b) H'
theorem ok_isRound {f fT fR fB C : Addr} {fd fdT fdR fdB : FuncData} (F : Fun K "is_round" "is_round" sIsRound f fd) (B : Blt mg) (T : Txt K mg C) (GT : FnOk P w K mg base CX0 2 fT fdT ["party", "table"] (spIsTable C)) (FT : Fun K "is_table" "is_table" sIsTable fT fdT) (bT : Binds K fdT ["party", "table"] []) (gT : mg "is_table" = some (.ref fT))
    (FR : Fun K "rises" "rises" sRises fR fdR) (bR : Binds K fdR ["numbers"] []) (gR : mg "rises" = some (.ref fR)) (FB : Fun K "tables" "Party.tables" sTables fB fdB) (bB : Binds K fdB ["self"] []) (mB : Meth K C "tables" fB) : FnOk P w K mg base CX0 3 f fd ["party", "thing"] (spIsRound C) := by
  have GR : FnOk P w K mg base CX0 1 fR fdR ["numbers"] (spRises K) := ok_rises FR B
  have GB : FnOk P w K mg base CX0 1 fB fdB ["self"] (spTables C) := ok_tables FB T
  have nt : ∀ g s, (pf g s).lookup ("tables" : Str) = none := fun g s => pf_no _ _ (by decide +kernel) (by decide +kernel)
  refine F.ok scIsRound (fun vs H Q E h => ?_) (fun cdv A outer s H vs Q E hr h => ?_)
  · obtain ⟨p, g, s, x, r, rfl, _⟩ := h
    rfl
  · obtain ⟨p, g, z, x, r, rfl, hP, hI, ⟨a, xs, rfl, ha, hxs⟩, hlen, hlt, q⟩ := h
    have hr1 : Room 1 _ := hr.mono (by decide)
    refine ⟨_, pss_cons (ps_if (pt_cmpR op_gt (pe_callB call_len_seq (by rfl) B.len PySem.boot_len (pa_cons (pv 1) pa_nil)) (pe_meth0 (pv 0) T.cl mB GB hr1 bB .nil pass0) (nomark _)) (pss_one (ps_ret pe_bl)) pss_nil)
      (pss_cons (ps_if (pt_not (pt_val (pe_callB (cr_all rfl) (by rfl) B.all (by decide +kernel) (pa_cons
          (pe_lc (own := [("table", 3)]) (g := gName 3) (tt := tYes) (te := tCall (spIsTable C) [] E0 (tCons (tVar 0) (tCons (tVar 3) tNil))) (by rfl) scIsRound.nd (pi_tup (pv 1)) (blkOk_by (N := ["party", "thing", "sitting", "table", "guest"]) (sc := defScope sIsRound) (by decide +kernel))
            (fun _ _ _ _ _ => pg_name (i := 3) (x := "table") scIsRound.nd rfl (.inl rfl) (.inr rfl)) (fun _ _ _ _ _ => pts_nil) (fun _ _ _ _ _ => pe_call GT hr (by rfl) gT FT.kp bT .nil pass0 (pa_cons (pv 0) (pa_cons (pv 3) pa_nil)))) pa_nil)))) (pss_one (ps_ret pe_bl)) pss_nil)
      (pss_cons (ps_setLcN (i := 2) (own := [("table", 3), ("guest", 4)]) (wi := iTup K (tVar 1)) (t := tCl (gName 3) tYes [3, 4] (bMid (iTup K (tVar 3)) (tCl (gName 4) tYes [4] (bLast (tVar 4)))))
          (by rfl) scIsRound.nd rfl rfl (sw_true rfl rfl rfl (by decide +kernel)) (pi_tup (pv 1)) (blkOk_by (N := ["party", "thing", "sitting", "table", "guest"]) (sc := defScope sIsRound) (by decide +kernel))
          (fun _ _ _ _ _ => pcl_mid rfl rfl rfl rfl (by decide) (pg_name (i := 3) (x := "table") scIsRound.nd rfl (.inl rfl) (.inr rfl)) pts_nil (pi_tup (pv 3)) (by intro _; rfl) (pcl_last rfl rfl rfl rfl (pg_name (i := 4) (x := "guest") scIsRound.nd rfl (.inl rfl) (.inr rfl)) pts_nil (pv 4))))
      (pss_cons (ps_if (pt_cmpR op_lt (pe_lenSet (by rfl) B.len (by rfl) B.set (pv 2)) (pe_callB call_len_seq (by rfl) B.len PySem.boot_len (pa_cons (pv 2) pa_nil)) (nomark _)) (pss_one (ps_ret pe_bl)) pss_nil)
      (pss_one (ps_ret (pe_call GR hr1 (by rfl) gR FR.kp bR .nil pass0 (pa_cons
        (pe_lc (own := [("table", 3)]) (g := gName 3) (tt := tYes) (te := tOp (rIxT K) (tVar 3) (tC (.int 0))) (by rfl) scIsRound.nd (pi_tup (pv 1)) (blkOk_by (N := ["party", "thing", "sitting", "table", "guest"]) (sc := defScope sIsRound) (by decide +kernel))
            (fun _ _ _ _ _ => pg_name (i := 3) (x := "table") scIsRound.nd rfl (.inl rfl) (.inr rfl)) (fun _ _ _ _ _ => pts_nil) (fun _ _ _ _ _ => pe_ix ix_tup (pv 3) pe_int (fun _ _ => rfl))) pa_nil))))))), ?_⟩
    have no : ∀ H', Same H H' → ¬ IsRound g z r → Q (.bl false) H' := fun H' sm h => q false H' sm ⟨(fun e => by cases e), fun e => absurd e h⟩
    obtain ⟨dx, hp⟩ := id hP
    have hxl := paired_len hxs
    have big : (100000 : Nat) < sizeLine := by decide
    have haT : ∀ {H' : Hp}, Same H H' → SqT K H' a xs := fun sm => SqT.of (sm _ _ ha)
    -- len(thing) > party.tables()
    refine ⟨.ref a, rfl, a, _, rfl, .inr (SqT.of ha), _, rfl, p, dx, _, rfl, hp, nt _ _, p, g, z, rfl, hP, by have := hI.s2; omega, by have := hI.s8; omega, _, _, rfl, rfl, _, rfl, ite2 (fun h1 => ?_) (fun h1 => ?_)⟩
    · have h1 := of_decide_eq_true h1
      exact no _ (Same.refl _) fun y => by
        have := y.ct
        omega
    have h1 : (r.length : Int) ≤ g / z := by
      have h2 : ¬ (g / z < ((xs.length : Nat) : Int)) := fun y => h1 (decide_eq_true y)
      omega
    -- all([is_table(..)])
    refine ⟨.ref a, rfl, a, rfl, ⟨_, SqT.of ha⟩, fun D nD => ?_⟩
    have s0 : Same H (upd H D (.lst [])) := same_new nD
    refine lc_it walk_tup (fun i H2 => Same H H2 ∧ ∃ bs : List Bool, H2 D = some (.lst (bs.map V.bl)) ∧ bs.length = i ∧ (bs.all id = true ↔ ∀ t ∈ r.take i, IsTable g z t)) ⟨s0, [], upd_same, rfl, by simp⟩ (fun i H2 _ p => haT p.1) (fun i x H2 H3 hi hI2 y => ?_) (fun H2 hI2 => ?_)
    · obtain ⟨rfl, hx⟩ := y
      obtain ⟨t, ht, b, rfl, hb⟩ := paired_getL hxs hx
      obtain ⟨sm, bs, hD, hbl, hba⟩ := hI2
      refine ⟨wipe_put (by decide), yesT ?_⟩
      show tCall (spIsTable C) [] E0 _ [some (.ref p), some (.ref a), none, some (.ref b), none] _ _
      refine ⟨.ref p, rfl, .ref b, rfl, p, g, z, .ref b, t, rfl, hP.same sm, ⟨b, rfl, sm _ _ hb⟩, hlt t (List.mem_of_getElem? ht), fun c H4 s4 hc => ?_⟩
      refine ⟨_, s4 _ _ hD, by rw [List.length_map]; omega, same_put (sm.trans s4) nD, bs ++ [c], ?_, by simp [hbl], ?_⟩
      · rw [upd_same, List.map_append]
        rfl
      · rw [takeSucc ht, List.all_append]
        simp only [List.all_cons, List.all_nil, Bool.and_true, Bool.and_eq_true, id]
        rw [hba, hc]
        constructor
        · rintro ⟨u1, u2⟩ y hy
          rcases List.mem_append.mp hy with hy | hy
          · exact u1 y hy
          · rw [List.mem_singleton.mp hy]
            exact u2
        · exact fun u => ⟨fun y hy => u y (List.mem_append_left _ hy), u t (by simp)⟩
    obtain ⟨sm2, bs, hD, _, hba⟩ := hI2
    rw [hxl, List.take_of_length_le (Nat.le_refl _)] at hba
    refine ⟨D, bs, rfl, SqL.of hD, _, rfl, ite2 (fun h2 => ?_) (fun h2 => ?_)⟩
    · refine no _ sm2 fun y => ?_
      have := hba.mpr (isRound_iff.mp y).2.1
      rw [this] at h2
      cases h2
    have hall : ∀ t ∈ r, IsTable g z t := hba.mp (by simpa using h2)
    -- sitting
    refine ⟨.ref a, rfl, a, rfl, ⟨_, haT sm2⟩, fun D2 nD2 => ?_⟩
    show tCl (gName 3) tYes [3, 4] _ _ D2 [some (.ref p), some (.ref a), none, none, none] _ _
    have s3 : Same H2 (upd H2 D2 (.lst [])) := same_new nD2
    have nD20 : H D2 = none := sm2.free nD2
    have hfl : r.flatten.length ≤ 64 := by
      have e1 := sum_le (fun t ht => (hall t ht).sz.2)
      have hz : 0 < z := by have := hI.s2; omega
      have e2 : (r.length : Int) * z ≤ g / z * z := Int.mul_le_mul_of_nonneg_right h1 (by omega)
      have e3 : g / z * z ≤ g := Int.ediv_mul_le g (by omega)
      have := hI.g64
      omega
    refine cl_it walk_tup (fun i H5 => Same H H5 ∧ ∃ ms : List Int, H5 D2 = some (.lst (ms.map V.int)) ∧ ms ++ (r.drop i).flatten = r.flatten) ⟨sm2.trans s3, [], upd_same, by simp⟩ (fun i H5 _ p => haT p.1) (fun i x H5 H6 hi hI5 y => ?_) (fun H5 hI5 => ?_)
    · obtain ⟨rfl, hx⟩ := y
      obtain ⟨t, ht, b, rfl, hb⟩ := paired_getL hxs hx
      obtain ⟨sm, ms, hD2, e⟩ := hI5
      rw [dropCons ht, List.flatten_cons] at e
      refine ⟨wipe_put (by decide), yesT ?_⟩
      show bMid _ _ D2 [some (.ref p), some (.ref a), none, some (.ref b), none] _ _
      refine ⟨.ref b, rfl, b, rfl, ⟨_, SqT.of (sm _ _ hb)⟩, ?_⟩
      refine cl_it (walk_tup (xs := t.map V.int)) (fun j H7 => Same H H7 ∧ ∃ ms : List Int, H7 D2 = some (.lst (ms.map V.int)) ∧ ms ++ (t.drop j ++ (r.drop (i + 1)).flatten) = r.flatten) ⟨sm, ms, hD2, by rw [List.drop_zero]; exact e⟩ (fun j H7 _ p => SqT.of (p.1 _ _ hb)) (fun j x H7 H8 hj hJ y => ?_)
        (fun H7 hJ => ?_)
      · obtain ⟨rfl, hx⟩ := y
        obtain ⟨n, hn, rfl⟩ := getElem?_int hx
        obtain ⟨sm7, ms7, hD7, e7⟩ := hJ
        rw [dropCons hn, List.cons_append] at e7
        refine ⟨wipe_put (by decide), yesT ?_⟩
        show bLast _ D2 [some (.ref p), some (.ref a), none, some (.ref b), some (.int n)] _ _
        refine ⟨.int n, rfl, _, hD7, ?_, same_put sm7 nD20, ms7 ++ [n], ?_, ?_⟩
        · have : ms7.length ≤ r.flatten.length := by
            rw [← e7, List.length_append]
            omega
          rw [List.length_map]
          omega
        · rw [upd_same, List.map_append]
          rfl
        · rw [List.append_assoc]
          exact e7
      · obtain ⟨sm7, ms7, hD7, e7⟩ := hJ
        refine ⟨sm7, ms7, hD7, ?_⟩
        rw [List.length_map, List.drop_of_length_le (Nat.le_refl _)] at e7
        exact e7
    obtain ⟨sm5, ms, hD2, e⟩ := hI5
    rw [hxl, List.drop_of_length_le (Nat.le_refl _), List.flatten_nil, List.append_nil] at e
    subst e
    -- len(set(sitting)) < len(sitting)
    refine ⟨.ref D2, rfl, D2, r.flatten, rfl, SqL.of hD2, by omega, .ref D2, rfl, D2, _, rfl, .inl (SqL.of hD2), _, _, rfl, rfl, _, rfl, ite2 (fun h3 => ?_) (fun h3 => ?_)⟩
    · have h3 := of_decide_eq_true h3
      refine no _ sm5 fun y => ?_
      have := (metN_iff _).mpr y.nd
      rw [List.length_map] at h3
      omega
    have hnd : r.flatten.Nodup := by
      refine (metN_iff _).mp ?_
      have h4 : ¬ (((metN r.flatten : Nat) : Int) < (((r.flatten.map V.int).length : Nat) : Int)) := fun y => h3 (decide_eq_true y)
      rw [List.length_map] at h4
      have := metN_le r.flatten
      omega
    -- rises([table[0] ..])
    refine ⟨.ref a, rfl, a, rfl, ⟨_, haT sm5⟩, fun D3 nD3 => ?_⟩
    have nD30 : H D3 = none := sm5.free nD3
    refine lc_it walk_tup (fun i H6 => Same H H6 ∧ H6 D3 = some (.lst (((r.take i).map (·.headD 0)).map V.int))) ⟨sm5.trans (same_new nD3), upd_same⟩ (fun i H6 _ p => haT p.1) (fun i x H6 H7 hi hI6 y => ?_) (fun H6 hI6 => ?_)
    · obtain ⟨rfl, hx⟩ := y
      obtain ⟨t, ht, b, rfl, hb⟩ := paired_getL hxs hx
      obtain ⟨sm, hD3⟩ := hI6
      refine ⟨wipe_put (by decide), yesT ?_⟩
      show tOp _ _ _ [some (.ref p), some (.ref a), some (.ref D2), some (.ref b), none] _ _
      refine ⟨.ref b, rfl, b, _, 0, _, rfl, rfl, SqT.of (sm _ _ hb), atI_head (hall t (List.mem_of_getElem? ht)).sz.1, _, hD3, ?_, same_put sm nD30, ?_⟩
      · rw [List.length_map, List.length_map, List.length_take]
        omega
      · rw [upd_same, takeSucc ht, List.map_append, List.map_append]
        rfl
    obtain ⟨sm6, hD3⟩ := hI6
    rw [hxl, List.take_of_length_le (Nat.le_refl _)] at hD3
    refine ⟨D3, r.map (·.headD 0), rfl, .inl (SqL.of hD3), by rw [List.length_map]; exact hlen, fun H7 s7 => ?_⟩
    refine q _ H7 (sm6.trans s7) ?_
    rw [rises_iff, isRound_iff]
    exact ⟨fun y => ⟨h1, hall, hnd, y⟩, fun y => y.2.2.2⟩
end Nf

set_option Elab.async false
set_option linter.all false
set_option maxRecDepth 100000
set_option maxHeartbeats 4000000
namespace Nf
open PySem PySem.Spec PyProof.Rows L2
variable {P : Program} {w : World} {K : PySem.W.Frag} {mg : Str → Option Value} {base : Heap}
/-! ### fault -/
theorem scFault : FnScope ["party", "plan", "met_in", "number", "thing", "together", "a", "b", "pair"] ["party", "plan"] (defScope sFault) := ⟨rfl, rfl, rfl, by decide +kernel, rfl, by decide +kernel, by decide +kernel⟩
def spFault (K : PySem.W.Frag) (C : Addr) : Sp := fun vs H Q _ => ∃ (p l : Addr) (g s : Int) (rs : List Rnd), vs = [.ref p, .ref l] ∧ PartyV C H p g s ∧ IsParty g s ∧ PlanV K H l rs ∧ Small rs ∧ ∀ x H' v, Same H H' → IsV g s rs k0 0 v → VerdV H' x v → Q x H'
theorem ok_fault {f fI fP C : Addr} {fd fdI fdP : FuncData} (F : Fun K "fault" "fault" sFault f fd) (B : Blt mg) (GI : FnOk P w K mg base CX0 3 fI fdI ["party", "thing"] (spIsRound C)) (FI : Fun K "is_round" "is_round" sIsRound fI fdI) (bI : Binds K fdI ["party", "thing"] []) (gI : mg "is_round" = some (.ref fI))
    (FP : Fun K "pairs" "pairs" sPairs fP fdP) (bP : Binds K fdP ["tables"] []) (gP : mg "pairs" = some (.ref fP)) : FnOk P w K mg base CX0 4 f fd ["party", "plan"] (spFault K C) := by
  have GP : FnOk P w K mg base CX0 1 fP fdP ["tables"] spPairs := ok_pairs FP B
  refine F.ok scFault (fun vs H Q E h => ?_) (fun cdv A outer s H vs Q E hr h => ?_)
  · obtain ⟨p, l, g, s, rs, rfl, _⟩ := h
    rfl
  · obtain ⟨p, l, g, z, rs, rfl, hP, hI, ⟨xs, hl, hxs⟩, hS, q⟩ := h
    have hr1 : Room 1 _ := hr.mono (by decide)
    have hu := hu_of hr
    refine ⟨_, pss_cons (ps_set (i := 2) scFault.nd rfl (.inl rfl) pe_dnewT)
      (pss_cons (ps_for PassesOwn.never rfl (pi_enum (by rfl) B.enumerate (pa_cons (pv 1) pa_nil)) (pg_tup rfl (pgs_cons (pg_name (i := 3) scFault.nd rfl (.inl rfl)) (pgs_cons (pg_name (i := 4) scFault.nd rfl (.inl rfl)) pgs_nil)))
        (pss_cons (ps_if (pt_not (pt_val (pe_call GI hr (by rfl) gI FI.kp bI .nil pass0 (pa_cons (pv 0) (pa_cons (pv 4) pa_nil))))) (pss_one (ps_ret (pe_tup (pa_cons pe_str (pa_cons (pv 3) pa_nil))))) pss_nil)
        (pss_cons (ps_set (i := 5) scFault.nd rfl (.inl rfl) (pe_call GP hr1 (by rfl) gP FP.kp bP .nil pass0 (pa_cons (pv 4) pa_nil)))
        (pss_cons (ps_for PassesOwn.never rfl (pi_list (pv 5)) (pg_tup rfl (pgs_cons (pg_name (i := 6) scFault.nd rfl (.inl rfl)) (pgs_cons (pg_name (i := 7) scFault.nd rfl (.inl rfl)) pgs_nil)))
          (pss_one (ps_if (pt_cmp (pc_din hu (pe_tup (pa_cons (pv 6) (pa_cons (pv 7) pa_nil))) (pv 2)))
            (pss_one (ps_ret (pe_tup (pa_cons pe_str (pa_cons (pv 6) (pa_cons (pv 7) (pa_cons (pe_dget hu (pv 2) (pe_tup (pa_cons (pv 6) (pa_cons (pv 7) pa_nil))) (fun _ _ => rfl)) (pa_cons (pv 3) pa_nil)))))))) pss_nil)))
        (pss_one (ps_for PassesOwn.never rfl (pi_list (pv 5)) (pg_name (i := 8) scFault.nd rfl (.inl rfl))
          (pss_one (ps_dput hu (pv 2) (pv 8) (pv 3) rfl))))))))
      (pss_one (ps_ret pe_non))), ?_⟩
    have hxl := paired_len hxs
    have big : (5000000 : Nat) < sizeLine := by decide
    intro d nd
    have s0 : Same H (upd H d (.dT [])) := same_new nd
    refine ⟨.ref l, rfl, l, xs, rfl, s0.seq hl, ?_⟩
    refine for_it (walk_enum (xs := xs)) (fun i σ H2 => ∃ (kn : Known) (y3 y4 y5 y6 y7 y8 : Option V), σ = [some (.ref p), some (.ref l), some (.ref d), y3, y4, y5, y6, y7, y8] ∧ Same H H2 ∧ KnownD H2 d kn (i * 4096) ∧ ∀ v, IsV g z (rs.drop i) kn i v → IsV g z rs k0 0 v)
      ⟨k0, none, none, none, none, none, none, rfl, s0, knownD_new upd_same, fun v h => h⟩ (fun i σ H2 _ h => ?_) (fun i x σ H2 H3 hi hI2 y => ?_) (fun σ H2 hI2 => ?_)
    · obtain ⟨kn, _, _, _, _, _, _, _, sm, _⟩ := h
      exact sm.seq hl
    · obtain ⟨kn, y3, y4, y5, y6, y7, y8, rfl, sm, hK, hV⟩ := hI2
      obtain ⟨T, v1, v2, rfl, nT, rfl, g1, g2⟩ := y
      have e1 : v1 = .int ((i : Nat) : Int) := (Option.some.inj g1).symm
      subst e1
      obtain ⟨r, hr0, hrx⟩ := paired_getL hxs g2
      have hmem : r ∈ rs := List.mem_of_getElem? hr0
      have sT : Same H2 (upd H2 T (.tup [.int ((i : Nat) : Int), v2])) := same_new nT
      refine ⟨T, _, rfl, SqT.of upd_same, rfl, _, _, rfl, _, _, rfl, ⟨rfl, ?_⟩⟩
      have sm3 := sm.trans sT
      -- is_round
      refine ⟨.ref p, rfl, v2, rfl, p, g, z, v2, r, rfl, hP.same sm3, hI, hrx.mono (same_toT sm3), hS.r r hmem, hS.t r hmem, fun b H4 s4 hb => ?_⟩
      have sm4 := sm3.trans s4
      refine ⟨_, rfl, ite2 (fun hc => ?_) (fun hc => ?_)⟩
      · have nb : ¬ IsRound g z r := fun h => by
          rw [hb.mpr h] at hc
          cases hc
        refine ⟨.int ((i : Nat) : Int), rfl, two_le, fun u nu => ?_⟩
        refine q _ _ (.rnd i) (sm4.trans (same_new nu)) (hV _ ?_) ⟨u, rfl, upd_same⟩
        rw [dropCons hr0]
        exact .bad nb
      have hR : IsRound g z r := hb.mp (by simpa using hc)
      have hpl := hR.pairs_le (by have := hI.s2; omega) hI.g64
      -- together = pairs(thing)
      refine ⟨v2, rfl, v2, r, rfl, hrx.mono (same_toT sm4), by omega, fun H5 u ys s5 nu hu5 hys => ?_⟩
      have sm5 := sm4.trans s5
      have hK5 : KnownD H5 d kn (i * 4096) := knownD_same (knownD_same (knownD_same hK sT) s4) s5
      have hspl : (sortP (pairsR r)).length ≤ 4096 := by
        rw [(sortP_perm _).length_eq]
        exact hpl
      have hyl := paired_len hys
      -- for a, b in together
      refine ⟨.ref u, rfl, u, rfl, ⟨_, SqL.of hu5⟩, ?_⟩
      refine for_it (walk_list (xs := ys)) (fun m σ H6 => ∃ (y6 y7 y8 : Option V), σ = [some (.ref p), some (.ref l), some (.ref d), some (.int ((i : Nat) : Int)), some v2, some (.ref u), y6, y7, y8] ∧ Same H5 H6 ∧ ∀ pr ∈ (sortP (pairsR r)).take m, kn pr.1 pr.2 = none)
        ⟨y6, y7, y8, rfl, Same.refl _, by simp⟩ (fun m σ H6 _ h => ?_) (fun m x σ H6 H7 hm hM y => ?_) (fun σ H6 hM => ?_)
      · obtain ⟨_, _, _, _, sm, _⟩ := h
        exact SqL.of (sm _ _ hu5)
      · obtain ⟨y6, y7, y8, rfl, s6, hn⟩ := hM
        obtain ⟨rfl, hx⟩ := y
        obtain ⟨⟨a, b⟩, hab, T6, rfl, hT6⟩ := paired_getL hys hx
        have hT6 := s6 _ _ hT6
        refine ⟨T6, _, rfl, SqT.of hT6, rfl, _, _, rfl, _, _, rfl, ⟨rfl, ?_⟩⟩
        refine ⟨.int a, rfl, .int b, rfl, two_le, fun T7 nT7 => ?_⟩
        have s7 : Same H7 (upd H7 T7 (.tup [.int a, .int b])) := same_new nT7
        obtain ⟨kvs, hd, hkl, hkv⟩ := knownD_same (knownD_same hK5 s6) s7
        refine ⟨.ref d, rfl, d, _, rfl, DGet.t (k := [Sum.inl a, Sum.inl b]) hd upd_same, _, rfl, ite2 (fun hc => ?_) (fun hc => ?_)⟩
        · rw [hkv] at hc
          cases ek : kn a b with
          | none =>
            rw [ek] at hc
            cases hc
          | some j =>
            refine ⟨.int a, rfl, .int b, rfl, .ref d, rfl, .int a, rfl, .int b, rfl, two_le, fun T8 nT8 => ?_⟩
            have s8 : Same (upd H7 T7 (.tup [.int a, .int b])) (upd (upd H7 T7 (.tup [.int a, .int b])) T8 (.tup [.int a, .int b])) := same_new nT8
            refine ⟨d, .int ((j : Nat) : Int), rfl, ?_, .int ((i : Nat) : Int), rfl, five_le, fun T9 nT9 => ?_⟩
            · have := DGet.t (k := [Sum.inl a, Sum.inl b]) (s8 _ _ hd) (upd_same : (upd (upd H7 T7 (.tup [.int a, .int b])) T8 (.tup [.int a, .int b])) T8 = _)
              rw [hkv, ek] at this
              exact this
            · refine q _ _ (.twice a b j i) ((((sm5.trans s6).trans s7).trans s8).trans (same_new nT9)) (hV _ ?_) ⟨T9, rfl, upd_same⟩
              rw [dropCons hr0]
              exact .twice hR ((sortP_perm _).mem_iff.mp (List.mem_of_getElem? hab)) ek (sorted_first hab hn)
        · refine ⟨_, _, _, rfl, s6.trans s7, fun pr hpr => ?_⟩
          rw [takeSucc hab] at hpr
          rcases List.mem_append.mp hpr with hpr | hpr
          · exact hn pr hpr
          · rw [List.mem_singleton.mp hpr]
            rw [hkv] at hc
            cases ek : kn a b with
            | none => rfl
            | some j =>
              rw [ek] at hc
              exact absurd rfl hc
      · obtain ⟨y6, y7, y8, rfl, s6, hn⟩ := hM
        rw [hyl, List.take_of_length_le (Nat.le_refl _)] at hn
        have hK6 := knownD_same hK5 s6
        have sm6 := sm5.trans s6
        -- for pair in together
        refine ⟨.ref u, rfl, u, rfl, ⟨_, SqL.of (s6 _ _ hu5)⟩, ?_⟩
        refine for_it (walk_list (xs := ys)) (fun m σ H7 => ∃ (y8 : Option V), σ = [some (.ref p), some (.ref l), some (.ref d), some (.int ((i : Nat) : Int)), some v2, some (.ref u), y6, y7, y8] ∧ Same H H7 ∧ H7 u = some (.lst ys) ∧ Paired (PairV H7) ys (sortP (pairsR r)) ∧ KnownD H7 d (kaddL kn ((sortP (pairsR r)).take m) i) (i * 4096 + m))
          ⟨y8, rfl, sm6, s6 _ _ hu5, paired_mono (fun _ _ z => z.mono (same_toT s6)) hys, by rw [List.take_zero, kaddL_nil]; exact hK6⟩ (fun m σ H7 _ h => ?_) (fun m x σ H7 H8 hm hM y => ?_) (fun σ H7 hM => ?_)
        · obtain ⟨_, _, _, h, _⟩ := h
          exact SqL.of h
        · obtain ⟨y8, rfl, s7, hu7, hy7, hK7⟩ := hM
          obtain ⟨rfl, hx⟩ := y
          obtain ⟨⟨a, b⟩, hab, T7, rfl, hT7⟩ := paired_getL hy7 hx
          obtain ⟨kvs', hput, hK8⟩ := knownD_put hK7 hT7 (by have := hS.n; omega)
          obtain ⟨kv0, hd0, _⟩ := id hK7
          have nud : u ≠ d := ne_of hu7 hd0 (by intro e; cases e)
          refine ⟨.int ((i : Nat) : Int), rfl, .ref d, rfl, .ref T7, rfl, d, _, rfl, hput, ?_⟩
          refine ⟨_, rfl, same_put s7 nd, by rw [upd_ne nud]; exact hu7, paired_mono (fun v pr h => ?_) hy7, ?_⟩
          · obtain ⟨w1, rfl, hw⟩ := h
            exact ⟨w1, rfl, by rw [upd_ne (ne_of hw hd0 (by intro e; cases e))]; exact hw⟩
          · rw [takeSucc hab]
            exact hK8
        · obtain ⟨y8, rfl, s7, hu7, hy7, hK7⟩ := hM
          rw [hyl, List.take_of_length_le (Nat.le_refl _), kaddL_perm (sortP_perm _)] at hK7
          refine ⟨kadd kn r i, _, _, _, _, _, _, rfl, s7, ?_, fun v hv => hV v ?_⟩
          · obtain ⟨kvs, e, h1, h2⟩ := hK7
            exact ⟨kvs, e, by omega, h2⟩
          · rw [dropCons hr0]
            exact .next hR (fun c e hm => hn (c, e) ((sortP_perm _).mem_iff.mpr hm)) hv
    · obtain ⟨kn, _, _, _, _, _, _, rfl, sm, hK, hV⟩ := hI2
      refine q .non H2 .good sm (hV _ ?_) rfl
      rw [hxl, List.drop_of_length_le (Nat.le_refl _)]
      exact .nil
end Nf

set_option Elab.async false
set_option linter.all false
set_option maxRecDepth 100000
set_option maxHeartbeats 4000000
namespace Nf
open PySem PySem.Spec PyProof.Rows L2
variable {P : Program} {w : World} {K : PySem.W.Frag} {mg : Str → Option Value} {base : Heap}
/-! ### few, many -/
/-- a display's row of written pairs -/
def pairsA : List (Int × Int) → TA
  | [] => tNil
  | p :: ps => tCons (tTup (tCons (tC (.int p.1)) (tCons (tC (.int p.2)) tNil))) (pairsA ps)
theorem pairsA_ok {σ : L2.St} : ∀ (ps : List (Int × Int)) {H : Hp} {Q : List V → Hp → Prop}, (∀ vs H', Same H H' → Paired (PairV H') vs ps → Q vs H') → pairsA ps σ H Q
  | [], H, Q, h => h [] H (Same.refl H) .nil
  | p :: ps, H, Q, h => by
    refine ⟨two_le, fun T nT => ?_⟩
    refine pairsA_ok ps fun vs H' s hv => ?_
    exact h _ H' ((same_new nT).trans s) (.cons ⟨T, rfl, s _ _ upd_same⟩ hv)
theorem lst_pairs {σ : L2.St} (ps : List (Int × Int)) {H : Hp} {Q : VK} (hl : ps.length ≤ sizeLine) (h : ∀ vs H' l, Same H H' → Paired (PairV H') vs ps → H' l = none → Q (.ref l) (upd H' l (.lst vs))) : tLst (pairsA ps) σ H Q := by
  refine pairsA_ok ps fun vs H' s hv => ⟨?_, fun l nl => h vs H' l s hv nl⟩
  rw [paired_len hv]
  exact hl
def fewL : List (Int × Int) := [(6, 2), (8, 2), (9, 3), (4, 2), (6, 3), (8, 4), (8, 2), (9, 3), (2, 2), (3, 3), (4, 4), (7, 7)]
theorem few_ok : ∀ p ∈ fewL, IsParty p.1 p.2 ∧ p.1 ≤ 9 := by
  intro p hp
  simp only [fewL, List.mem_cons, List.not_mem_nil, or_false] at hp
  rcases hp with h | h | h | h | h | h | h | h | h | h | h | h <;> (subst h; exact ⟨⟨by decide, by decide, by decide, by decide, by decide⟩, by decide⟩)
theorem scFew : FnScope ["_law_row", "_law_some"] ["_law_row"] (defScope lFew) := ⟨rfl, rfl, rfl, by decide +kernel, rfl, by decide +kernel, by decide +kernel⟩
def spFew (K : PySem.W.Frag) : Sp := fun vs H Q _ => ∃ (r a : Addr) (ns : List Int), vs = [.ref r] ∧ RowAt K H r a ns ∧ ∀ x H' g s, RowAt K H' r a ns → Sx r H H' → PairV H' x (g, s) → IsParty g s → g ≤ 9 → Q x H'
theorem ok_few {f fT : Addr} {fd fdT : FuncData} (F : Fun K "_law_few" "_law_few" lFew f fd) (B : Blt mg) (FT : Fun K "_law_taken" "_law_taken" lTaken fT fdT) (bT : Binds K fdT ["_law_row", "_law_many_here"] []) (gT : mg "_law_taken" = some (.ref fT)) : FnOk P w K mg base CX0 2 f fd ["_law_row"] (spFew K) := by
  have GT : FnOk P w K mg base CX0 1 fT fdT ["_law_row", "_law_many_here"] (spTaken K) := ok_taken FT B
  refine F.ok scFew (fun vs H Q E h => ?_) (fun cdv A outer s H vs Q E hr h => ?_)
  · obtain ⟨r, a, ns, rfl, _⟩ := h
    rfl
  · obtain ⟨r, a, ns, rfl, hR, q⟩ := h
    have pp : ∀ {X : Cx} {i j k l m n pos pos'}, PE X (.Tuple [.Constant (.int i) k pos, .Constant (.int j) l pos'] m n) (tTup (tCons (tC (.int i)) (tCons (tC (.int j)) tNil))) := pe_tup (pa_cons pe_int (pa_cons pe_int pa_nil))
    refine ⟨_, pss_cons (ps_set (i := 1) (te := tLst (pairsA fewL)) scFew.nd rfl (.inl rfl) (pe_lst (pa_cons pp (pa_cons pp (pa_cons pp (pa_cons pp (pa_cons pp (pa_cons pp (pa_cons pp (pa_cons pp (pa_cons pp (pa_cons pp (pa_cons pp (pa_cons pp pa_nil))))))))))))))
      (pss_one (ps_ret (pe_ix ix_list (pv 1) (pe_call GT hr (by rfl) gT FT.kp bT .nil pass0 (pa_cons (pv 0) (pa_cons pe_int pa_nil))) (fun _ _ => rfl)))), ?_⟩
    dsimp only [tSeq, tAsg]
    refine lst_pairs fewL (by decide) fun vs H1 l s1 hv nl => ?_
    have hvl := paired_len hv
    have h12 : vs.length = 12 := hvl
    have s2 : Same H1 (upd H1 l (.lst vs)) := same_new nl
    refine ⟨.ref l, rfl, .ref r, rfl, r, a, ns, 12, rfl, (hR.keep s1).keep s2, by decide, by decide, fun v H3 v0 v1 hR3 s3 => ?_⟩
    obtain ⟨xr, hxr⟩ := hR.lst
    have nlr : l ≠ r := fun e => by
      rw [e, s1 _ _ hxr] at nl
      cases nl
    have hlt : v.toNat < vs.length := by omega
    have hat : vs[v.toNat]? = some vs[v.toNat] := List.getElem?_eq_getElem hlt
    obtain ⟨p, hp, hx⟩ := paired_getL hv hat
    refine ⟨l, vs, v, vs[v.toNat], rfl, rfl, SqL.of (s3 _ _ nlr upd_same), ?_, ?_⟩
    · exact at_of (show v = ((v.toNat : Nat) : Int) by omega) hat
    · obtain ⟨h1, h2⟩ := few_ok p (List.mem_of_getElem? hp)
      have hT : SameT (upd H1 l (.lst vs)) H3 := Sx.toT s3 (s2 _ _ (s1 _ _ hxr))
      exact q _ H3 p.1 p.2 hR3 ((same_sx (s1.trans s2)).trans s3) ((hx.mono (same_toT s2)).mono hT) h1 h2
theorem scMany : FnScope ["_law_row", "_law_size", "_law_guests"] ["_law_row"] (defScope lMany) := ⟨rfl, rfl, rfl, by decide +kernel, rfl, by decide +kernel, by decide +kernel⟩
def spMany (K : PySem.W.Frag) : Sp := fun vs H Q _ => ∃ (r a : Addr) (ns : List Int), vs = [.ref r] ∧ RowAt K H r a ns ∧ ∀ x H' g s, RowAt K H' r a ns → Sx r H H' → PairV H' x (g, s) → IsParty g s → Q x H'
theorem many_party {s t : Int} (h0 : 2 ≤ s) (h1 : s ≤ 8) (t0 : 0 ≤ t) (t1 : t < 64 / s) : IsParty (s * (1 + t)) s := by
  have e : s * (64 / s) ≤ 64 := Int.mul_ediv_self_le (by omega)
  have m : s * (1 + t) ≤ s * (64 / s) := Int.mul_le_mul_of_nonneg_left (by omega) (by omega)
  have l : s * 1 ≤ s * (1 + t) := Int.mul_le_mul_of_nonneg_left (by omega) (by omega)
  exact ⟨by omega, by omega, h0, h1, Int.mul_emod_right _ _⟩
theorem ok_many {f fT fF : Addr} {fd fdT fdF : FuncData} (F : Fun K "_law_many" "_law_many" lMany f fd) (B : Blt mg) (FT : Fun K "_law_taken" "_law_taken" lTaken fT fdT) (bT : Binds K fdT ["_law_row", "_law_many_here"] []) (gT : mg "_law_taken" = some (.ref fT))
    (FF : Fun K "_law_few" "_law_few" lFew fF fdF) (bF : Binds K fdF ["_law_row"] []) (gF : mg "_law_few" = some (.ref fF)) : FnOk P w K mg base CX0 3 f fd ["_law_row"] (spMany K) := by
  have GT : FnOk P w K mg base CX0 1 fT fdT ["_law_row", "_law_many_here"] (spTaken K) := ok_taken FT B
  have GF : FnOk P w K mg base CX0 2 fF fdF ["_law_row"] (spFew K) := ok_few FF B FT bT gT
  refine F.ok scMany (fun vs H Q E h => ?_) (fun cdv A outer s H vs Q E hr h => ?_)
  · obtain ⟨r, a, ns, rfl, _⟩ := h
    rfl
  · obtain ⟨r, a, ns, rfl, hR, q⟩ := h
    have hr1 : Room 1 _ := hr.mono (by decide)
    refine ⟨_, pss_cons (ps_set (i := 1) scMany.nd rfl (.inl rfl) (pe_op op_add pe_int (pe_call GT hr1 (by rfl) gT FT.kp bT .nil pass0 (pa_cons (pv 0) (pa_cons pe_int pa_nil)))))
      (pss_cons (ps_set (i := 2) scMany.nd rfl (.inl rfl) (pe_op op_mul (pv 1) (pe_op op_add pe_int (pe_call GT hr1 (by rfl) gT FT.kp bT .nil pass0 (pa_cons (pv 0) (pa_cons (pe_op op_fdiv pe_int (pv 1)) pa_nil))))))
      (pss_one (ps_ret (pe_ix ix_list (pe_lst (pa_cons (pe_call GF hr (by rfl) gF FF.kp bF .nil pass0 (pa_cons (pv 0) pa_nil)) (pa_cons (pe_tup (pa_cons (pv 2) (pa_cons (pv 1) pa_nil))) pa_nil)))
        (pe_call GT hr1 (by rfl) gT FT.kp bT .nil pass0 (pa_cons (pv 0) (pa_cons pe_int pa_nil))) (fun _ _ => rfl))))), ?_⟩
    refine ⟨.ref r, rfl, r, a, ns, 7, rfl, hR, by decide, by decide, fun v H1 v0 v1 R1 s1 => ⟨2, v, rfl, rfl, ?_⟩⟩
    refine ⟨.int (2 + v), rfl, .ref r, rfl, .int (2 + v), rfl, 64, 2 + v, rfl, rfl, ⟨by omega, by omega⟩, r, a, ns, 64 / (2 + v), rfl, R1, ?_, ?_, fun t H2 t0 t1 R2 s2 => ⟨1, t, rfl, rfl, 2 + v, 1 + t, rfl, rfl, .inl ⟨by omega, by omega⟩, ?_⟩⟩
    · have : 1 ≤ 64 / (2 + v) := Int.le_ediv_of_mul_le (by omega) (by omega)
      omega
    · have : 64 / (2 + v) ≤ 64 := Int.ediv_le_self _ (by omega)
      omega
    refine ⟨.ref r, rfl, r, a, ns, rfl, R2, fun x H3 g z R3 s3 hx hI _ => ?_⟩
    refine ⟨.int ((2 + v) * (1 + t)), rfl, .int (2 + v), rfl, two_le, fun T nT => ?_⟩
    have s4 : Same H3 (upd H3 T (.tup [.int ((2 + v) * (1 + t)), .int (2 + v)])) := same_new nT
    refine ⟨two_le, fun l nl => ?_⟩
    have s5 := s4.trans (same_new (o := .lst [x, .ref T]) nl)
    refine ⟨.ref r, rfl, r, a, ns, 2, rfl, R3.keep s5, by decide, by decide, fun u H6 u0 u1 R6 s6 => ?_⟩
    obtain ⟨xr, hxr⟩ := R3.lst
    have hT5 : SameT (upd (upd H3 T (.tup [.int ((2 + v) * (1 + t)), .int (2 + v)])) l (.lst [x, .ref T])) H6 := Sx.toT s6 (s5 _ _ hxr)
    have sx := ((s1.trans s2).trans s3).trans ((same_sx s5).trans s6)
    have nlr : l ≠ r := fun e => by
      rw [e, s4 _ _ hxr] at nl
      cases nl
    have hl6 := s6 _ _ nlr upd_same
    by_cases hu : u = 0
    · subst hu
      exact ⟨l, _, 0, x, rfl, rfl, SqL.of hl6, rfl, q x H6 g z R6 sx ((hx.mono (same_toT s5)).mono hT5) hI⟩
    · have e1 : u = 1 := by omega
      subst e1
      refine ⟨l, _, 1, .ref T, rfl, rfl, SqL.of hl6, rfl, q _ H6 ((2 + v) * (1 + t)) (2 + v) R6 sx ⟨T, rfl, hT5 _ _ ?_⟩ (many_party (by omega) (by omega) t0 t1)⟩
      rw [upd_ne (ne_of_none upd_same nl)]
      exact upd_same
end Nf

set_option Elab.async false
set_option linter.all false
set_option maxRecDepth 100000
set_option maxHeartbeats 4000000
namespace Nf
open PySem PySem.Spec PyProof.Rows L2
variable {P : Program} {w : World} {K : PySem.W.Frag} {mg : Str → Option Value} {base : Heap}
/-! ### mixed -/
theorem scMixed : FnScope ["_law_row", "_law_some", "_law_left", "_law_found"] ["_law_row", "_law_some"] (defScope lMixed) := ⟨rfl, rfl, rfl, by decide +kernel, rfl, by decide +kernel, by decide +kernel⟩
def spMixed (K : PySem.W.Frag) : Sp := fun vs H Q _ => ∃ (r a b : Addr) (ns l : List Int), vs = [.ref r, .ref b] ∧ RowAt K H r a ns ∧ SqL K H b (l.map V.int) ∧ l.length ≤ 100000 ∧
  ∀ (q : Addr) (H' : Hp) (l' : List Int), RowAt K H' r a ns → Sx r H H' → H q = none → H' q = some (.lst (l'.map V.int)) → l'.Perm l → Q (.ref q) H'
theorem eqv_nil (l : List Int) : PyData.eqv (.list (l.map .int)) (.list []) = l.isEmpty := by
  cases l <;> simp [PyData.eqv, PyData.eqvAll]
theorem shNil : SeqAt.shaped (.list []) = true := by decide +kernel
theorem erase_map : ∀ (l : List Int) (j : Nat), (l.map V.int).eraseIdx j = (l.eraseIdx j).map V.int
  | [], _ => rfl
  | _ :: _, 0 => rfl
  | x :: l, j + 1 => by
    simp only [List.map_cons, List.eraseIdx_cons_succ, erase_map l j]
theorem seqIx {l : List Int} {v : Int} (h0 : 0 ≤ v) (h1 : v < l.length) : seqIndex? v (l.map V.int).length = some v.toNat := by
  unfold seqIndex?
  rw [List.length_map]
  have h2 : ¬ v < 0 := by omega
  simp [h2]
  omega
theorem ok_mixed {f fT : Addr} {fd fdT : FuncData} (F : Fun K "_law_mixed" "_law_mixed" lMixed f fd) (B : Blt mg) (FT : Fun K "_law_taken" "_law_taken" lTaken fT fdT) (bT : Binds K fdT ["_law_row", "_law_many_here"] []) (gT : mg "_law_taken" = some (.ref fT)) : FnOk P w K mg base CX0 2 f fd ["_law_row", "_law_some"] (spMixed K) := by
  have GT : FnOk P w K mg base CX0 1 fT fdT ["_law_row", "_law_many_here"] (spTaken K) := ok_taken FT B
  refine F.ok scMixed (fun vs H Q E h => ?_) (fun cdv A outer s H vs Q E hr h => ?_)
  · obtain ⟨r, a, b, ns, l, rfl, _⟩ := h
    rfl
  · obtain ⟨r, a, b, ns, l, rfl, hR, hS, hlen, q⟩ := h
    refine ⟨_, pss_cons (ps_set (i := 2) scMixed.nd rfl (.inl rfl) (pe_callTy call_list_of (by rfl) B.list (by decide +kernel) (pa_cons (pv 1) pa_nil)))
      (pss_cons (ps_set (i := 3) scMixed.nd rfl (.inl rfl) (pe_lst pa_nil))
      (pss_cons (ps_while PassesOwn.never (pt_cmpR (op_neD hr.units) (pv 2) (pe_lst pa_nil) (nomark _))
        (pss_one (ps_expr (pe_bm PySem.F.plainAttrs_list PySem.F.slot_list_append PySem.F.type_list_append mt_append (pv 3) (pa_cons
          (pe_bm PySem.F.plainAttrs_list PySem.F.slot_list_pop PySem.F.type_list_pop mt_popAt (pv 2) (pa_cons (pe_call GT hr (by rfl) gT FT.kp bT .nil pass0 (pa_cons (pv 0) (pa_cons (pe_callB call_len_seq (by rfl) B.len PySem.boot_len (pa_cons (pv 2) pa_nil)) pa_nil))) pa_nil)) pa_nil)))))
      (pss_one (ps_ret (pv 3))))), ?_⟩
    have big : (100000 : Nat) < sizeLine := by decide
    refine ⟨.ref b, rfl, b, _, rfl, .inl hS, fun c nc => ?_⟩
    have s1 : Same H (upd H c (.lst (l.map V.int))) := same_new nc
    refine ⟨Nat.zero_le _, fun d nd => ?_⟩
    have s2 := s1.trans (same_new (o := .lst []) nd)
    have hcd : c ≠ d := ne_of_none upd_same nd
    have nd0 : H d = none := s1.free nd
    obtain ⟨xr0, hxr0⟩ := hR.lst
    have ncr : c ≠ r := fun e => by
      rw [e, hxr0] at nc
      cases nc
    have ndr : d ≠ r := fun e => by
      rw [e, hxr0] at nd0
      cases nd0
    refine while_by (fun σ H2 => ∃ (m k : List Int), σ = [some (.ref r), some (.ref b), some (.ref c), some (.ref d)] ∧ RowAt K H2 r a ns ∧ Sx r H H2 ∧ H2 c = some (.lst (m.map V.int)) ∧ H2 d = some (.lst (k.map V.int)) ∧ (k ++ m).Perm l)
      (fun σ H2 => match H2 c with | some (.lst xs) => xs.length | _ => 0) ⟨l, [], rfl, hR.keep s2, same_sx s2, ?_, upd_same, by simp⟩ (fun σ H2 h => ?_) (fun σ H2 Q1 Q2 hq h => ?_)
    · rw [upd_ne hcd]
      exact upd_same
    · obtain ⟨m, k, rfl, R2, sx, hc, hd, hp⟩ := h
      obtain ⟨xr, hxr⟩ := R2.lst
      have hml : k.length + m.length = l.length := by
        rw [← hp.length_eq, List.length_append]
      refine ⟨.ref c, rfl, Nat.zero_le _, fun e ne => ?_⟩
      have s3 : Same H2 (upd H2 e (.lst [])) := same_new ne
      refine ⟨.list (m.map .int), .list [], .lst (SqL.of (s3 _ _ hc)) (dpAll_ints m), .lst (SqL.of upd_same) .nil, shInts m, shNil, _, rfl, ?_⟩
      rw [eqv_nil]
      cases m with
      | nil =>
        refine iteF ?_
        have hkp : k.Perm l := by simpa using hp
        exact ⟨.ref d, rfl, q d _ k (R2.keep s3) (sx.trans (same_sx s3)) nd0 (s3 _ _ hd) hkp⟩
      | cons m0 m' =>
        refine iteT ?_
        refine ⟨.ref d, rfl, .inl ⟨rfl, _, SqL.of (s3 _ _ hd)⟩, .ref c, rfl, .inl ⟨rfl, _, SqL.of (s3 _ _ hc)⟩, .ref r, rfl, .ref c, rfl, c, _, rfl, .inl (SqL.of (s3 _ _ hc)), r, a, ns, _, rfl, R2.keep s3, ?_, ?_, fun v H4 v0 v1 R4 s4 => ?_⟩
        · rw [List.length_map, List.length_cons]
          omega
        · rw [List.length_map]
          omega
        rw [List.length_map] at v1
        have hc4 := s4 _ _ ncr (s3 _ _ hc)
        have hd4 := s4 _ _ ndr (s3 _ _ hd)
        have hlt : v.toNat < (m0 :: m').length := by omega
        refine ⟨c, _, v, v.toNat, .int (m0 :: m')[v.toNat], rfl, rfl, hc4, by omega, ?_, seqIx v0 v1, int_getElem? (List.getElem?_eq_getElem hlt), ?_⟩
        · rw [List.length_cons] at *
          omega
        have hd5 : (upd H4 c (.lst (((m0 :: m').map V.int).eraseIdx v.toNat))) d = some (.lst (k.map V.int)) := by
          rw [upd_ne hcd.symm]
          exact hd4
        refine ⟨d, _, _, rfl, rfl, hd5, ?_, ?_⟩
        · rw [List.length_map]
          rw [List.length_cons] at hml
          omega
        refine ⟨⟨(m0 :: m').eraseIdx v.toNat, k ++ [(m0 :: m')[v.toNat]], rfl, ?_, ?_, ?_, ?_, ?_⟩, ?_⟩
        · exact row_put hR nd0 (row_put hR nc R4)
        · exact sx_put (sx_put ((sx.trans (same_sx s3)).trans s4) nc) nd0
        · rw [upd_ne hcd, upd_same, erase_map]
        · rw [upd_same, List.map_append]
          rfl
        · refine List.Perm.trans ?_ hp
          rw [List.append_assoc]
          exact List.Perm.append_left _ (perm_erase hlt)
        · show (match (upd (upd H4 c _) d _) c with | some (.lst xs) => xs.length | _ => 0) < (match H2 c with | some (.lst xs) => xs.length | _ => 0)
          rw [upd_ne hcd, upd_same, hc]
          show (((m0 :: m').map V.int).eraseIdx v.toNat).length < ((m0 :: m').map V.int).length
          rw [erase_map, List.length_map, List.length_map, List.length_eraseIdx_of_lt hlt]
          simp
    · obtain ⟨v, e, z, h⟩ := h
      exact ⟨v, e, z, fun p np => by
        obtain ⟨d1, e1, h1, h2, h3, h4, k1, ek, hk⟩ := h p np
        exact ⟨d1, e1, h1, h2, h3, h4, k1, ek, hq _ _ hk⟩⟩
end Nf

set_option Elab.async false
set_option linter.all false
set_option maxRecDepth 100000
set_option maxHeartbeats 4000000
namespace Nf
open PySem PySem.Spec PyProof.Rows L2
variable {P : Program} {w : World} {K : PySem.W.Frag} {mg : Str → Option Value} {base : Heap}
/-! ### seated -/
theorem cutMid (xs : List V) (i j : Nat) : cutV xs (some ((i : Nat) : Int)) (some ((i + j : Nat) : Int)) = (xs.drop i).take j := by
  unfold cutV
  rw [HT.sIx_nat xs.length 0 i, HT.sIx_nat xs.length xs.length (i + j)]
  refine List.ext_getElem? fun k => ?_
  rw [List.getElem?_take, List.getElem?_take, List.getElem?_drop, List.getElem?_drop]
  by_cases h1 : i ≤ xs.length
  · rw [Nat.min_eq_left h1]
    by_cases h2 : k < j
    · rw [if_pos h2]
      by_cases h3 : k < min (i + j) xs.length - i
      · rw [if_pos h3]
      · rw [if_neg h3, List.getElem?_eq_none (by omega)]
    · rw [if_neg h2, if_neg (by omega)]
  · rw [Nat.min_eq_right (by omega)]
    rw [List.getElem?_eq_none (by omega), List.getElem?_eq_none (by omega)]
    simp
theorem size_chunks {n z : Nat} (hs : 1 ≤ z) : Builtin.Range.rangeSize 0 ((n * z : Nat) : Int) (z : Nat) = n := by
  unfold Builtin.Range.rangeSize
  rw [if_pos (by omega)]
  cases n with
  | zero => simp
  | succ m =>
    have e0 : (((m + 1) * z : Nat) : Int) = (z : Int) * m + z := by
      rw [Nat.add_mul, Nat.one_mul, Int.natCast_add, Int.natCast_mul, Int.mul_comm]
    have hm : (0 : Int) ≤ (z : Int) * m := Int.mul_nonneg (by omega) (by omega)
    rw [if_pos (by omega)]
    have e : (((m + 1) * z : Nat) : Int) - 0 - 1 = ((z : Int) - 1) + (z : Int) * m := by omega
    rw [e, Int.add_mul_ediv_left _ _ (by omega), Int.ediv_eq_zero_of_lt (by omega) (by omega)]
    omega
theorem rgc_chunks {n z : Nat} (hs : 1 ≤ z) (hs8 : z ≤ 1000) (hn : n * z ≤ 100000) : RgC 0 ((n * z : Nat) : Int) (z : Nat) n := by
  refine ⟨by omega, by omega, ?_, size_chunks hs⟩
  have hnn : n ≤ 100000 := Nat.le_trans (Nat.le_mul_of_pos_right n hs) hn
  unfold Builtin.Range.small
  rw [size_chunks hs]
  generalize n * z = N at *
  have hz : ((z : Nat) : Int) > 0 := by omega
  simp only [Builtin.Range.rangeFitsLong, Bool.and_eq_true, Bool.or_eq_true, decide_eq_true_eq, beq_iff_eq, hz, if_true]
  first | omega | (split <;> omega)
theorem scSeated : FnScope ["_law_guests", "_law_size", "_law_some", "_law_k"] ["_law_guests", "_law_size"] (defScope lSeated) := ⟨rfl, rfl, rfl, by decide +kernel, rfl, by decide +kernel, by decide +kernel⟩
def spSeated (K : PySem.W.Frag) : Sp := fun vs H Q _ => ∃ (b : Addr) (l : List Int) (s n : Nat), vs = [.ref b, .int (s : Nat)] ∧ SqL K H b (l.map V.int) ∧ 1 ≤ s ∧ s ≤ 1000 ∧ l.length = n * s ∧ n * s ≤ 100000 ∧
  ∀ x H', Same H H' → RndV H' x (seatedM l s n) → Q x H'
theorem ok_seated {f : Addr} {fd : FuncData} (F : Fun K "_law_seated" "_law_seated" lSeated f fd) (B : Blt mg) : FnOk P w K mg base CX0 1 f fd ["_law_guests", "_law_size"] (spSeated K) := by
  refine F.ok scSeated (fun vs H Q E h => ?_) (fun cdv A outer s H vs Q E hr h => ?_)
  · obtain ⟨b, l, s, n, rfl, _⟩ := h
    rfl
  · obtain ⟨b, l, z, n, rfl, hS, hz1, hz2, hl, hn, q⟩ := h
    have hll : l.length ≤ 100000 := by omega
    have big : (100000 : Nat) < sizeLine := by decide
    refine ⟨_, pss_cons (ps_setLcN (i := 2) (own := [("_law_k", 3)]) (wi := iRng3 (tCons (tC (.int 0)) (tCons (tCB (fun xs H Q => ∃ p ys, xs = [.ref p] ∧ (SqL K H p ys ∨ SqT K H p ys) ∧ Q (.int ys.length) H) (tCons (tVar 0) tNil)) (tCons (tVar 1) tNil))))
        (t := tCl (gName 3) tYes [3] (bLast (tCB (fun xs H Q => ∃ p ys, xs = [.ref p] ∧ ((SqL K H p ys ∧ ∀ l, H l = none → Q (.ref l) (upd H l (.tup ys))) ∨ (SqT K H p ys ∧ Q (.ref p) H))) (tCons (tCB (rSortD K (fun i : Int => PyData.int i)) (tCons (tSl (rSlL K) (tVar 0) (tPart (tVar 3)) (tPart (tOp (rI0 fun i j => .int (i + j)) (tVar 3) (tVar 1)))) tNil)) tNil))))
        (by rfl) scSeated.nd rfl rfl (sw_true rfl rfl rfl (by decide +kernel)) (pi_range3 (by rfl) B.range (pa_cons pe_int (pa_cons (pe_callB call_len_seq (by rfl) B.len PySem.boot_len (pa_cons (pv 0) pa_nil)) (pa_cons (pv 1) pa_nil))))
        (blkOk_by (N := ["_law_guests", "_law_size", "_law_some", "_law_k"]) (sc := defScope lSeated) (by decide +kernel))
        (fun _ _ _ _ _ => pcl_last rfl rfl rfl rfl (pg_name (i := 3) (x := "_law_k") scSeated.nd rfl (.inl rfl) (.inr rfl)) pts_nil (pe_callTy call_tuple_of (by rfl) B.tuple (by decide +kernel) (pa_cons (pe_callB (cr_sortD (fun i : Int => PyData.int i) hr.units) (by rfl) B.sorted (by decide +kernel)
          (pa_cons (pe_slice sl_list (pv 0) (po_some (pv 3)) (po_some (pe_op op_add (pv 3) (pv 1)))) pa_nil)) pa_nil))))
      (pss_one (ps_ret (pe_callTy call_tuple_of (by rfl) B.tuple (by decide +kernel) (pa_cons (pe_callB (cr_sortD dT hr.units) (by rfl) B.sorted (by decide +kernel) (pa_cons (pv 2) pa_nil)) pa_nil)))), ?_⟩
    refine ⟨.ref b, rfl, b, _, rfl, .inl hS, .int (z : Nat), rfl, 0, _, _, n, rfl, ?_, fun D nD => ?_⟩
    · rw [List.length_map, hl]
      exact rgc_chunks hz1 hz2 hn
    have s0 : Same H (upd H D (.lst [])) := same_new nD
    show tCl (gName 3) tYes [3] _ _ D [some (.ref b), some (.int ((z : Nat) : Int)), none, none] _ _
    refine cl_it walk_rangeC (fun i H2 => Same H H2 ∧ ∃ acc, H2 D = some (.lst acc) ∧ Paired (TabV H2) acc ((List.range i).map fun i => sortI ((l.drop (i * z)).take z))) ⟨s0, [], upd_same, .nil⟩ (fun _ _ _ _ => trivial) (fun i x H2 H3 hi hI y => ?_) (fun H2 hI => ?_)
    · obtain ⟨rfl, rfl⟩ := y
      obtain ⟨sm, acc, hD, hp⟩ := hI
      refine ⟨wipe_put (by decide), yesT ?_⟩
      show bLast _ D [some (.ref b), some (.int ((z : Nat) : Int)), none, some (.int (0 + (i : Nat) * ((z : Nat) : Int)))] _ _
      refine ⟨.ref b, rfl, .int (0 + (i : Nat) * ((z : Nat) : Int)), rfl, _, rfl, .int (0 + (i : Nat) * ((z : Nat) : Int)), rfl, .int ((z : Nat) : Int), rfl, _, _, rfl, rfl, _, rfl, b, _, rfl, sm.seq hS, fun c nc => ?_⟩
      have e1 : (0 : Int) + (i : Nat) * ((z : Nat) : Int) = ((i * z : Nat) : Int) := by
        rw [Int.natCast_mul]
        omega
      have e2 : (0 : Int) + (i : Nat) * ((z : Nat) : Int) + ((z : Nat) : Int) = ((i * z + z : Nat) : Int) := by
        rw [Int.natCast_add, Int.natCast_mul]
        omega
      have ec : cutV (l.map V.int) (some (0 + (i : Nat) * ((z : Nat) : Int))) (some (0 + (i : Nat) * ((z : Nat) : Int) + ((z : Nat) : Int))) = ((l.drop (i * z)).take z).map V.int := by
        rw [e2, e1, cutMid, List.map_take, List.map_drop]
      rw [ec]
      have s1 : Same H3 (upd H3 c (.lst (((l.drop (i * z)).take z).map V.int))) := same_new nc
      dsimp only [tNil]
      refine sort_ints (.inl (SqL.of upd_same)) fun p np => ?_
      have s2 := s1.trans (same_new (o := .lst ((sortI ((l.drop (i * z)).take z)).map V.int)) np)
      refine ⟨p, _, rfl, .inl ⟨SqL.of upd_same, fun t nt => ?_⟩⟩
      have s3 := s2.trans (same_new (o := .tup ((sortI ((l.drop (i * z)).take z)).map V.int)) nt)
      have hD3 := s3 _ _ hD
      refine ⟨acc, hD3, ?_, same_put (sm.trans s3) nD, acc ++ [.ref t], upd_same, ?_⟩
      · have := paired_len hp
        simp only [List.length_map, List.length_range] at this
        have : i ≤ n * z := Nat.le_trans (Nat.le_of_lt hi) (Nat.le_mul_of_pos_right n hz1)
        omega
      · have keepT : ∀ {v : V} {u : Tbl}, TabV _ v u → TabV (upd _ D (.lst (acc ++ [.ref t]))) v u := fun {v u} h => by
          obtain ⟨a, rfl, ha⟩ := h
          exact ⟨a, rfl, by rw [upd_ne (ne_of ha hD3 (by intro e; cases e))]; exact ha⟩
        rw [List.range_succ, List.map_append]
        exact paired_snoc (paired_mono (fun v u h => keepT (h.mono (same_toT s3))) hp) (keepT ⟨t, rfl, upd_same⟩)
    · obtain ⟨sm, acc, hD, hp⟩ := hI
      refine ⟨.ref D, rfl, ?_⟩
      dsimp only [tNil]
      refine sort_tabs (.inl (SqL.of hD)) hp (fun t ht => ?_) fun ys p np hys => ?_
      · obtain ⟨i, hi, rfl⟩ := List.mem_map.mp ht
        have hi := List.mem_range.mp hi
        intro e
        have e2 : (sortI ((l.drop (i * z)).take z)).length = 0 := by rw [e]; rfl
        rw [(sortI_perm _).length_eq, List.length_take, List.length_drop, hl] at e2
        have h3 : (i + 1) * z ≤ n * z := Nat.mul_le_mul_right z hi
        rw [Nat.add_mul, Nat.one_mul] at h3
        omega
      · have s1 : Same H2 (upd H2 p (.lst ys)) := same_new np
        refine ⟨p, _, rfl, .inl ⟨SqL.of upd_same, fun t nt => ?_⟩⟩
        have s2 := s1.trans (same_new (o := .tup ys) nt)
        exact q _ _ (sm.trans s2) ⟨t, ys, rfl, upd_same, paired_mono (fun _ _ h => h.mono (same_toT s2)) hys⟩
end Nf

set_option Elab.async false
set_option linter.all false
set_option maxRecDepth 100000
set_option maxHeartbeats 4000000
namespace Nf
open PySem PySem.Spec PyProof.Rows L2
variable {P : Program} {w : World} {K : PySem.W.Frag} {mg : Str → Option Value} {base : Heap}
/-! ### the law's pairs, known, new -/
theorem scLPairs : FnScope ["_law_tables", "_law_found", "_law_table", "_law_k", "_law_other"] ["_law_tables"] (defScope lPairs) := ⟨rfl, rfl, rfl, by decide +kernel, rfl, by decide +kernel, by decide +kernel⟩
def spLPairs : Sp := fun vs H Q _ => ∃ (x : V) (r : Rnd), vs = [x] ∧ RndV H x r ∧ (pairsR r).length ≤ 100000 ∧ (∀ t ∈ r, t.length ≤ 100000) ∧
  ∀ H' q ys, Same H H' → H q = none → H' q = some (.lst ys) → Paired (PairV H') ys (pairsR r) → Q (.ref q) H'
theorem ok_lpairs {f : Addr} {fd : FuncData} (F : Fun K "_law_pairs" "_law_pairs" lPairs f fd) (B : Blt mg) : FnOk P w K mg base CX0 1 f fd ["_law_tables"] spLPairs := by
  refine F.ok scLPairs (fun vs H Q E h => ?_) (fun cdv A outer s H vs Q E hr h => ?_)
  · obtain ⟨x, r, rfl, _⟩ := h
    rfl
  · obtain ⟨x, r, rfl, ⟨p, xs, rfl, hp, hxs⟩, hlen, htl, q⟩ := h
    refine ⟨_, pss_cons (ps_set (i := 1) scLPairs.nd rfl (.inl rfl) (pe_lst pa_nil))
      (pss_cons (ps_for PassesOwn.never rfl (pi_tup (pv 0)) (pg_name (i := 2) scLPairs.nd rfl (.inl rfl))
        (pss_one (ps_for PassesOwn.never rfl (pi_range1 (by rfl) B.range (pa_cons (pe_callB call_len_seq (by rfl) B.len PySem.boot_len (pa_cons (pv 2) pa_nil)) pa_nil)) (pg_name (i := 3) scLPairs.nd rfl (.inl rfl))
          (pss_one (ps_for PassesOwn.never rfl (pi_tup (pe_slice sl_tupA (pv 2) (po_some (pe_op op_add (pv 3) pe_int)) po_none)) (pg_name (i := 4) scLPairs.nd rfl (.inl rfl))
            (pss_one (ps_expr (pe_bm PySem.F.plainAttrs_list PySem.F.slot_list_append PySem.F.type_list_append mt_append (pv 1) (pa_cons (pe_tup (pa_cons (pe_ix ix_tup (pv 2) (pv 3) (fun _ _ => rfl)) (pa_cons (pv 4) pa_nil))) pa_nil)))))))))
      (pss_one (ps_ret (pv 1)))), ?_⟩
    have hxl := paired_len hxs
    have hpl : (pairsR r).length < sizeLine := Nat.lt_of_le_of_lt hlen (by decide)
    refine ⟨Nat.zero_le _, fun D nD => ?_⟩
    have s0 : Same H (upd H D (.lst [])) := same_new nD
    refine ⟨.ref p, rfl, p, rfl, ⟨_, SqT.of (s0 _ _ hp)⟩, ?_⟩
    refine for_it (walk_tup (xs := xs)) (fun i σ H2 => ∃ (y2 y3 y4 : Option V), σ = [some (.ref p), some (.ref D), y2, y3, y4] ∧ PrI H D r H2 (pairsR (r.drop i))) ⟨none, none, none, rfl, s0, [], [], upd_same, .nil, by simp⟩ (fun i σ H2 _ h => ?_) (fun i x σ H2 H3 hi hI y => ?_) (fun σ H2 hI => ?_)
    · obtain ⟨_, _, _, _, h⟩ := h
      exact SqT.of (h.1 _ _ hp)
    · obtain ⟨y2, y3, y4, rfl, hI⟩ := hI
      obtain ⟨rfl, hx⟩ := y
      obtain ⟨t, ht, a, rfl, ha⟩ := paired_getL hxs hx
      have haT : ∀ {H' : Hp}, Same H H' → SqT K H' a (t.map V.int) := fun sm => SqT.of (sm _ _ ha)
      have ht5 := htl t (List.mem_of_getElem? ht)
      refine ⟨.ref a, rfl, a, _, rfl, .inr (haT hI.1), _, rfl, by omega, by rw [List.length_map]; omega, ?_⟩
      refine for_it walk_range (fun j σ H2 => ∃ (y3 y4 : Option V), σ = [some (.ref p), some (.ref D), some (.ref a), y3, y4] ∧ PrI H D r H2 (pairsT (t.drop j) ++ pairsR (r.drop (i + 1)))) ⟨y3, y4, rfl, hI.rem (by rw [List.drop_zero]; exact pairsR_drop ht)⟩ (fun _ _ _ _ _ => trivial) (fun j x σ H2 H3 hj hJ y => ?_) (fun σ H2 hJ => ?_)
      · obtain ⟨y3, y4, rfl, hJ⟩ := hJ
        obtain ⟨rfl, rfl⟩ := y
        have hjt : j < t.length := by
          rw [List.length_map] at hj
          omega
        have hn : t[j]? = some t[j] := List.getElem?_eq_getElem hjt
        generalize t[j] = n at hn
        have ej : (0 : Int) + (j : Nat) = ((j : Nat) : Int) := by omega
        have e1 : (0 : Int) + (j : Nat) + 1 = ((j + 1 : Nat) : Int) := by omega
        refine ⟨.ref a, rfl, .int (0 + (j : Nat)), rfl, _, _, rfl, rfl, _, rfl, a, _, rfl, haT hJ.1, fun hw => ?_, fun hw c nc => ?_⟩
        · have hz := hw.1
          rw [e1, HT.sIx_nat] at hz
          rw [List.length_map] at hz
          omega
        rw [e1, cutFrom, ← List.map_drop]
        have hJ2 := hJ.keep (same_new (o := .tup ((t.drop (j + 1)).map V.int)) nc)
        refine ⟨c, rfl, ⟨_, SqT.of upd_same⟩, ?_⟩
        refine for_it (walk_tup (xs := (t.drop (j + 1)).map V.int)) (fun m σ H2 => ∃ y4 : Option V, σ = [some (.ref p), some (.ref D), some (.ref a), some (.int (0 + (j : Nat))), y4] ∧ PrI H D r H2 (((t.drop (j + 1)).drop m).map (fun b => (n, b)) ++ (pairsT (t.drop (j + 1)) ++ pairsR (r.drop (i + 1)))) ∧ H2 c = some (.tup ((t.drop (j + 1)).map V.int)))
          ⟨y4, rfl, hJ2.rem (by rw [List.drop_zero, pairsT_drop hn, List.append_assoc]), upd_same⟩ (fun m σ H2 _ h => ?_) (fun m x σ H2 H3 hm hM y => ?_) (fun σ H2 hM => ?_)
        · obtain ⟨_, _, _, h⟩ := h
          exact SqT.of h
        · obtain ⟨y4, rfl, ⟨sm, acc, ps, hD, hps, e⟩, hc⟩ := hM
          obtain ⟨rfl, hx⟩ := y
          obtain ⟨b, hb, rfl⟩ := getElem?_int hx
          refine ⟨.ref D, rfl, .inl ⟨rfl, _, SqL.of hD⟩, .ref a, rfl, .int (0 + (j : Nat)), rfl, a, _, _, .int n, rfl, rfl, haT sm, ?_, .int b, rfl, two_le, fun T2 nT2 => ?_⟩
          · rw [ej]
            exact atI_nat (int_getElem? hn)
          have nDT : D ≠ T2 := ne_of_none hD nT2
          rw [dropCons hb, List.map_cons, List.cons_append] at e
          have s3 : Same H3 (upd H3 T2 (.tup [.int n, .int b])) := same_new nT2
          refine ⟨D, acc, _, rfl, rfl, (upd_ne nDT).trans hD, ?_, ⟨_, rfl, ⟨same_put (sm.trans s3) nD, acc ++ [.ref T2], ps ++ [(n, b)], upd_same, ?_, ?_⟩, ?_⟩⟩
          · have hl : ps.length ≤ (pairsR r).length := by
              rw [← e, List.length_append]
              omega
            have := paired_len hps
            omega
          · have keepT : ∀ {z : V} {pr : Int × Int}, PairV (upd H3 T2 (.tup [.int n, .int b])) z pr → PairV (upd (upd H3 T2 (.tup [.int n, .int b])) D (.lst (acc ++ [.ref T2]))) z pr := fun {z pr} h => by
              obtain ⟨u, rfl, hu⟩ := h
              refine ⟨u, rfl, ?_⟩
              rw [upd_ne (ne_of hu ((upd_ne nDT).trans hD) (by intro z; cases z))]
              exact hu
            exact paired_snoc (paired_mono (fun z pr h => keepT (h.mono (same_toT s3))) hps) (keepT ⟨T2, rfl, upd_same⟩)
          · rw [List.append_assoc]
            exact e
          · have ncD : c ≠ D := ne_of hc hD (by intro z; cases z)
            rw [upd_ne ncD]
            exact s3 _ _ hc
        · obtain ⟨y4, rfl, hM, _⟩ := hM
          exact ⟨_, _, rfl, hM.rem (by rw [List.length_map, List.drop_of_length_le (Nat.le_refl _)]; rfl)⟩
      · obtain ⟨y3, y4, rfl, hJ⟩ := hJ
        refine ⟨_, _, _, rfl, hJ.rem ?_⟩
        rw [List.length_map, show (((t.length : Nat) : Int)).toNat = t.length by omega, List.drop_of_length_le (Nat.le_refl _)]
        rfl
    · obtain ⟨y2, y3, y4, rfl, sm, acc, ps, hD, hps, e⟩ := hI
      rw [hxl, List.drop_of_length_le (Nat.le_refl _)] at e
      have e2 : ps = pairsR r := by simpa [pairsR] using e
      subst e2
      exact ⟨.ref D, rfl, q H2 D acc sm nD hD hps⟩
/-- the pairs that a dict knows -/
def KnS (H : Hp) (d : Addr) (ps : List (Int × Int)) (N : Nat) : Prop := ∃ kvs : List (List Key × V), H d = some (.dT kvs) ∧ kvs.length ≤ N ∧ ∀ a b : Int, (valV kvs [Sum.inl a, Sum.inl b]).isSome = true ↔ (a, b) ∈ ps
theorem knS_same {H H' : Hp} {d : Addr} {ps : List (Int × Int)} {N : Nat} (h : KnS H d ps N) (s : Same H H') : KnS H' d ps N := by
  obtain ⟨kvs, e, q⟩ := h
  exact ⟨kvs, s _ _ e, q⟩
theorem knS_put {H : Hp} {d T : Addr} {N : Nat} {x y : Int} {ps : List (Int × Int)} {v : V} (h : KnS H d ps N) (hT : H T = some (.tup [.int x, .int y])) (hN : N < sizeLine) :
    ∃ kvs', DPut H d (.ref T) v (upd H d (.dT kvs')) ∧ KnS (upd H d (.dT kvs')) d (ps ++ [(x, y)]) (N + 1) := by
  obtain ⟨kvs, e, hl, hv⟩ := h
  refine ⟨putK kvs [Sum.inl x, Sum.inl y] v, DPut.t (k := [Sum.inl x, Sum.inl y]) e hT (by omega), _, upd_same, ?_, fun a b => ?_⟩
  · have := length_putK kvs [Sum.inl x, Sum.inl y] v
    omega
  · rw [valV_put]
    by_cases h : a = x ∧ b = y
    · obtain ⟨rfl, rfl⟩ := h
      rw [if_pos rfl]
      simp
    · rw [if_neg (fun z => h (key2_ne.mp z)), hv]
      simp only [List.mem_append, List.mem_singleton, Prod.mk.injEq]
      exact ⟨fun z => .inl z, fun z => z.elim id fun z => absurd z h⟩
theorem scLKnown : FnScope ["_law_plan_here", "_law_found", "_law_tables", "_law_pair"] ["_law_plan_here"] (defScope lKnown) := ⟨rfl, rfl, rfl, by decide +kernel, rfl, by decide +kernel, by decide +kernel⟩
def spLKnown (K : PySem.W.Frag) : Sp := fun vs H Q _ => ∃ (l : Addr) (rs : List Rnd), vs = [.ref l] ∧ PlanV K H l rs ∧ rs.length ≤ 1000 ∧ (∀ r ∈ rs, (pairsR r).length ≤ 4096 ∧ ∀ t ∈ r, t.length ≤ 100000) ∧
  ∀ H' d, Same H H' → H d = none → KnS H' d (rs.flatMap pairsR) 5000000 → Q (.ref d) H'
theorem ok_lknown {f fP : Addr} {fd fdP : FuncData} (F : Fun K "_law_known" "_law_known" lKnown f fd) (B : Blt mg) (FP : Fun K "_law_pairs" "_law_pairs" lPairs fP fdP) (bP : Binds K fdP ["_law_tables"] []) (gP : mg "_law_pairs" = some (.ref fP)) : FnOk P w K mg base CX0 2 f fd ["_law_plan_here"] (spLKnown K) := by
  have GP : FnOk P w K mg base CX0 1 fP fdP ["_law_tables"] spLPairs := ok_lpairs FP B
  refine F.ok scLKnown (fun vs H Q E h => ?_) (fun cdv A outer s H vs Q E hr h => ?_)
  · obtain ⟨l, rs, rfl, _⟩ := h
    rfl
  · obtain ⟨l, rs, rfl, ⟨xs, hl, hxs⟩, hn, hS, q⟩ := h
    have hu := hu_of hr
    refine ⟨_, pss_cons (ps_set (i := 1) scLKnown.nd rfl (.inl rfl) pe_dnewT)
      (pss_cons (ps_for PassesOwn.never rfl (pi_list (pv 0)) (pg_name (i := 2) scLKnown.nd rfl (.inl rfl))
        (pss_one (ps_for PassesOwn.never rfl (pi_list (pe_call GP hr (by rfl) gP FP.kp bP .nil pass0 (pa_cons (pv 2) pa_nil))) (pg_name (i := 3) scLKnown.nd rfl (.inl rfl))
          (pss_one (ps_dput hu (pv 1) (pv 3) pe_bl rfl)))))
      (pss_one (ps_ret (pv 1)))), ?_⟩
    have hxl := paired_len hxs
    have big : (5000000 : Nat) < sizeLine := by decide
    intro d nd
    have s0 : Same H (upd H d (.dT [])) := same_new nd
    refine ⟨.ref l, rfl, l, rfl, ⟨_, s0.seq hl⟩, ?_⟩
    refine for_it (walk_list (xs := xs)) (fun i σ H2 => ∃ (y2 y3 : Option V), σ = [some (.ref l), some (.ref d), y2, y3] ∧ Same H H2 ∧ KnS H2 d ((rs.take i).flatMap pairsR) (i * 4096)) ⟨none, none, rfl, s0, [], upd_same, Nat.le_refl _, fun a b => by simp [valV]⟩ (fun i σ H2 _ h => ?_) (fun i x σ H2 H3 hi hI y => ?_) (fun σ H2 hI => ?_)
    · obtain ⟨_, _, _, sm, _⟩ := h
      exact sm.seq hl
    · obtain ⟨y2, y3, rfl, sm, hK⟩ := hI
      obtain ⟨rfl, hx⟩ := y
      obtain ⟨r, hr0, hrx⟩ := paired_getL hxs hx
      obtain ⟨hp1, hp2⟩ := hS r (List.mem_of_getElem? hr0)
      refine ⟨x, rfl, x, r, rfl, hrx.mono (same_toT sm), by omega, hp2, fun H4 u ys s4 nu hu4 hys => ?_⟩
      refine ⟨u, rfl, ⟨_, SqL.of hu4⟩, ?_⟩
      have hyl := paired_len hys
      refine for_it (walk_list (xs := ys)) (fun m σ H5 => ∃ y3 : Option V, σ = [some (.ref l), some (.ref d), some x, y3] ∧ Same H H5 ∧ H5 u = some (.lst ys) ∧ Paired (PairV H5) ys (pairsR r) ∧ KnS H5 d ((rs.take i).flatMap pairsR ++ (pairsR r).take m) (i * 4096 + m))
        ⟨y3, rfl, sm.trans s4, hu4, hys, by rw [List.take_zero, List.append_nil]; exact knS_same hK s4⟩ (fun m σ H5 _ h => ?_) (fun m z σ H5 H6 hm hM y => ?_) (fun σ H5 hM => ?_)
      · obtain ⟨_, _, _, h, _⟩ := h
        exact SqL.of h
      · obtain ⟨y3, rfl, s5, hu5, hy5, hK5⟩ := hM
        obtain ⟨rfl, hz⟩ := y
        obtain ⟨⟨a, b⟩, hab, T, rfl, hT⟩ := paired_getL hy5 hz
        obtain ⟨kvs', hput, hK6⟩ := knS_put (v := .bl true) hK5 hT (by omega)
        obtain ⟨kv0, hd0, _⟩ := id hK5
        have nud : u ≠ d := ne_of hu5 hd0 (by intro e; cases e)
        refine ⟨.ref d, rfl, .ref T, rfl, d, _, rfl, hput, _, rfl, same_put s5 nd, by rw [upd_ne nud]; exact hu5, paired_mono (fun v pr h => ?_) hy5, ?_⟩
        · obtain ⟨w1, rfl, hw⟩ := h
          exact ⟨w1, rfl, by rw [upd_ne (ne_of hw hd0 (by intro e; cases e))]; exact hw⟩
        · rw [takeSucc hab, ← List.append_assoc]
          exact hK6
      · obtain ⟨y3, rfl, s5, hu5, hy5, hK5⟩ := hM
        rw [hyl, List.take_of_length_le (Nat.le_refl _)] at hK5
        refine ⟨_, _, rfl, s5, ?_⟩
        rw [takeSucc hr0, List.flatMap_append]
        obtain ⟨kvs, e, h1, h2⟩ := hK5
        exact ⟨kvs, e, by omega, by simpa using h2⟩
    · obtain ⟨y2, y3, rfl, sm, hK⟩ := hI
      rw [hxl, List.take_of_length_le (Nat.le_refl _)] at hK
      obtain ⟨kvs, e, h1, h2⟩ := hK
      exact ⟨.ref d, rfl, q H2 d sm nd ⟨kvs, e, by omega, h2⟩⟩
theorem scLNew : FnScope ["_law_tables", "_law_plan_here", "_law_known_here", "_law_pair"] ["_law_tables", "_law_plan_here"] (defScope lNew) := ⟨rfl, rfl, rfl, by decide +kernel, rfl, by decide +kernel, by decide +kernel⟩
def spLNew (K : PySem.W.Frag) : Sp := fun vs H Q _ => ∃ (x : V) (l : Addr) (r : Rnd) (rs : List Rnd), vs = [x, .ref l] ∧ RndV H x r ∧ (pairsR r).length ≤ 100000 ∧ (∀ t ∈ r, t.length ≤ 100000) ∧ PlanV K H l rs ∧ rs.length ≤ 1000 ∧ (∀ r ∈ rs, (pairsR r).length ≤ 4096 ∧ ∀ t ∈ r, t.length ≤ 100000) ∧
  ∀ b H', Same H H' → (b = true ↔ ∀ p ∈ pairsR r, p ∉ rs.flatMap pairsR) → Q (.bl b) H'
def dP (p : Int × Int) : PyData := .tuple [.int p.1, .int p.2]
theorem shPairs (ps : List (Int × Int)) : SeqAt.shaped (.list (ps.map dP)) = true := by
  have l : ∀ ps : List (Int × Int), PyData.canLayAll0 (ps.map dP) = true := fun ps => by
    induction ps with
    | nil => rfl
    | cons x ps ih => simp [PyData.canLayAll0, PyData.canLay0, dP, ih]
  have h : ∀ ps : List (Int × Int), PyData.depthAll (ps.map dP) ≤ 1 := fun ps => by
    induction ps with
    | nil => simp [PyData.depthAll]
    | cons x ps ih =>
      have e : (dP x).depth ≤ 1 := by simp [dP, PyData.depth, PyData.depthAll]
      simp only [List.map_cons, PyData.depthAll]
      omega
  have h := h ps
  unfold SeqAt.shaped
  rw [Bool.and_eq_true]
  refine ⟨by simp [PyData.canLay0, l], decide_eq_true ?_⟩
  simp only [PyData.depth]
  omega
theorem eqv_nilP (ps : List (Int × Int)) : PyData.eqv (.list (ps.map dP)) (.list []) = ps.isEmpty := by
  cases ps <;> simp [PyData.eqv, PyData.eqvAll]
theorem ok_lnew {f fP fK : Addr} {fd fdP fdK : FuncData} (F : Fun K "_law_new" "_law_new" lNew f fd) (B : Blt mg) (FP : Fun K "_law_pairs" "_law_pairs" lPairs fP fdP) (bP : Binds K fdP ["_law_tables"] []) (gP : mg "_law_pairs" = some (.ref fP))
    (FK : Fun K "_law_known" "_law_known" lKnown fK fdK) (bK : Binds K fdK ["_law_plan_here"] []) (gK : mg "_law_known" = some (.ref fK)) : FnOk P w K mg base CX0 3 f fd ["_law_tables", "_law_plan_here"] (spLNew K) := by
  have GP : FnOk P w K mg base CX0 1 fP fdP ["_law_tables"] spLPairs := ok_lpairs FP B
  have GK : FnOk P w K mg base CX0 2 fK fdK ["_law_plan_here"] (spLKnown K) := ok_lknown FK B FP bP gP
  refine F.ok scLNew (fun vs H Q E h => ?_) (fun cdv A outer s H vs Q E hr h => ?_)
  · obtain ⟨x, l, r, rs, rfl, _⟩ := h
    rfl
  · obtain ⟨x, l, r, rs, rfl, hx, hpl, htl, hPl, hn, hS, q⟩ := h
    have hr1 : Room 1 _ := hr.mono (by decide)
    have hu := hu_of hr
    refine ⟨_, pss_cons (ps_set (i := 2) scLNew.nd rfl (.inr rfl) (pe_call GK hr (by rfl) gK FK.kp bK .nil pass0 (pa_cons (pv 1) pa_nil)))
      (pss_one (ps_ret (pe_cmpR (op_eqD hr.units) (pe_lc (own := [("_law_pair", 3)]) (g := gName 3) (tt := tB (tDIn (tVar 3) (tVar 2))) (te := tVar 3) (by rfl) scLNew.nd (pi_list (pe_call GP hr1 (by rfl) gP FP.kp bP .nil pass0 (pa_cons (pv 0) pa_nil)))
        (blkOk_by (N := ["_law_tables", "_law_plan_here", "_law_known_here", "_law_pair"]) (sc := defScope lNew) (by decide +kernel)) (fun _ _ _ _ _ => pg_name (i := 3) (x := "_law_pair") scLNew.nd rfl (.inl rfl) (.inr rfl))
        (fun _ _ _ _ _ => pts_one (pt_cmp (pc_din hu (pv 3) (pv 2)))) (fun _ _ _ _ _ => pv 3)) (pe_lst pa_nil) (nomark _)))), ?_⟩
    refine ⟨.ref l, rfl, l, rs, rfl, hPl, hn, hS, fun H1 d s1 nd hK => ?_⟩
    refine ⟨x, rfl, x, r, rfl, hx.mono (same_toT s1), hpl, htl, fun H2 u ys s2 nu hu2 hys => ?_⟩
    have hK2 := knS_same hK s2
    refine ⟨u, rfl, ⟨_, SqL.of hu2⟩, fun D nD => ?_⟩
    have s3 : Same H2 (upd H2 D (.lst [])) := same_new nD
    have hpl' : (pairsR r).length < sizeLine := Nat.lt_of_le_of_lt hpl (by decide)
    have hyl := paired_len hys
    refine lc_it (walk_list (xs := ys)) (fun i H5 => Same H2 H5 ∧ ∃ acc ps, H5 D = some (.lst acc) ∧ Paired (PairV H5) acc ps ∧ ps.length ≤ i ∧ (ps = [] ↔ ∀ p ∈ (pairsR r).take i, p ∉ rs.flatMap pairsR)) ⟨s3, [], [], upd_same, .nil, Nat.le_refl _, by simp⟩ (fun i H5 _ p => SqL.of (p.1 _ _ hu2)) (fun i z H5 H6 hi hI y => ?_) (fun H5 hI => ?_)
    · obtain ⟨rfl, hz⟩ := y
      obtain ⟨sm, acc, ps, hD, hps, hle, he⟩ := hI
      obtain ⟨⟨a, b⟩, hab, T, rfl, hT⟩ := paired_getL hys hz
      have hT6 := sm _ _ hT
      obtain ⟨kvs, hd, hkl, hkv⟩ := knS_same hK2 sm
      refine ⟨wipe_put (by decide), ?_⟩
      refine ⟨.ref T, rfl, .ref d, rfl, d, _, rfl, DGet.t (k := [Sum.inl a, Sum.inl b]) hd hT6, _, rfl, ite2 (fun hc => ?_) (fun hc => ?_)⟩
      · refine ⟨.ref T, rfl, acc, hD, ?_, same_put sm nD, acc ++ [.ref T], ps ++ [(a, b)], upd_same, ?_, ?_, ?_⟩
        · have := paired_len hps
          omega
        · have keepT : ∀ {z : V} {pr : Int × Int}, PairV H6 z pr → PairV (upd H6 D (.lst (acc ++ [.ref T]))) z pr := fun {z pr} h => by
            obtain ⟨u, rfl, hu⟩ := h
            exact ⟨u, rfl, by rw [upd_ne (ne_of hu hD (by intro z; cases z))]; exact hu⟩
          exact paired_snoc (paired_mono (fun z pr h => keepT h) hps) (keepT ⟨T, rfl, hT6⟩)
        · simp only [List.length_append, List.length_singleton]
          omega
        · constructor
          · intro z
            simp at z
          · intro z
            exact absurd ((hkv a b).mp hc) (z (a, b) (by rw [takeSucc hab]; simp))
      · refine ⟨sm, acc, ps, hD, hps, by omega, ?_⟩
        rw [he, takeSucc hab]
        constructor
        · intro z p hp
          rcases List.mem_append.mp hp with hp | hp
          · exact z p hp
          · rw [List.mem_singleton.mp hp]
            exact fun m => hc ((hkv a b).mpr m)
        · exact fun z p hp => z p (List.mem_append_left _ hp)
    · obtain ⟨sm, acc, ps, hD, hps, hle, he⟩ := hI
      rw [hyl, List.take_of_length_le (Nat.le_refl _)] at he
      refine ⟨Nat.zero_le _, fun e ne => ?_⟩
      have s6 : Same H5 (upd H5 e (.lst [])) := same_new ne
      refine ⟨.list (ps.map dP), .list [], dp_lst (fun _ _ h => dp_pair h) (SqL.of (s6 _ _ hD)) (paired_mono (fun _ _ h => h.mono (same_toT s6)) hps), .lst (SqL.of upd_same) .nil, shPairs ps, shNil, ?_⟩
      rw [eqv_nilP]
      refine q _ _ (((s1.trans s2).trans sm).trans s6) ?_
      rw [← he]
      cases ps <;> simp
end Nf

set_option Elab.async false
set_option linter.all false
set_option maxRecDepth 100000
set_option maxHeartbeats 4000000
namespace Nf
open PySem PySem.Spec PyProof.Rows L2
variable {P : Program} {w : World} {K : PySem.W.Frag} {mg : Str → Option Value} {base : Heap}
/-! ### thin -/
theorem eqv_nilT (l : List Int) : PyData.eqv (.tuple (l.map .int)) (.tuple []) = l.isEmpty := by
  cases l <;> simp [PyData.eqv, PyData.eqvAll]
theorem shNilT : SeqAt.shaped (.tuple []) = true := by decide +kernel
theorem scThin : FnScope ["_law_row", "_law_tables", "_law_found", "_law_table", "_law_rest", "_law_guest"] ["_law_row", "_law_tables"] (defScope lThin) := ⟨rfl, rfl, rfl, by decide +kernel, rfl, by decide +kernel, by decide +kernel⟩
def spThin (K : PySem.W.Frag) : Sp := fun vs H Q _ => ∃ (r a : Addr) (ns : List Int) (x : V) (rd : Rnd), vs = [.ref r, x] ∧ RowAt K H r a ns ∧ RndV H x rd ∧ rd.length ≤ 100000 ∧ (∀ t ∈ rd, t.length ≤ 100000) ∧
  ∀ y H' f, RowAt K H' r a ns → Sx r H H' → RndV H' y (sortT f) → Thin rd f rd.length → Q y H'
theorem ok_thin {f fT : Addr} {fd fdT : FuncData} (F : Fun K "_law_thin" "_law_thin" lThin f fd) (B : Blt mg) (FT : Fun K "_law_taken" "_law_taken" lTaken fT fdT) (bT : Binds K fdT ["_law_row", "_law_many_here"] []) (gT : mg "_law_taken" = some (.ref fT)) : FnOk P w K mg base CX0 2 f fd ["_law_row", "_law_tables"] (spThin K) := by
  have GT : FnOk P w K mg base CX0 1 fT fdT ["_law_row", "_law_many_here"] (spTaken K) := ok_taken FT B
  refine F.ok scThin (fun vs H Q E h => ?_) (fun cdv A outer s H vs Q E hr h => ?_)
  · obtain ⟨r, a, ns, x, rd, rfl, _⟩ := h
    rfl
  · obtain ⟨r, a, ns, x, rd, rfl, hR, ⟨p, xs, rfl, hp, hxs⟩, hlen, htl, q⟩ := h
    refine ⟨_, pss_cons (ps_set (i := 2) scThin.nd rfl (.inl rfl) (pe_lst pa_nil))
      (pss_cons (ps_for PassesOwn.never rfl (pi_tup (pv 1)) (pg_name (i := 3) scThin.nd rfl (.inl rfl))
        (pss_cons (ps_set (i := 4) scThin.nd rfl (.inl rfl) (pe_callTy call_tuple_of (by rfl) B.tuple (by decide +kernel) (pa_cons
            (pe_lc (own := [("_law_guest", 5)]) (g := gName 5) (te := tVar 5) (by rfl) scThin.nd (pi_tup (pv 3)) (blkOk_by (N := ["_law_row", "_law_tables", "_law_found", "_law_table", "_law_rest", "_law_guest"]) (sc := defScope lThin) (by decide +kernel))
              (fun _ _ _ _ _ => pg_name (i := 5) (x := "_law_guest") scThin.nd rfl (.inl rfl) (.inr rfl)) (fun _ _ _ _ _ => pts_one (pt_cmpR op_gt (pe_call GT hr (by rfl) gT FT.kp bT .nil pass0 (pa_cons (pv 0) (pa_cons pe_int pa_nil))) pe_int (nomark _))) (fun _ _ _ _ _ => pv 5)) pa_nil)))
        (pss_one (ps_if (pt_cmpR (op_neD hr.units) (pv 4) (pe_tup pa_nil) (nomark _))
          (pss_one (ps_expr (pe_bm PySem.F.plainAttrs_list PySem.F.slot_list_append PySem.F.type_list_append mt_append (pv 2) (pa_cons (pv 4) pa_nil)))) pss_nil))))
      (pss_one (ps_ret (pe_callTy call_tuple_of (by rfl) B.tuple (by decide +kernel) (pa_cons (pe_callB (cr_sortD dT hr.units) (by rfl) B.sorted (by decide +kernel) (pa_cons (pv 2) pa_nil)) pa_nil))))), ?_⟩
    have hxl := paired_len hxs
    have big : (100000 : Nat) < sizeLine := by decide
    obtain ⟨xr0, hxr0⟩ := hR.lst
    refine ⟨Nat.zero_le _, fun d nd => ?_⟩
    have ndr : d ≠ r := fun e => by
      rw [e, hxr0] at nd
      cases nd
    have s0 : Same H (upd H d (.lst [])) := same_new nd
    refine ⟨.ref p, rfl, p, rfl, ⟨_, SqT.of (s0 _ _ hp)⟩, ?_⟩
    refine for_it (walk_tup (xs := xs)) (fun i σ H2 => ∃ (y3 y4 y5 : Option V), σ = [some (.ref r), some (.ref p), some (.ref d), y3, y4, y5] ∧ RowAt K H2 r a ns ∧ Sx r H H2 ∧ ∃ acc f, H2 d = some (.lst acc) ∧ Paired (TabV H2) acc f ∧ Thin rd f i)
      ⟨none, none, none, rfl, hR.keep s0, same_sx s0, [], [], upd_same, .nil, Thin.zero rd⟩ (fun i σ H2 _ h => ?_) (fun i x σ H2 H3 hi hI y => ?_) (fun σ H2 hI => ?_)
    · obtain ⟨_, _, _, _, _, sx, _⟩ := h
      exact SqT.of ((sx.toT hxr0) _ _ hp)
    · obtain ⟨y3, y4, y5, rfl, R2, sx, acc, ff, hd, hac, hth⟩ := hI
      obtain ⟨rfl, hx⟩ := y
      obtain ⟨t, ht, b, rfl, hb⟩ := paired_getL hxs hx
      have hb2 := (sx.toT hxr0) _ _ hb
      have htl2 := htl t (List.mem_of_getElem? ht)
      obtain ⟨xr3, hxr3⟩ := R2.lst
      refine ⟨.ref b, rfl, b, rfl, ⟨_, SqT.of hb2⟩, fun D nD => ?_⟩
      have nDr : D ≠ r := fun e => by
        rw [e, hxr3] at nD
        cases nD
      have s1 : Same H3 (upd H3 D (.lst [])) := same_new nD
      refine lc_it (walk_tup (xs := t.map V.int)) (fun j H5 => RowAt K H5 r a ns ∧ Sx r H3 H5 ∧ ∃ ms : List Int, H5 D = some (.lst (ms.map V.int)) ∧ ms.Sublist (t.take j)) ⟨R2.keep s1, same_sx s1, [], upd_same, by simp⟩ (fun j H5 _ p => SqT.of ((p.2.1.toT hxr3) _ _ hb2)) (fun j z H5 H6 hj hJ y => ?_) (fun H5 hJ => ?_)
      · obtain ⟨R5, s5, ms, hD5, hsub⟩ := hJ
        obtain ⟨rfl, hz⟩ := y
        obtain ⟨n, hn, rfl⟩ := getElem?_int hz
        refine ⟨wipe_put (by decide), ?_⟩
        refine ⟨.ref r, rfl, r, a, ns, 4, rfl, R5, by decide, by decide, fun v H7 v0 v1 R7 s7 => ⟨v, 0, rfl, rfl, _, rfl, ?_⟩⟩
        have hD7 := s7 _ _ nDr hD5
        have hsl := hsub.length_le
        rw [List.length_take] at hsl
        refine ite2 (fun _ => ?_) (fun _ => ?_)
        · refine ⟨.int n, rfl, _, hD7, by rw [List.length_map]; omega, row_put (R2.keep (Same.refl _)) nD R7, sx_put (s5.trans s7) nD, ms ++ [n], ?_, ?_⟩
          · rw [upd_same, List.map_append]
            rfl
          · rw [takeSucc hn]
            exact hsub.append (List.Sublist.refl _)
        · refine ⟨R7, s5.trans s7, ms, hD7, ?_⟩
          rw [takeSucc hn]
          exact hsub.trans (List.sublist_append_left _ _)
      · obtain ⟨R5, s5, ms, hD5, hsub⟩ := hJ
        rw [List.length_map, List.take_of_length_le (Nat.le_refl _)] at hsub
        refine ⟨D, _, rfl, .inl ⟨SqL.of hD5, fun u nu => ?_⟩⟩
        have s6 : Same H5 (upd H5 u (.tup (ms.map V.int))) := same_new nu
        have hd3 : H3 d = some (.lst acc) := hd
        have hd6 := s6 _ _ (s5 _ _ ndr hd3)
        have hT36 : SameT H3 (upd H5 u (.tup (ms.map V.int))) := (s5.toT hxr3).trans (same_toT s6)
        have sx6 := (sx.trans s5).trans (same_sx s6)
        have R6 := R5.keep s6
        refine ⟨.ref u, rfl, Nat.zero_le _, fun e ne => ?_⟩
        have s7 : Same (upd H5 u (.tup (ms.map V.int))) (upd (upd H5 u (.tup (ms.map V.int))) e (.tup [])) := same_new ne
        have hu7 := s7 _ _ (upd_same : (upd H5 u (.tup (ms.map V.int))) u = _)
        refine ⟨.tuple (ms.map .int), .tuple [], .tup (SqT.of hu7) (dpAll_ints ms), .tup (SqT.of upd_same) .nil, shIntsT ms, shNilT, _, rfl, ?_⟩
        rw [eqv_nilT]
        have hT37 := hT36.trans (same_toT s7)
        cases ms with
        | nil =>
          refine iteF ?_
          exact ⟨_, _, _, rfl, R6.keep s7, sx6.trans (same_sx s7), acc, ff, s7 _ _ hd6, paired_mono (fun _ _ h => h.mono hT37) hac, hth.skip⟩
        | cons m0 ms =>
          refine iteT ?_
          have hd7 := s7 _ _ hd6
          refine ⟨.ref d, rfl, .inl ⟨rfl, _, SqL.of hd7⟩, .ref u, rfl, d, acc, _, rfl, rfl, hd7, ?_, ⟨_, _, _, rfl, row_put hR nd (R6.keep s7), sx_put (sx6.trans (same_sx s7)) nd, acc ++ [.ref u], ff ++ [m0 :: ms], upd_same, ?_, hth.add ht hsub (by simp)⟩⟩
          · have := paired_len hac
            have := hth.ct
            omega
          · have keepT : ∀ {v : V} {t : Tbl}, TabV (upd (upd H5 u (.tup ((m0 :: ms).map V.int))) e (.tup [])) v t → TabV (upd (upd (upd H5 u (.tup ((m0 :: ms).map V.int))) e (.tup [])) d (.lst (acc ++ [.ref u]))) v t := fun {v t} h => by
              obtain ⟨a2, rfl, ha2⟩ := h
              exact ⟨a2, rfl, by rw [upd_ne (ne_of ha2 hd7 (by intro z; cases z))]; exact ha2⟩
            exact paired_snoc (paired_mono (fun v t h => keepT (h.mono hT37)) hac) (keepT ⟨u, rfl, hu7⟩)
    · obtain ⟨y3, y4, y5, rfl, R2, sx, acc, ff, hd, hac, hth⟩ := hI
      rw [hxl] at hth
      refine ⟨.ref d, rfl, ?_⟩
      dsimp only [tNil]
      refine sort_tabs (.inl (SqL.of hd)) hac (fun t ht => (hth.each t ht).1) fun ys u nu hys => ?_
      have s1 : Same H2 (upd H2 u (.lst ys)) := same_new nu
      refine ⟨u, _, rfl, .inl ⟨SqL.of upd_same, fun t nt => ?_⟩⟩
      have s2 := s1.trans (same_new (o := .tup ys) nt)
      exact q _ _ ff (R2.keep s2) (sx.trans (same_sx s2)) ⟨t, ys, rfl, upd_same, paired_mono (fun _ _ h => h.mono (same_toT s2)) hys⟩ hth
end Nf

set_option Elab.async false
set_option linter.all false
set_option maxRecDepth 100000
set_option maxHeartbeats 4000000
namespace Nf
open PySem PySem.Spec PyProof.Rows L2
variable {P : Program} {w : World} {K : PySem.W.Frag} {mg : Str → Option Value} {base : Heap}
/-! ### plan -/
theorem party_nat {g s : Int} (h : IsParty g s) : ∃ n z : Nat, s = ((z : Nat) : Int) ∧ g = ((n * z : Nat) : Int) ∧ 1 ≤ z ∧ z ≤ 8 ∧ n * z ≤ 64 := by
  have h1 := h.s2
  have h2 := h.s8
  have h3 := h.g2
  have h4 := h.g64
  refine ⟨(g / s).toNat, s.toNat, by omega, ?_, by omega, by omega, ?_⟩
  · rw [Int.natCast_mul, Int.toNat_of_nonneg (Int.ediv_nonneg (by omega) (by omega)), Int.toNat_of_nonneg (by omega)]
    exact (Int.ediv_mul_cancel (Int.dvd_of_emod_eq_zero h.dv)).symm
  · have e : (((g / s).toNat * s.toNat : Nat) : Int) = g := by
      rw [Int.natCast_mul, Int.toNat_of_nonneg (Int.ediv_nonneg (by omega) (by omega)), Int.toNat_of_nonneg (by omega)]
      exact Int.ediv_mul_cancel (Int.dvd_of_emod_eq_zero h.dv)
    omega
theorem rgV_range (g : Nat) : rgV 0 ((g : Nat) : Int) = (rangeI g).map V.int := by
  unfold rgV rangeI
  rw [List.map_map]
  have e : (((g : Nat) : Int) - 0).toNat = g := by omega
  rw [e]
  refine List.map_congr_left fun i _ => ?_
  show V.int (0 + (i : Nat)) = V.int ((i : Nat) : Int)
  rw [Int.zero_add]
/-- a drawn full round: of the guests in an order -/
theorem drawn_round {g s : Int} (h : IsParty g s) {n z : Nat} (ez : s = ((z : Nat) : Int)) (eg : g = ((n * z : Nat) : Int)) (hz : 1 ≤ z) {l : List Int} (hp : l.Perm (rangeI (n * z))) : IsRound g s (seatedM l z n) := by
  rw [eg, ez]
  exact seated_round hp hz
theorem scPlan : FnScope ["_law_row", "_law_guests", "_law_size", "_law_most", "_law_found", "_law_k", "_law_turn", "_law_tables"] ["_law_row", "_law_guests", "_law_size", "_law_most"] (defScope lPlan) := ⟨rfl, rfl, rfl, by decide +kernel, rfl, by decide +kernel, by decide +kernel⟩
def PlanM (H : Hp) (l : Addr) (rs : List Rnd) : Prop := ∃ xs, H l = some (.lst xs) ∧ Paired (RndV H) xs rs
def spPlan (K : PySem.W.Frag) : Sp := fun vs H Q _ => ∃ (r a : Addr) (ns : List Int) (g s m : Int), vs = [.ref r, .int g, .int s, .int m] ∧ RowAt K H r a ns ∧ IsParty g s ∧ 0 ≤ m ∧ m ≤ 100 ∧
  ∀ l H' rs, RowAt K H' r a ns → Sx r H H' → H l = none → PlanM H' l rs → GoodP g s rs → (rs.length : Int) ≤ m → Q (.ref l) H'
theorem good_small {g s : Int} (hI : IsParty g s) {r : Rnd} (h : IsRound g s r) : (pairsR r).length ≤ 4096 ∧ r.length ≤ 100000 ∧ ∀ t ∈ r, t.length ≤ 100000 := by
  have h1 := hI.s2
  have h2 := hI.s8
  refine ⟨h.pairs_le (by omega) hI.g64, ?_, fun t ht => ?_⟩
  · have e : g / s ≤ g := Int.ediv_le_self _ (by have := hI.g2; omega)
    have := h.ct
    have := hI.g64
    omega
  · have := (h.sz t ht).2
    omega
theorem ok_plan {f fT fM fS fH fN fP fK : Addr} {fd fdT fdM fdS fdH fdN fdP fdK : FuncData} (F : Fun K "_law_plan" "_law_plan" lPlan f fd) (B : Blt mg) (FT : Fun K "_law_taken" "_law_taken" lTaken fT fdT) (bT : Binds K fdT ["_law_row", "_law_many_here"] []) (gT : mg "_law_taken" = some (.ref fT))
    (FM : Fun K "_law_mixed" "_law_mixed" lMixed fM fdM) (bM : Binds K fdM ["_law_row", "_law_some"] []) (gM : mg "_law_mixed" = some (.ref fM)) (FS : Fun K "_law_seated" "_law_seated" lSeated fS fdS) (bS : Binds K fdS ["_law_guests", "_law_size"] []) (gS : mg "_law_seated" = some (.ref fS))
    (FH : Fun K "_law_thin" "_law_thin" lThin fH fdH) (bH : Binds K fdH ["_law_row", "_law_tables"] []) (gH : mg "_law_thin" = some (.ref fH)) (FN : Fun K "_law_new" "_law_new" lNew fN fdN) (bN : Binds K fdN ["_law_tables", "_law_plan_here"] []) (gN : mg "_law_new" = some (.ref fN))
    (FP : Fun K "_law_pairs" "_law_pairs" lPairs fP fdP) (bP : Binds K fdP ["_law_tables"] []) (gP : mg "_law_pairs" = some (.ref fP)) (FK : Fun K "_law_known" "_law_known" lKnown fK fdK) (bK : Binds K fdK ["_law_plan_here"] []) (gK : mg "_law_known" = some (.ref fK)) :
    FnOk P w K mg base CX0 4 f fd ["_law_row", "_law_guests", "_law_size", "_law_most"] (spPlan K) := by
  have GT : FnOk P w K mg base CX0 1 fT fdT ["_law_row", "_law_many_here"] (spTaken K) := ok_taken FT B
  have GM : FnOk P w K mg base CX0 2 fM fdM ["_law_row", "_law_some"] (spMixed K) := ok_mixed FM B FT bT gT
  have GS : FnOk P w K mg base CX0 1 fS fdS ["_law_guests", "_law_size"] (spSeated K) := ok_seated FS B
  have GH : FnOk P w K mg base CX0 2 fH fdH ["_law_row", "_law_tables"] (spThin K) := ok_thin FH B FT bT gT
  have GN : FnOk P w K mg base CX0 3 fN fdN ["_law_tables", "_law_plan_here"] (spLNew K) := ok_lnew FN B FP bP gP FK bK gK
  refine F.ok scPlan (fun vs H Q E h => ?_) (fun cdv A outer s H vs Q E hr h => ?_)
  · obtain ⟨r, a, ns, g, s, m, rfl, _⟩ := h
    rfl
  · obtain ⟨r, a, ns, g, z, m, rfl, hR, hI, hm0, hm1, q⟩ := h
    have hr1 : Room 1 _ := hr.mono (by decide)
    have hr2 : Room 2 _ := hr.mono (by decide)
    refine ⟨_, pss_cons (ps_set (i := 4) scPlan.nd rfl (.inl rfl) (pe_lst pa_nil))
      (pss_cons (ps_for PassesOwn.never rfl (pi_range1 (by rfl) B.range (pa_cons (pe_call GT hr1 (by rfl) gT FT.kp bT .nil pass0 (pa_cons (pv 0) (pa_cons (pe_op op_add (pv 3) pe_int) pa_nil))) pa_nil)) (pg_name (i := 5) scPlan.nd rfl (.inl rfl))
        (pss_cons (ps_for PassesOwn.never rfl (pi_range1 (by rfl) B.range (pa_cons pe_int pa_nil)) (pg_name (i := 6) scPlan.nd rfl (.inl rfl))
          (pss_cons (ps_set (i := 7) scPlan.nd rfl (.inl rfl) (pe_call GS hr1 (by rfl) gS FS.kp bS .nil pass0 (pa_cons (pe_call GM hr2 (by rfl) gM FM.kp bM .nil pass0 (pa_cons (pv 0) (pa_cons (pe_listRg rfl (by rfl) B.list (prg_1 (by rfl) B.range (pv 1))) pa_nil))) (pa_cons (pv 2) pa_nil))))
          (pss_cons (ps_if (pt_cmpR op_eq (pe_call GT hr1 (by rfl) gT FT.kp bT .nil pass0 (pa_cons (pv 0) (pa_cons pe_int pa_nil))) pe_int (nomark _))
            (pss_one (ps_set (i := 7) scPlan.nd rfl (.inl rfl) (pe_call GH hr2 (by rfl) gH FH.kp bH .nil pass0 (pa_cons (pv 0) (pa_cons (pv 7) pa_nil))))) pss_nil)
          (pss_one (ps_if (PW.pt (pw_and (pt_cmpR op_eq (pe_callB call_len_seq (by rfl) B.len PySem.boot_len (pa_cons (pv 4) pa_nil)) (pv 5) (nomark _)) (pw_and1 (pt_val (pe_call GN hr (by rfl) gN FN.kp bN .nil pass0 (pa_cons (pv 7) (pa_cons (pv 4) pa_nil)))))))
            (pss_one (ps_expr (pe_bm PySem.F.plainAttrs_list PySem.F.slot_list_append PySem.F.type_list_append mt_append (pv 4) (pa_cons (pv 7) pa_nil)))) pss_nil)))))
        (pss_one (ps_if (pt_cmpR op_eq (pe_callB call_len_seq (by rfl) B.len PySem.boot_len (pa_cons (pv 4) pa_nil)) (pv 5) (nomark _)) (pss_one (ps_ret (pv 4))) pss_nil))))
      (pss_one (ps_ret (pv 4)))), ?_⟩
    have big : (100000 : Nat) < sizeLine := by decide
    obtain ⟨xr0, hxr0⟩ := hR.lst
    obtain ⟨n, zn, ez, eg, hz1, hz8, hn64⟩ := party_nat hI
    refine ⟨Nat.zero_le _, fun l nl => ?_⟩
    have nlr : l ≠ r := fun e => by
      rw [e, hxr0] at nl
      cases nl
    have s0 : Same H (upd H l (.lst [])) := same_new nl
    refine ⟨.ref r, rfl, .int m, rfl, m, 1, rfl, rfl, r, a, ns, m + 1, rfl, hR.keep s0, by omega, by omega, fun v H1 v0 v1 R1 s1 => ?_⟩
    refine ⟨v, rfl, by omega, by omega, ?_⟩
    -- what holds of the list so far
    let Inv0 : Hp → Nat → Nat → Prop := fun H2 lo hi => RowAt K H2 r a ns ∧ Sx r H H2 ∧ ∃ rs : List Rnd, PlanM H2 l rs ∧ GoodP g z rs ∧ lo ≤ rs.length ∧ rs.length ≤ hi
    refine for_it walk_range (fun k σ H2 => ∃ (y5 y6 y7 : Option V), σ = [some (.ref r), some (.int g), some (.int z), some (.int m), some (.ref l), y5, y6, y7] ∧ Inv0 H2 k k)
      ⟨none, none, none, rfl, R1, (same_sx s0).trans s1, [], ⟨[], s1 _ _ nlr upd_same, .nil⟩, GoodP.nil, Nat.le_refl _, Nat.le_refl _⟩ (fun _ _ _ _ _ => trivial) (fun k x σ H2 H3 hk hI2 y => ?_) (fun σ H2 hI2 => ?_)
    · obtain ⟨y5, y6, y7, rfl, hI2⟩ := hI2
      obtain ⟨rfl, rfl⟩ := y
      refine ⟨6, rfl, by decide, by decide, ?_⟩
      refine for_it walk_range (fun j σ H4 => ∃ (y6 y7 : Option V), σ = [some (.ref r), some (.int g), some (.int z), some (.int m), some (.ref l), some (.int (0 + (k : Nat))), y6, y7] ∧ Inv0 H4 k (k + 1))
        ⟨y6, y7, rfl, hI2.1, hI2.2.1, hI2.2.2.imp fun rs h => ⟨h.1, h.2.1, h.2.2.1, Nat.le_succ_of_le h.2.2.2⟩⟩ (fun _ _ _ _ _ => trivial) (fun j x σ H4 H5 hj hJ y => ?_) (fun σ H4 hJ => ?_)
      · obtain ⟨y6, y7, rfl, R4, sx4, rs, ⟨xs, hl4, hxs⟩, hG, hlo, hhi⟩ := hJ
        obtain ⟨rfl, rfl⟩ := y
        -- seated(mixed(row, list(range(guests))), size)
        refine ⟨.ref r, rfl, .int g, rfl, g, rfl, ?_, fun b nb => ?_⟩
        · exact RgOk.of_le (by decide) (by have := hI.g64; omega) (by decide) (by have := hI.g2; omega)
        have er : rgV 0 g = (rangeI (n * zn)).map V.int := by
          rw [eg]
          exact rgV_range _
        rw [er]
        have s5 : Same H5 (upd H5 b (.lst ((rangeI (n * zn)).map V.int))) := same_new nb
        refine ⟨r, a, b, ns, rangeI (n * zn), rfl, R4.keep s5, SqL.of upd_same, by rw [rangeI_len]; omega, fun c H6 l' R6 s6 nc hc hp => ?_⟩
        refine ⟨.int z, rfl, c, l', zn, n, by rw [ez]; rfl, SqL.of hc, hz1, by omega, by rw [hp.length_eq, rangeI_len], by omega, fun x H7 s7 hx => ?_⟩
        have hRd : IsRound g z (seatedM l' zn n) := drawn_round hI ez eg hz1 hp
        have R7 := R6.keep s7
        obtain ⟨xr5, hxr5⟩ := R4.lst
        have T6 : SameT H5 H6 := (same_toT s5).trans (s6.toT (s5 _ _ hxr5))
        have T7 : SameT H5 H7 := T6.trans (same_toT s7)
        have sx7 : Sx r H H7 := ((sx4.trans (same_sx s5)).trans s6).trans (same_sx s7)
        have hl7 : H7 l = some (.lst xs) := s7 _ _ (s6 _ _ nlr (s5 _ _ hl4))
        have hxs7 : Paired (RndV H7) xs rs := paired_mono (fun _ _ h => h.mono T7) hxs
        -- one turn's end, the round known
        have fin : ∀ (y : V) (rd : Rnd) (H8 : Hp), RowAt K H8 r a ns → Sx r H H8 → RndV H8 y rd → IsRound g z rd → H8 l = some (.lst xs) → Paired (RndV H8) xs rs →
            tIfS (tAnd (tTest (tOp rEq (tCB (fun xs H Q => ∃ p ys, xs = [V.ref p] ∧ (SqL K H p ys ∨ SqT K H p ys) ∧ Q (V.int ys.length) H) (tCons (tVar 4) tNil)) (tVar 5))) (tB (tCall (spLNew K) [] E0 (tCons (tVar 7) (tCons (tVar 4) tNil)))))
              (tDrop (tBM K "list" rAppend (tVar 4) (tCons (tVar 7) tNil))) tNext
              { nx := fun σ H4 => ∃ (y6 y7 : Option V), σ = [some (.ref r), some (.int g), some (.int z), some (.int m), some (.ref l), some (.int (0 + (k : Nat))), y6, y7] ∧ Inv0 H4 k (k + 1), rt := Q }
              [some (.ref r), some (.int g), some (.int z), some (.int m), some (.ref l), some (.int (0 + (k : Nat))), some (.int (0 + (j : Nat))), some y] H8 := fun y rd H8 R8 sx8 hy hrd hl8 hxs8 => by
          have hxl := paired_len hxs8
          obtain ⟨hp1, hp2, hp3⟩ := good_small hI hrd
          refine ⟨.ref l, rfl, l, xs, rfl, .inl (SqL.of hl8), .int (0 + (k : Nat)), rfl, rfl, _, rfl, ite2 (fun hc1 => ?_) (fun hc1 => ?_)⟩
          · have hk1 : xs.length = k := by
              have := V.int.inj (of_decide_eq_true hc1)
              omega
            refine ⟨y, rfl, .ref l, rfl, y, l, rd, rs, rfl, hy, by omega, hp3, ⟨xs, SqL.of hl8, hxs8⟩, by omega, fun q hq => ?_, fun b H9 s9 hb => ⟨_, rfl, ite2 (fun hc2 => ?_) (fun hc2 => ?_)⟩⟩
            · obtain ⟨h1, _, h3⟩ := good_small hI (hG.rd q hq)
              exact ⟨h1, h3⟩
            · have hnew := hb.mp hc2
              have hl9 := s9 _ _ hl8
              refine ⟨.ref l, rfl, .inl ⟨rfl, _, SqL.of hl9⟩, y, rfl, l, xs, y, rfl, rfl, hl9, by omega, ⟨_, _, rfl, row_put hR nl (R8.keep s9), sx_put (sx8.trans (same_sx s9)) nl, rs ++ [rd], ⟨xs ++ [y], upd_same, ?_⟩, hG.snoc hrd (fun p hp q hq hm => hnew p hp (List.mem_flatMap.mpr ⟨q, hq, hm⟩)), by rw [List.length_append, List.length_singleton]; omega, by rw [List.length_append, List.length_singleton]; omega⟩⟩
              have keepT : SameT H8 (upd H9 l (.lst (xs ++ [y]))) := fun a2 ys e2 => by
                have e3 := s9 _ _ e2
                rw [upd_ne (ne_of e3 hl9 (by intro z; cases z))]
                exact e3
              exact paired_snoc (paired_mono (fun _ _ h => h.mono keepT) hxs8) (hy.mono keepT)
            · exact ⟨_, _, rfl, R8.keep s9, sx8.trans (same_sx s9), rs, ⟨xs, s9 _ _ hl8, paired_mono (fun _ _ h => h.mono (same_toT s9)) hxs8⟩, hG, hlo, hhi⟩
          · exact ⟨_, _, rfl, R8, sx8, rs, ⟨xs, hl8, hxs8⟩, hG, hlo, hhi⟩
        -- if taken(row, 4) == 3
        refine ⟨.ref r, rfl, r, a, ns, 4, rfl, R7, by decide, by decide, fun u H8 u0 u1 R8 s8 => ⟨rfl, _, rfl, ite2 (fun hc => ?_) (fun hc => ?_)⟩⟩
        · obtain ⟨xr7, hxr7⟩ := R7.lst
          obtain ⟨hp1, hp2, hp3⟩ := good_small hI hRd
          have T8 := s8.toT hxr7
          refine ⟨.ref r, rfl, x, rfl, r, a, ns, x, _, rfl, R8, hx.mono T8, hp2, hp3, fun y H9 ff R9 s9 hy hth => ?_⟩
          obtain ⟨xr8, hxr8⟩ := R8.lst
          have T9 := T8.trans (s9.toT hxr8)
          exact fin y _ H9 R9 ((sx7.trans s8).trans s9) hy (hth.round hRd) (s9 _ _ nlr (s8 _ _ nlr hl7)) (paired_mono (fun _ _ h => h.mono T9) hxs7)
        · obtain ⟨xr7, hxr7⟩ := R7.lst
          have T8 := s8.toT hxr7
          exact fin x _ H8 R8 (sx7.trans s8) (hx.mono T8) hRd (s8 _ _ nlr hl7) (paired_mono (fun _ _ h => h.mono T8) hxs7)
      · obtain ⟨y6, y7, rfl, R4, sx4, rs, ⟨xs, hl4, hxs⟩, hG, hlo, hhi⟩ := hJ
        have hxl := paired_len hxs
        refine ⟨.ref l, rfl, l, xs, rfl, .inl (SqL.of hl4), .int (0 + (k : Nat)), rfl, rfl, _, rfl, ite2 (fun hc => ?_) (fun hc => ?_)⟩
        · exact ⟨.ref l, rfl, q l H4 rs R4 sx4 nl ⟨xs, hl4, hxs⟩ hG (by omega)⟩
        · have hk1 : xs.length ≠ k := fun e => hc (decide_eq_true (congrArg V.int (by omega)))
          exact ⟨_, _, _, rfl, R4, sx4, rs, ⟨xs, hl4, hxs⟩, hG, by omega, by omega⟩
    · obtain ⟨y5, y6, y7, rfl, R2, sx, rs, hP, hG, _, hhi⟩ := hI2
      exact ⟨.ref l, rfl, q l H2 rs R2 sx nl hP hG (by omega)⟩
end Nf

set_option Elab.async false
set_option linter.all false
set_option maxRecDepth 100000
set_option maxHeartbeats 4000000
namespace Nf
open PySem PySem.Spec PyProof.Rows L2
variable {P : Program} {w : World} {K : PySem.W.Frag} {mg : Str → Option Value} {base : Heap}
/-! ### the law's own look at a round -/
theorem scLIsRound : FnScope ["_law_guests", "_law_size", "_law_tables", "_law_everyone", "_law_table"] ["_law_guests", "_law_size", "_law_tables"] (defScope lIsRound) := ⟨rfl, rfl, rfl, by decide +kernel, rfl, by decide +kernel, by decide +kernel⟩
def spLIsRound : Sp := fun vs H Q _ => ∃ (g s : Int) (x : V) (r : Rnd), vs = [.int g, .int s, x] ∧ IsParty g s ∧ RndV H x r ∧ r.length ≤ 400 ∧ (∀ t ∈ r, t.length ≤ 100000) ∧ ∀ b H', Same H H' → (b = true ↔ IsRound g s r) → Q (.bl b) H'
theorem eqv_ints (xs ys : List Int) : (PyData.eqv (.list (xs.map .int)) (.list (ys.map .int)) = true) ↔ xs = ys := by
  simp only [PyData.eqv]
  exact eqvInts
theorem eqv_tabs (xs ys : List Tbl) : (PyData.eqv (.list (xs.map dT)) (.list (ys.map dT)) = true) ↔ xs = ys := by
  simp only [PyData.eqv]
  exact eqvTabs
theorem ok_lisRound {f : Addr} {fd : FuncData} (F : Fun K "_law_is_round" "_law_is_round" lIsRound f fd) (B : Blt mg) : FnOk P w K mg base CX0 1 f fd ["_law_guests", "_law_size", "_law_tables"] spLIsRound := by
  refine F.ok scLIsRound (fun vs H Q E h => ?_) (fun cdv A outer s H vs Q E hr h => ?_)
  · obtain ⟨g, s, x, r, rfl, _⟩ := h
    rfl
  · obtain ⟨g, z, x, r, rfl, hI, ⟨p, xs, rfl, hp, hxs⟩, hlen, htl, q⟩ := h
    refine ⟨_, pss_cons (ps_set (i := 3) scLIsRound.nd rfl (.inl rfl) (pe_lst pa_nil))
      (pss_cons (ps_for PassesOwn.never rfl (pi_tup (pv 2)) (pg_name (i := 4) scLIsRound.nd rfl (.inl rfl))
        (pss_cons (ps_if (PW.pt (pw_or (pt_not (pt_chain op_le op_le pe_int (pe_callB call_len_seq (by rfl) B.len PySem.boot_len (pa_cons (pv 4) pa_nil)) (pv 1)))
            (pw_or1 (pt_cmpR (op_neD hr.units) (pe_callTy call_list_of (by rfl) B.list (by decide +kernel) (pa_cons (pv 4) pa_nil)) (pe_callB (cr_sortD (fun i : Int => PyData.int i) hr.units) (by rfl) B.sorted (by decide +kernel) (pa_cons (pv 4) pa_nil)) (nomark _)))))
          (pss_one (ps_ret pe_bl)) pss_nil)
        (pss_one (ps_expr (pe_bm PySem.F.plainAttrs_list PySem.F.slot_list_extend PySem.F.type_list_extend mt_extendT (pv 3) (pa_cons (pv 4) pa_nil))))))
      (pss_cons (ps_if (PW.pt (pw_or (PW.pt (pw_and (pt_cmpR (op_neD hr.units) (pv 3) (pe_lst pa_nil) (nomark _)) (pw_and1 (PW.pt (pw_or (pt_cmpR op_lt (pe_callB (cr_min rfl) (by rfl) B.min (by decide +kernel) (pa_cons (pv 3) pa_nil)) pe_int (nomark _))
            (pw_or1 (pt_cmpR op_ge (pe_callB (cr_max rfl) (by rfl) B.max (by decide +kernel) (pa_cons (pv 3) pa_nil)) (pv 0) (nomark _))))))))
          (pw_or1 (pt_cmpR op_ne (pe_lenSet (by rfl) B.len (by rfl) B.set (pv 3)) (pe_callB call_len_seq (by rfl) B.len PySem.boot_len (pa_cons (pv 3) pa_nil)) (nomark _)))))
        (pss_one (ps_ret pe_bl)) pss_nil)
      (pss_one (ps_ret (pe_and (pe_cmpR op_le (pe_callB call_len_seq (by rfl) B.len PySem.boot_len (pa_cons (pv 2) pa_nil)) (pe_op op_fdiv (pv 0) (pv 1)) (nomark _))
        (pe_one (pe_cmpR (op_eqD hr.units) (pe_callTy call_list_of (by rfl) B.list (by decide +kernel) (pa_cons (pv 2) pa_nil)) (pe_callB (cr_sortD dT hr.units) (by rfl) B.sorted (by decide +kernel) (pa_cons (pv 2) pa_nil)) (nomark _)))))))), ?_⟩
    have no : ∀ H', Same H H' → ¬ IsRound g z r → Q (.bl false) H' := fun H' sm h => q false H' sm ⟨(fun e => by cases e), fun e => absurd e h⟩
    have hxl := paired_len hxs
    have big : (1000000 : Nat) < sizeLine := by decide
    have hz8 := hI.s8
    refine ⟨Nat.zero_le _, fun D nD => ?_⟩
    have s0 : Same H (upd H D (.lst [])) := same_new nD
    refine ⟨.ref p, rfl, p, rfl, ⟨_, SqT.of (s0 _ _ hp)⟩, ?_⟩
    refine for_it (walk_tup (xs := xs)) (fun i σ H2 => ∃ y4 : Option V, σ = [some (.int g), some (.int z), some (.ref p), some (.ref D), y4] ∧ Same H H2 ∧ H2 D = some (.lst ((r.take i).flatten.map V.int)) ∧ ((r.take i).flatten.length ≤ 8 * i) ∧ ∀ t ∈ r.take i, (1 ≤ t.length ∧ (t.length : Int) ≤ z) ∧ t.Pairwise (· ≤ ·))
      ⟨none, rfl, s0, upd_same, by simp, by simp⟩ (fun i σ H2 _ h => ?_) (fun i x σ H2 H3 hi hI2 y => ?_) (fun σ H2 hI2 => ?_)
    · obtain ⟨_, _, sm, _⟩ := h
      exact SqT.of (sm _ _ hp)
    · obtain ⟨y4, rfl, sm, hD, hfl, hall⟩ := hI2
      obtain ⟨rfl, hx⟩ := y
      obtain ⟨t, ht, a, rfl, ha⟩ := paired_getL hxs hx
      have hmt := List.mem_of_getElem? ht
      have ha3 := sm _ _ ha
      have bad : ∀ H', Same H H' → ¬ ((1 ≤ t.length ∧ (t.length : Int) ≤ z) ∧ t.Pairwise (· ≤ ·)) → Q (.bl false) H' := fun H' s' h => no H' s' fun y => h ⟨y.sz t hmt, y.up t hmt⟩
      refine ⟨.ref a, rfl, a, _, rfl, .inr (SqT.of ha3), 1, _, rfl, rfl, _, rfl, ite2 (fun h1 => ?_) (fun h1 => ?_)⟩
      · have h1 : 1 ≤ t.length := by
          have := of_decide_eq_true h1
          rw [List.length_map] at this
          omega
        refine ⟨.int z, rfl, _, _, rfl, rfl, _, rfl, ite2 (fun h2 => ?_) (fun h2 => ?_)⟩
        · refine iteT (bad _ sm fun y => ?_)
          rw [List.length_map] at h2
          simp [y.1.2] at h2
        · have h2 : (t.length : Int) ≤ z := by
            rw [List.length_map] at h2
            simpa using h2
          refine ⟨.ref a, rfl, a, _, rfl, .inr (SqT.of ha3), fun b nb => ?_⟩
          have s4 : Same H3 (upd H3 b (.lst (t.map V.int))) := same_new nb
          refine ⟨.ref a, rfl, ?_⟩
          dsimp only [tNil]
          refine sort_ints (.inr (SqT.of (s4 _ _ ha3))) fun c nc => ?_
          have s5 := s4.trans (same_new (o := .lst ((sortI t).map V.int)) nc)
          have hb5 := (same_new (o := .lst ((sortI t).map V.int)) nc) _ _ (upd_same : (upd H3 b (.lst (t.map V.int))) b = _)
          refine ⟨.list (t.map .int), .list ((sortI t).map .int), .lst (SqL.of hb5) (dpAll_ints t), .lst (SqL.of upd_same) (dpAll_ints _), shInts _, shInts _, _, rfl, ?_⟩
          have sm5 := sm.trans s5
          refine ite2 (fun h3 => ?_) (fun h3 => ?_)
          · refine bad _ sm5 fun y => ?_
            rw [(eqv_ints _ _).mpr ((sortI_iff t).mpr y.2)] at h3
            cases h3
          · have h3 : t.Pairwise (· ≤ ·) := by
              refine (sortI_iff t).mp ((eqv_ints _ _).mp ?_)
              simpa using h3
            have hD5 := s5 _ _ hD
            refine ⟨.ref D, rfl, .inl ⟨rfl, _, SqL.of hD5⟩, .ref a, rfl, D, a, _, _, rfl, rfl, hD5, s5 _ _ ha3, ?_, ⟨_, rfl, same_put sm5 nD, ?_, ?_, ?_⟩⟩
            · rw [List.length_map, List.length_map]
              omega
            · rw [upd_same, takeSucc ht, List.flatten_append, List.map_append]
              simp
            · rw [takeSucc ht, List.flatten_append, List.length_append]
              simp only [List.flatten_cons, List.flatten_nil, List.append_nil]
              omega
            · intro u hu
              rw [takeSucc ht] at hu
              rcases List.mem_append.mp hu with hu | hu
              · exact hall u hu
              · rw [List.mem_singleton.mp hu]
                exact ⟨⟨h1, h2⟩, h3⟩
      · refine ⟨_, rfl, iteT (bad _ sm fun y => h1 (decide_eq_true ?_))⟩
        rw [List.length_map]
        have := y.1.1
        omega
    · obtain ⟨y4, rfl, sm, hD, hfl, hall⟩ := hI2
      rw [hxl, List.take_of_length_le (Nat.le_refl _)] at hD hfl hall
      have hfl4 : r.flatten.length ≤ 4000 := by omega
      -- the last part: behind the bounds and the looks for guests told twice
      have last : ∀ H3, Same H2 H3 → (∀ x ∈ r.flatten, 0 ≤ x ∧ x < g) → r.flatten.Nodup → tRet (tAndV (tOp (rI0 fun i j => .bl (decide (i ≤ j))) (tCB (fun xs H Q => ∃ p ys, xs = [V.ref p] ∧ (SqL K H p ys ∨ SqT K H p ys) ∧ Q (V.int ys.length) H) (tCons (tVar 2) tNil)) (tOp (rI CDiv fun i j => .int (i / j)) (tVar 0) (tVar 1)))
          (tOp (rEqD K) (tCB (fun xs H Q => ∃ p ys, xs = [V.ref p] ∧ (SqL K H p ys ∨ SqT K H p ys) ∧ ∀ l, H l = none → Q (V.ref l) (upd H l (.lst ys))) (tCons (tVar 2) tNil)) (tCB (rSortD K dT) (tCons (tVar 2) tNil))))
          { nx := fun _ H' => Q .non H', rt := Q } [some (.int g), some (.int z), some (.ref p), some (.ref D), y4] H3 := fun H3 s3 hlo hnd => by
        have sm3 := sm.trans s3
        have hp3 := sm3 _ _ hp
        refine ⟨.ref p, rfl, p, xs, rfl, .inr (SqT.of hp3), .int g, rfl, .int z, rfl, g, z, rfl, rfl, ⟨by have := hI.s2; omega, by omega⟩, _, _, rfl, rfl, _, rfl, ite2 (fun h1 => ?_) (fun h1 => ?_)⟩
        · have h1 : (r.length : Int) ≤ g / z := by
            have := of_decide_eq_true h1
            omega
          refine ⟨.ref p, rfl, p, xs, rfl, .inr (SqT.of hp3), fun b nb => ?_⟩
          have s4 : Same H3 (upd H3 b (.lst xs)) := same_new nb
          refine ⟨.ref p, rfl, ?_⟩
          dsimp only [tNil]
          refine sort_tabs (.inr (SqT.of (s4 _ _ hp3))) (paired_mono (fun _ _ h => h.mono (same_toT (sm3.trans s4))) hxs) (fun t ht e => ?_) fun ys c nc hys => ?_
          · have := (hall t ht).1.1
            rw [e] at this
            simp at this
          · have s5 : Same (upd H3 b (.lst xs)) (upd (upd H3 b (.lst xs)) c (.lst ys)) := same_new nc
            have sm5 := (sm3.trans s4).trans s5
            refine ⟨.list (r.map dT), .list ((sortT r).map dT), dp_lst (fun _ _ h => dp_tab h) (SqL.of (s5 _ _ upd_same)) (paired_mono (fun _ _ h => h.mono (same_toT sm5)) hxs),
              dp_lst (fun _ _ h => dp_tab h) (SqL.of upd_same) (paired_mono (fun _ _ h => h.mono (same_toT s5)) hys), shTabs _, shTabs _, ?_⟩
            refine q _ _ sm5 ?_
            rw [eqv_tabs, sortT_iff]
            exact ⟨fun e => ⟨fun t ht => (hall t ht).1, fun t ht => (hall t ht).2, hlo, hnd, h1, e⟩, fun e => e.ord⟩
        · exact no _ sm3 fun y => h1 (decide_eq_true (by have := y.ct; omega))
      -- len(set(everyone)) != len(everyone)
      have two : ∀ H3, Same H2 H3 → (∀ x ∈ r.flatten, 0 ≤ x ∧ x < g) → tTest (tOp rNe (tLenSet K (tVar 3)) (tCB (fun xs H Q => ∃ p ys, xs = [V.ref p] ∧ (SqL K H p ys ∨ SqT K H p ys) ∧ Q (V.int ys.length) H) (tCons (tVar 3) tNil)))
          [some (.int g), some (.int z), some (.ref p), some (.ref D), y4] H3 (fun b H4 => if b = true then tRet (tC (.bl false)) { nx := fun _ H' => Q .non H', rt := Q } [some (.int g), some (.int z), some (.ref p), some (.ref D), y4] H4 else
            tRet (tAndV (tOp (rI0 fun i j => .bl (decide (i ≤ j))) (tCB (fun xs H Q => ∃ p ys, xs = [V.ref p] ∧ (SqL K H p ys ∨ SqT K H p ys) ∧ Q (V.int ys.length) H) (tCons (tVar 2) tNil)) (tOp (rI CDiv fun i j => .int (i / j)) (tVar 0) (tVar 1)))
          (tOp (rEqD K) (tCB (fun xs H Q => ∃ p ys, xs = [V.ref p] ∧ (SqL K H p ys ∨ SqT K H p ys) ∧ ∀ l, H l = none → Q (V.ref l) (upd H l (.lst ys))) (tCons (tVar 2) tNil)) (tCB (rSortD K dT) (tCons (tVar 2) tNil))))
          { nx := fun _ H' => Q .non H', rt := Q } [some (.int g), some (.int z), some (.ref p), some (.ref D), y4] H4) := fun H3 s3 hlo => by
        have hD3 := s3 _ _ hD
        refine ⟨.ref D, rfl, D, r.flatten, rfl, SqL.of hD3, hfl4, .ref D, rfl, D, _, rfl, .inl (SqL.of hD3), rfl, _, rfl, ite2 (fun h1 => ?_) (fun h1 => ?_)⟩
        · refine no _ (sm.trans s3) fun y => ?_
          have e := (metN_iff _).mpr y.nd
          rw [List.length_map, e] at h1
          simp at h1
        · refine last _ s3 hlo ((metN_iff _).mp ?_)
          rw [List.length_map] at h1
          have : V.int (metN r.flatten : Nat) = V.int (r.flatten.length : Nat) := by simpa using h1
          have := V.int.inj this
          omega
      -- everyone != []
      refine ⟨.ref D, rfl, Nat.zero_le _, fun e ne => ?_⟩
      have s3 : Same H2 (upd H2 e (.lst [])) := same_new ne
      refine ⟨.list (r.flatten.map .int), .list [], .lst (SqL.of (s3 _ _ hD)) (dpAll_ints _), .lst (SqL.of upd_same) .nil, shInts _, shNil, _, rfl, ?_⟩
      rw [eqv_nil]
      cases hf : r.flatten with
      | nil =>
        refine iteF (iteF ?_)
        exact two _ s3 (by rw [hf]; simp)
      | cons f0 fr =>
        refine iteT ?_
        have hpos : 0 < r.flatten.length := by rw [hf]; simp
        refine ⟨.ref D, rfl, D, r.flatten, rfl, SqL.of (s3 _ _ hD), hpos, fun m hm hmin => ⟨m, 0, rfl, rfl, _, rfl, ite2 (fun h1 => ?_) (fun h1 => ?_)⟩⟩
        · refine iteT (no _ (sm.trans s3) fun y => ?_)
          have := (y.lo m hm).1
          have := of_decide_eq_true h1
          omega
        · have h1 : 0 ≤ m := by
            have : ¬ m < 0 := fun e => h1 (decide_eq_true e)
            omega
          refine ⟨.ref D, rfl, D, r.flatten, rfl, SqL.of (s3 _ _ hD), hpos, fun M hM hmax => ⟨.int g, rfl, M, g, rfl, rfl, _, rfl, ite2 (fun h2 => ?_) (fun h2 => ?_)⟩⟩
          · refine (no _ (sm.trans s3) fun y => ?_)
            have := (y.lo M hM).2
            have := of_decide_eq_true h2
            omega
          · have h2 : M < g := by
              have : ¬ g ≤ M := fun e => h2 (decide_eq_true e)
              omega
            refine two _ s3 fun x hx => ?_
            have := hmin x hx
            have := hmax x hx
            omega
end Nf

set_option Elab.async false
set_option linter.all false
set_option maxRecDepth 100000
set_option maxHeartbeats 4000000
namespace Nf
open PySem PySem.Spec PyProof.Rows L2
variable {P : Program} {w : World} {K : PySem.W.Frag} {mg : Str → Option Value} {base : Heap}
/-! ### what all laws share -/
structure Has (P : Program) (w : World) (K : PySem.W.Frag) (mg : Str → Option Value) (base : Heap) (n : Nat) (x : Str) (f : Addr) (fd : FuncData) (ps : List Str) (sp : Sp) : Prop where
  ok : FnOk P w K mg base CX0 n f fd ps sp
  kp : PySem.W.keepIn K (.ref f) = true
  b : Binds K fd ps []
  g : mg x = some (.ref f)
theorem paired_set {α β : Type} {R : α → β → Prop} {x : α} {y : β} : ∀ {xs : List α} {ys : List β} (i : Nat), Paired R xs ys → R x y → Paired R (xs.set i x) (ys.set i y)
  | _, _, _, .nil, _ => .nil
  | _, _, 0, .cons _ t, h => .cons h t
  | _, _, i + 1, .cons r t, h => .cons r (paired_set i t h)
theorem paired_ins {α β : Type} {R : α → β → Prop} {x : α} {y : β} : ∀ {xs : List α} {ys : List β} (i : Nat), Paired R xs ys → R x y → Paired R (xs.take i ++ [x] ++ xs.drop i) (ys.take i ++ [y] ++ ys.drop i)
  | _, _, i, .nil, h => by simpa using Paired.cons h .nil
  | _, _, 0, .cons r t, h => .cons h (.cons r t)
  | _, _, i + 1, .cons r t, h => .cons r (paired_ins i t h)
/-- what stands in one turn of the law: the row, the party, the plan so far -/
structure LawI (K : PySem.W.Frag) (C : Addr) (H : Hp) (r a p dx l : Addr) (ns : List Int) (g z : Int) (rs : List Rnd) (m n L : Nat) : Prop where
  row : RowAt K H r a ns
  pa : H p = some (.ins C dx (pf g z))
  pl : ∃ xs, H l = some (.lst xs) ∧ Paired (RndV H) xs rs
  nlr : l ≠ r
  cnt : rs.length ≤ m
  bd : ∀ rd ∈ rs, rd.length ≤ n ∧ ∀ t ∈ rd, t.length ≤ L
  put : ∀ (H' : Hp) (o : HO), RowAt K H' r a ns → RowAt K (upd H' l o) r a ns
section
variable {C : Addr} {H H' : Hp} {r a p dx l : Addr} {ns : List Int} {g z : Int} {rs : List Rnd} {m n L : Nat}
theorem LawI.keep (h : LawI K C H r a p dx l ns g z rs m n L) (R : RowAt K H' r a ns) (s : Sx r H H') : LawI K C H' r a p dx l ns g z rs m n L := by
  obtain ⟨xr, hxr⟩ := h.row.lst
  obtain ⟨xs, hl, hp⟩ := h.pl
  exact ⟨R, s _ _ (ne_of h.pa hxr (by intro e; cases e)) h.pa, ⟨xs, s _ _ h.nlr hl, paired_mono (fun _ _ z => z.mono (s.toT hxr)) hp⟩, h.nlr, h.cnt, h.bd, h.put⟩
theorem LawI.same (h : LawI K C H r a p dx l ns g z rs m n L) (s : Same H H') : LawI K C H' r a p dx l ns g z rs m n L := h.keep (h.row.keep s) (same_sx s)
theorem LawI.toT (h : LawI K C H r a p dx l ns g z rs m n L) (s : Sx r H H') : SameT H H' := by
  obtain ⟨xr, hxr⟩ := h.row.lst
  exact s.toT hxr
theorem LawI.putL (h : LawI K C H r a p dx l ns g z rs m n L) {ys : List V} {qs : List Rnd} {m' n' L' : Nat} (hq : Paired (RndV H) ys qs) (hm : qs.length ≤ m') (hb : ∀ rd ∈ qs, rd.length ≤ n' ∧ ∀ t ∈ rd, t.length ≤ L') : LawI K C (upd H l (.lst ys)) r a p dx l ns g z qs m' n' L' := by
  obtain ⟨xs, hl, hp⟩ := h.pl
  have T : SameT H (upd H l (.lst ys)) := fun a2 us e2 => by
    rw [upd_ne (ne_of e2 hl (by intro z; cases z))]
    exact e2
  refine ⟨h.put _ _ h.row, ?_, ⟨ys, upd_same, paired_mono (fun _ _ z => z.mono T) hq⟩, h.nlr, hm, hb, h.put⟩
  rw [upd_ne (ne_of h.pa hl (by intro e; cases e))]
  exact h.pa
theorem LawI.wide (h : LawI K C H r a p dx l ns g z rs m n L) {m' n' L' : Nat} (e1 : m ≤ m') (e2 : n ≤ n') (e3 : L ≤ L') : LawI K C H r a p dx l ns g z rs m' n' L' :=
  ⟨h.row, h.pa, h.pl, h.nlr, Nat.le_trans h.cnt e1, fun rd hr => ⟨Nat.le_trans (h.bd rd hr).1 e2, fun t ht => Nat.le_trans ((h.bd rd hr).2 t ht) e3⟩, h.put⟩
end
theorem round_bd {g z : Int} (hI : IsParty g z) {rd : Rnd} (h : IsRound g z rd) : rd.length ≤ 32 ∧ ∀ t ∈ rd, t.length ≤ 8 := by
  have h2 := hI.s2
  have h8 := hI.s8
  have h64 := hI.g64
  refine ⟨?_, fun t ht => ?_⟩
  · have e : g / z * z ≤ g := Int.ediv_mul_le g (by omega)
    have e2 : g / z ≤ 32 := by
      refine Int.le_of_lt_add_one ((Int.ediv_lt_iff_lt_mul (by omega)).mpr ?_)
      omega
    have := h.ct
    omega
  · have := (h.sz t ht).2
    omega
theorem four_le : 4 ≤ sizeLine := by decide
end Nf

set_option Elab.async false
set_option linter.all false
set_option maxRecDepth 100000
set_option maxHeartbeats 4000000
namespace Nf
open PySem PySem.Spec PyProof.Rows L2
variable {P : Program} {w : World} {K : PySem.W.Frag} {mg : Str → Option Value} {base : Heap}
/-! ### spoilt -/
/-- a list of lists of whole numbers that stands apart: at D, its items new since H0 -/
def Nest (H0 H : Hp) (r D : Addr) (n L : Nat) : Prop := ∃ acc : List V, H D = some (.lst acc) ∧ acc.length ≤ n ∧ ∀ v ∈ acc, ∃ (a : Addr) (ms : List Int), v = .ref a ∧ a ≠ D ∧ a ≠ r ∧ H0 a = none ∧ H a = some (.lst (ms.map V.int)) ∧ ms.length ≤ L
theorem Nest.keep {H0 H H' : Hp} {r D : Addr} {n L : Nat} (h : Nest H0 H r D n L) (nDr : D ≠ r) (s : Sx r H H') : Nest H0 H' r D n L := by
  obtain ⟨acc, hD, hl, ha⟩ := h
  refine ⟨acc, s _ _ nDr hD, hl, fun v hv => ?_⟩
  obtain ⟨a, ms, rfl, h1, h2, h3, h4, h5⟩ := ha v hv
  exact ⟨a, ms, rfl, h1, h2, h3, s _ _ h2 h4, h5⟩
theorem Nest.wide {H0 H : Hp} {r D : Addr} {n L n' L' : Nat} (h : Nest H0 H r D n L) (hn : n ≤ n') (hL : L ≤ L') : Nest H0 H r D n' L' := by
  obtain ⟨acc, hD, hl, ha⟩ := h
  refine ⟨acc, hD, by omega, fun v hv => ?_⟩
  obtain ⟨a, ms, rfl, h1, h2, h3, h4, h5⟩ := ha v hv
  exact ⟨a, ms, rfl, h1, h2, h3, h4, by omega⟩
/-- an inner list is changed -/
theorem Nest.inner {H0 H : Hp} {r D : Addr} {n L L' : Nat} (h : Nest H0 H r D n L) {a : Addr} {ms : List Int} (hL : L ≤ L') (haD : a ≠ D) (har : a ≠ r) (ha0 : H0 a = none) (hm : ms.length ≤ L') : Nest H0 (upd H a (.lst (ms.map V.int))) r D n L' := by
  obtain ⟨acc, hD, hl, ha⟩ := h
  refine ⟨acc, by rw [upd_ne haD.symm]; exact hD, hl, fun v hv => ?_⟩
  obtain ⟨b, ks, rfl, h1, h2, h3, h4, h5⟩ := ha v hv
  by_cases e : b = a
  · subst e
    exact ⟨b, ms, rfl, h1, h2, h3, upd_same, hm⟩
  · exact ⟨b, ks, rfl, h1, h2, h3, by rw [upd_ne e]; exact h4, by omega⟩
/-- the outer list is changed -/
theorem Nest.outer {H0 H : Hp} {r D : Addr} {n L n' L' : Nat} (h : Nest H0 H r D n L) (hL : L ≤ L') {acc' : List V} (hl : acc'.length ≤ n') (hm : ∀ v ∈ acc', (∃ acc, H D = some (.lst acc) ∧ v ∈ acc) ∨ ∃ (a : Addr) (ms : List Int), v = .ref a ∧ a ≠ D ∧ a ≠ r ∧ H0 a = none ∧ H a = some (.lst (ms.map V.int)) ∧ ms.length ≤ L') :
    Nest H0 (upd H D (.lst acc')) r D n' L' := by
  obtain ⟨acc, hD, _, ha⟩ := h
  refine ⟨acc', upd_same, hl, fun v hv => ?_⟩
  rcases hm v hv with ⟨acc2, e, hv2⟩ | ⟨a, ms, rfl, h1, h2, h3, h4, h5⟩
  · rw [hD] at e
    cases e
    obtain ⟨b, ks, rfl, h1, h2, h3, h4, h5⟩ := ha v hv2
    exact ⟨b, ks, rfl, h1, h2, h3, by rw [upd_ne h1]; exact h4, by omega⟩
  · exact ⟨a, ms, rfl, h1, h2, h3, by rw [upd_ne h1]; exact h4, h5⟩
abbrev rTupOf (K : PySem.W.Frag) : List V → Hp → VK → Prop := fun xs H Q => ∃ p ys, xs = [V.ref p] ∧ ((SqL K H p ys ∧ ∀ l, H l = none → Q (V.ref l) (upd H l (.tup ys))) ∨ (SqT K H p ys ∧ Q (V.ref p) H))
abbrev tTups (K : PySem.W.Frag) : TE := tLc (iList K (tVar 3)) (gName 7) tYes (tCB (rTupOf K) (tCons (tVar 7) tNil)) [7]
/-- [tuple(t) for t in found] -/
theorem tups_ok {H0 H : Hp} {r D : Addr} {n L : Nat} (hN : Nest H0 H r D n L) (hn : n ≤ 100000) {y0 y1 y2 y4 y5 y6 y7 : Option V} {Q : VK} (q : ∀ u H' acc ls, Same H H' → H u = none → H' u = some (.lst acc) → Paired (TabV H') acc ls → ls.length ≤ n → (∀ t ∈ ls, t.length ≤ L) → Q (.ref u) H') :
    tTups K [y0, y1, y2, some (.ref D), y4, y5, y6, y7] H Q := by
  obtain ⟨acc, hD, hl, ha⟩ := hN
  refine ⟨.ref D, rfl, D, rfl, ⟨acc, SqL.of hD⟩, fun u nu => ?_⟩
  have big : (100000 : Nat) < sizeLine := by decide
  have s0 : Same H (upd H u (.lst [])) := same_new nu
  refine lc_it (walk_list (xs := acc)) (fun i H2 => Same H H2 ∧ ∃ zs ls, H2 u = some (.lst zs) ∧ Paired (TabV H2) zs ls ∧ ls.length ≤ i ∧ ∀ t ∈ ls, t.length ≤ L) ⟨s0, [], [], upd_same, .nil, Nat.le_refl _, by simp⟩ (fun i H2 _ p => SqL.of (p.1 _ _ hD)) (fun i x H2 H3 hi hI y => ?_) (fun H2 hI => ?_)
  · obtain ⟨rfl, hx⟩ := y
    obtain ⟨sm, zs, ls, hu, hp, hll, hlt⟩ := hI
    obtain ⟨a, ms, rfl, h1, h2, h3, h4, h5⟩ := ha x (List.mem_of_getElem? hx)
    refine ⟨wipe_put (by decide), yesT ?_⟩
    show tCB (rTupOf K) (tCons (tVar 7) tNil) [y0, y1, y2, some (.ref D), y4, y5, y6, some (.ref a)] _ _
    refine ⟨.ref a, rfl, a, _, rfl, .inl ⟨SqL.of (sm _ _ h4), fun T nT => ?_⟩⟩
    have s3 : Same H3 (upd H3 T (.tup (ms.map V.int))) := same_new nT
    have hu3 := s3 _ _ hu
    refine ⟨zs, hu3, ?_, same_put (sm.trans s3) nu, zs ++ [.ref T], ls ++ [ms], upd_same, ?_, ?_, ?_⟩
    · have := paired_len hp
      omega
    · have keepT : ∀ {v : V} {t : Tbl}, TabV (upd H3 T (.tup (ms.map V.int))) v t → TabV (upd (upd H3 T (.tup (ms.map V.int))) u (.lst (zs ++ [.ref T]))) v t := fun {v t} h => by
        obtain ⟨a2, rfl, ha2⟩ := h
        exact ⟨a2, rfl, by rw [upd_ne (ne_of ha2 hu3 (by intro z; cases z))]; exact ha2⟩
      exact paired_snoc (paired_mono (fun v t h => keepT (h.mono (same_toT s3))) hp) (keepT ⟨T, rfl, upd_same⟩)
    · rw [List.length_append, List.length_singleton]
      omega
    · intro t ht
      rcases List.mem_append.mp ht with ht | ht
      · exact hlt t ht
      · rw [List.mem_singleton.mp ht]
        exact h5
  · obtain ⟨sm, zs, ls, hu, hp, hll, hlt⟩ := hI
    exact q u H2 zs ls sm nu hu hp (by omega) hlt
theorem lay_nest : ∀ ls : List (List Int), PyData.canLayAll0 (ls.map fun m => .list (m.map .int)) = true
  | [] => rfl
  | x :: xs => by simp [PyData.canLayAll0, PyData.canLay0, lay_nest xs, layInts]
theorem dep_nest : ∀ ls : List (List Int), PyData.depthAll (ls.map fun m => .list (m.map .int)) ≤ 1
  | [] => by simp [PyData.depthAll]
  | x :: xs => by
    have := dep_nest xs
    have := depInts x
    simp only [List.map_cons, PyData.depthAll, PyData.depth]
    omega
theorem sh_nest (ls : List (List Int)) : SeqAt.shaped (.list (ls.map fun m => .list (m.map .int))) = true := by
  have l := lay_nest ls
  have h := dep_nest ls
  unfold SeqAt.shaped
  rw [Bool.and_eq_true]
  refine ⟨by simp [PyData.canLay0, l], decide_eq_true ?_⟩
  simp only [PyData.depth]
  omega
def LstV (H : Hp) (x : V) (m : List Int) : Prop := ∃ a, x = .ref a ∧ H a = some (.lst (m.map V.int))
theorem nest_paired {H : Hp} : ∀ {acc : List V}, (∀ v ∈ acc, ∃ (a : Addr) (ms : List Int), v = .ref a ∧ H a = some (.lst (ms.map V.int))) → ∃ ls, Paired (LstV H) acc ls
  | [], _ => ⟨[], .nil⟩
  | v :: acc, h => by
    obtain ⟨a, ms, rfl, e⟩ := h v (by simp)
    obtain ⟨ls, p⟩ := nest_paired (acc := acc) fun u hu => h u (by simp [hu])
    exact ⟨ms :: ls, .cons ⟨a, rfl, e⟩ p⟩
theorem dp_lstv {H : Hp} {x : V} {m : List Int} (h : LstV H x m) : Dp K H x (.list (m.map .int)) := by
  obtain ⟨a, rfl, e⟩ := h
  exact .lst (SqL.of e) (dpAll_ints m)
/-- the same, the list told -/
def NestA (H0 H : Hp) (r D : Addr) (lo L : Nat) (acc : List V) : Prop := H D = some (.lst acc) ∧ ∀ v ∈ acc, ∃ (a : Addr) (ms : List Int), v = .ref a ∧ a ≠ D ∧ a ≠ r ∧ H0 a = none ∧ H a = some (.lst (ms.map V.int)) ∧ ms.length ≤ L ∧ lo ≤ ms.length
theorem NestA.keep {H0 H H' : Hp} {r D : Addr} {lo L : Nat} {acc : List V} (h : NestA H0 H r D lo L acc) (nDr : D ≠ r) (s : Sx r H H') : NestA H0 H' r D lo L acc := by
  obtain ⟨hD, ha⟩ := h
  refine ⟨s _ _ nDr hD, fun v hv => ?_⟩
  obtain ⟨a, ms, rfl, h1, h2, h3, h4, h5⟩ := ha v hv
  exact ⟨a, ms, rfl, h1, h2, h3, s _ _ h2 h4, h5⟩
theorem NestA.nest {H0 H : Hp} {r D : Addr} {lo L : Nat} {acc : List V} (h : NestA H0 H r D lo L acc) : Nest H0 H r D acc.length L := by
  obtain ⟨hD, ha⟩ := h
  refine ⟨acc, hD, Nat.le_refl _, fun v hv => ?_⟩
  obtain ⟨a, ms, rfl, h1, h2, h3, h4, h5⟩ := ha v hv
  exact ⟨a, ms, rfl, h1, h2, h3, h4, h5.1⟩
theorem nest_a {H0 H : Hp} {r D : Addr} {n L : Nat} (h : Nest H0 H r D n L) : ∃ acc, NestA H0 H r D 0 L acc ∧ acc.length ≤ n := by
  obtain ⟨acc, hD, hl, ha⟩ := h
  refine ⟨acc, ⟨hD, fun v hv => ?_⟩, hl⟩
  obtain ⟨a, ms, rfl, h1, h2, h3, h4, h5⟩ := ha v hv
  exact ⟨a, ms, rfl, h1, h2, h3, h4, h5, Nat.zero_le _⟩
theorem NestA.at {H0 H : Hp} {r D : Addr} {lo L : Nat} {acc : List V} (h : NestA H0 H r D lo L acc) {v : Int} (h0 : 0 ≤ v) (h1 : v < acc.length) : ∃ (a : Addr) (ms : List Int), atI acc v = some (.ref a) ∧ V.ref a ∈ acc ∧ a ≠ D ∧ a ≠ r ∧ H0 a = none ∧ H a = some (.lst (ms.map V.int)) ∧ ms.length ≤ L ∧ lo ≤ ms.length := by
  have hlt : v.toNat < acc.length := by omega
  have hat : acc[v.toNat]? = some acc[v.toNat] := List.getElem?_eq_getElem hlt
  obtain ⟨a, ms, e, h2⟩ := h.2 _ (List.mem_of_getElem? hat)
  refine ⟨a, ms, ?_, ?_, h2⟩
  · rw [← e]
    exact at_of (show v = ((v.toNat : Nat) : Int) by omega) hat
  · rw [← e]
    exact List.mem_of_getElem? hat
theorem ixN_of {n : Nat} {v : Int} (h0 : 0 ≤ v) (h1 : v < n) : ixN n v = some v.toNat := by
  unfold ixN
  rw [if_pos h0, if_pos (by omega)]
theorem at_int {ms : List Int} {v : Int} (h0 : 0 ≤ v) (h1 : v < ms.length) : ∃ w : Int, atI (ms.map V.int) v = some (.int w) := by
  have hlt : v.toNat < ms.length := by omega
  exact ⟨ms[v.toNat], at_of (show v = ((v.toNat : Nat) : Int) by omega) (int_getElem? (List.getElem?_eq_getElem hlt))⟩
theorem nest_full {H : Hp} {acc : List V} {ls : List (List Int)} (hp : Paired (LstV H) acc ls) (hn : ∀ l ∈ ls, l ≠ []) {a : Addr} {ms : List Int} (hv : V.ref a ∈ acc) (ha : H a = some (.lst (ms.map V.int))) : 1 ≤ ms.length := by
  obtain ⟨i, hi⟩ := List.mem_iff_getElem?.mp hv
  obtain ⟨l, hl, b, e, hb⟩ := paired_getL hp hi
  cases e
  rw [ha] at hb
  have e2 := congrArg List.length (HO.lst.inj (Option.some.inj hb))
  rw [List.length_map, List.length_map] at e2
  have := List.length_pos_iff.mpr (hn l (List.mem_of_getElem? hl))
  omega
theorem scSpoilt : FnScope ["_law_row", "_law_guests", "_law_tables", "_law_found", "_law_way", "_law_k", "_law_j", "_law_table"] ["_law_row", "_law_guests", "_law_tables"] (defScope lSpoilt) := ⟨rfl, rfl, rfl, by decide +kernel, rfl, by decide +kernel, by decide +kernel⟩
def spSpoilt (K : PySem.W.Frag) : Sp := fun vs H Q _ => ∃ (r a : Addr) (ns : List Int) (g : Int) (x : V) (rd : Rnd) (n L : Nat), vs = [.ref r, .int g, x] ∧ RowAt K H r a ns ∧ RndV H x rd ∧ rd.length ≤ n ∧ (∀ t ∈ rd, t.length ≤ L) ∧ n ≤ 1000 ∧ L ≤ 1000 ∧
  ∀ y H' rd', RowAt K H' r a ns → Sx r H H' → RndV H' y rd' → rd'.length ≤ n + 1 → (∀ t ∈ rd', t.length ≤ 2 * L + 1) → Q y H'
theorem ok_spoilt {f fT : Addr} {fd fdT : FuncData} (F : Fun K "_law_spoilt" "_law_spoilt" lSpoilt f fd) (B : Blt mg) (FT : Fun K "_law_taken" "_law_taken" lTaken fT fdT) (bT : Binds K fdT ["_law_row", "_law_many_here"] []) (gT : mg "_law_taken" = some (.ref fT)) : FnOk P w K mg base CX0 2 f fd ["_law_row", "_law_guests", "_law_tables"] (spSpoilt K) := by
  have GT : FnOk P w K mg base CX0 1 fT fdT ["_law_row", "_law_many_here"] (spTaken K) := ok_taken FT B
  refine F.ok scSpoilt (fun vs H Q E h => ?_) (fun cdv A outer s H vs Q E hr h => ?_)
  · obtain ⟨r, a, ns, g, x, rd, n, L, rfl, _⟩ := h
    rfl
  · obtain ⟨r, a, ns, g, x, rd, n, L, rfl, hR, ⟨p, xs, rfl, hp, hxs⟩, hn, hL, hn1, hL1, q⟩ := h
    have hu65 : (A.deeper (envOfC "_law_spoilt" (defScope lSpoilt) s.heap.objs.size f cdv)).units + 65 < cLine := by
      have := hr.un
      omega
    refine ⟨_, pss_cons (ps_setLcN (i := 3) (own := [("_law_table", 7)]) (wi := iTup K (tVar 2)) (t := tCl (gName 7) tYes [7] (bLast (tCB (fun xs H Q => ∃ p ys, xs = [.ref p] ∧ (SqL K H p ys ∨ SqT K H p ys) ∧ ∀ l, H l = none → Q (.ref l) (upd H l (.lst ys))) (tCons (tVar 7) tNil))))
          (by rfl) scSpoilt.nd rfl rfl (sw_true rfl rfl rfl (by decide +kernel)) (pi_tup (pv 2)) (blkOk_by (N := ["_law_row", "_law_guests", "_law_tables", "_law_found", "_law_way", "_law_k", "_law_j", "_law_table"]) (sc := defScope lSpoilt) (by decide +kernel))
          (fun _ _ _ _ _ => pcl_last rfl rfl rfl rfl (pg_name (i := 7) (x := "_law_table") scSpoilt.nd rfl (.inl rfl) (.inr rfl)) pts_nil (pe_callTy call_list_of (by rfl) B.list (by decide +kernel) (pa_cons (pv 7) pa_nil))))
      (pss_cons (ps_set (i := 4) scSpoilt.nd rfl (.inl rfl) (pe_call GT hr (by rfl) gT FT.kp bT .nil pass0 (pa_cons (pv 0) (pa_cons pe_int pa_nil))))
      (pss_cons (ps_if (PW.pt (pw_or (pt_cmpR (op_eqD hr.units) (pv 3) (pe_lst pa_nil) (nomark _)) (pw_or (pt_cmpR (op_inD hu65) (pe_lst pa_nil) (pv 3) rfl) (pw_or1 (pt_cmpR op_eq (pv 4) pe_int (nomark _))))))
        (pss_one (ps_ret (pe_callTy call_tuple_of (by rfl) B.tuple (by decide +kernel) (pa_cons (pe_op op_cat (pe_lc (own := [("_law_table", 7)]) (g := gName 7) (tt := tYes) (te := tCB (rTupOf K) (tCons (tVar 7) tNil)) (by rfl) scSpoilt.nd (pi_list (pv 3))
            (blkOk_by (N := ["_law_row", "_law_guests", "_law_tables", "_law_found", "_law_way", "_law_k", "_law_j", "_law_table"]) (sc := defScope lSpoilt) (by decide +kernel)) (fun _ _ _ _ _ => pg_name (i := 7) (x := "_law_table") scSpoilt.nd rfl (.inl rfl) (.inr rfl)) (fun _ _ _ _ _ => pts_nil)
            (fun _ _ _ _ _ => pe_callTy call_tuple_of (by rfl) B.tuple (by decide +kernel) (pa_cons (pv 7) pa_nil))) (pe_lst (pa_cons (pe_tup pa_nil) pa_nil))) pa_nil)))) pss_nil)
      (pss_cons (ps_set (i := 5) scSpoilt.nd rfl (.inl rfl) (pe_call GT hr (by rfl) gT FT.kp bT .nil pass0 (pa_cons (pv 0) (pa_cons (pe_callB call_len_seq (by rfl) B.len PySem.boot_len (pa_cons (pv 3) pa_nil)) pa_nil))))
      (pss_cons (ps_set (i := 6) scSpoilt.nd rfl (.inl rfl) (pe_call GT hr (by rfl) gT FT.kp bT .nil pass0 (pa_cons (pv 0) (pa_cons (pe_callB call_len_seq (by rfl) B.len PySem.boot_len (pa_cons (pe_ix ix_list (pv 3) (pv 5) (fun _ _ => rfl)) pa_nil)) pa_nil))))
      (pss_cons (ps_if (pt_cmpR op_eq (pv 4) pe_int (nomark _))
          (pss_one (ps_asg (pe_ix ix_list (pe_lst (pa_cons (pe_op op_sub pe_int pe_int) (pa_cons (pv 1) (pa_cons (pe_op op_sub (pv 1) pe_int) (pa_cons pe_int pa_nil))))) (pe_call GT hr (by rfl) gT FT.kp bT .nil pass0 (pa_cons (pv 0) (pa_cons pe_int pa_nil))) (fun _ _ => rfl)) (pg_sub (pe_ix ix_list (pv 3) (pv 5) (fun _ _ => rfl)) (pv 6) set_list)))
        (pss_one (ps_if (pt_cmpR op_eq (pv 4) pe_int (nomark _))
          (pss_one (ps_expr (pe_bm PySem.F.plainAttrs_list PySem.F.slot_list_append PySem.F.type_list_append mt_append (pe_ix ix_list (pv 3) (pv 5) (fun _ _ => rfl)) (pa_cons (pe_ix ix_list (pe_ix ix_list (pv 3) (pe_call GT hr (by rfl) gT FT.kp bT .nil pass0 (pa_cons (pv 0) (pa_cons (pe_callB call_len_seq (by rfl) B.len PySem.boot_len (pa_cons (pv 3) pa_nil)) pa_nil))) (fun _ _ => rfl)) pe_int (fun _ _ => rfl)) pa_nil))))
        (pss_one (ps_if (pt_cmpR op_eq (pv 4) pe_int (nomark _))
          (pss_one (ps_expr (pe_bm PySem.F.plainAttrs_list PySem.F.slot_list_append PySem.F.type_list_append mt_append (pv 3) (pa_cons (pe_callTy call_list_of (by rfl) B.list (by decide +kernel) (pa_cons (pe_ix ix_list (pv 3) (pv 5) (fun _ _ => rfl)) pa_nil)) pa_nil))))
        (pss_one (ps_if (pt_cmpR op_eq (pv 4) pe_int (nomark _))
          (pss_one (ps_expr (pe_bm0 PySem.F.plainAttrs_list PySem.F.slot_list_reverse PySem.F.type_list_reverse mt_reverse (pe_ix ix_list (pv 3) (pv 5) (fun _ _ => rfl)))))
        (pss_one (ps_if (pt_cmpR op_eq (pv 4) pe_int (nomark _))
          (pss_one (ps_expr (pe_bm0 PySem.F.plainAttrs_list PySem.F.slot_list_reverse PySem.F.type_list_reverse mt_reverse (pv 3))))
        (pss_one (ps_if (pt_cmpR op_eq (pv 4) pe_int (nomark _))
          (pss_one (ps_asg (pe_op op_cat (pe_ix ix_list (pv 3) (pv 5) (fun _ _ => rfl)) (pe_ix ix_list (pv 3) (pe_call GT hr (by rfl) gT FT.kp bT .nil pass0 (pa_cons (pv 0) (pa_cons (pe_callB call_len_seq (by rfl) B.len PySem.boot_len (pa_cons (pv 3) pa_nil)) pa_nil))) (fun _ _ => rfl))) (pg_sub (pv 3) (pv 5) set_list)))
          (pss_one (ps_expr (pe_bm PySem.F.plainAttrs_list PySem.F.slot_list_pop PySem.F.type_list_pop mt_popAt (pe_ix ix_list (pv 3) (pv 5) (fun _ _ => rfl)) (pa_cons (pv 6) pa_nil)))))))))))))))
      (pss_one (ps_ret (pe_callTy call_tuple_of (by rfl) B.tuple (by decide +kernel) (pa_cons (pe_lc (own := [("_law_table", 7)]) (g := gName 7) (tt := tYes) (te := tCB (rTupOf K) (tCons (tVar 7) tNil)) (by rfl) scSpoilt.nd (pi_list (pv 3))
            (blkOk_by (N := ["_law_row", "_law_guests", "_law_tables", "_law_found", "_law_way", "_law_k", "_law_j", "_law_table"]) (sc := defScope lSpoilt) (by decide +kernel)) (fun _ _ _ _ _ => pg_name (i := 7) (x := "_law_table") scSpoilt.nd rfl (.inl rfl) (.inr rfl)) (fun _ _ _ _ _ => pts_nil)
            (fun _ _ _ _ _ => pe_callTy call_tuple_of (by rfl) B.tuple (by decide +kernel) (pa_cons (pv 7) pa_nil))) pa_nil))))))))), ?_⟩
    have hxl := paired_len hxs
    have big : (100000 : Nat) < sizeLine := by decide
    obtain ⟨xr0, hxr0⟩ := hR.lst
    refine ⟨.ref p, rfl, p, rfl, ⟨_, SqT.of hp⟩, fun D nD => ?_⟩
    have nDr : D ≠ r := fun e => by
      rw [e, hxr0] at nD
      cases nD
    have s0 : Same H (upd H D (.lst [])) := same_new nD
    show tCl (gName 7) tYes [7] _ _ D [some (.ref r), some (.int g), some (.ref p), none, none, none, none, none] _ _
    refine cl_it (walk_tup (xs := xs)) (fun i H2 => Same H H2 ∧ Nest H H2 r D i L) ⟨s0, [], upd_same, Nat.le_refl _, by simp⟩ (fun i H2 _ p => SqT.of (p.1 _ _ hp)) (fun i x H2 H3 hi hI y => ?_) (fun H2 hI => ?_)
    · obtain ⟨rfl, hx⟩ := y
      obtain ⟨t, ht, b, rfl, hb⟩ := paired_getL hxs hx
      obtain ⟨sm, acc, hD, hl, ha⟩ := hI
      refine ⟨wipe_put (by decide), yesT ?_⟩
      show bLast _ D [some (.ref r), some (.int g), some (.ref p), none, none, none, none, some (.ref b)] _ _
      refine ⟨.ref b, rfl, b, _, rfl, .inr (SqT.of (sm _ _ hb)), fun c nc => ?_⟩
      have s1 : Same H3 (upd H3 c (.lst (t.map V.int))) := same_new nc
      have hD1 := s1 _ _ hD
      have ncD : c ≠ D := (ne_of_none hD nc).symm
      have ncr : c ≠ r := (ne_of_none (sm _ _ hxr0) nc).symm
      refine ⟨acc, hD1, by omega, same_put (sm.trans s1) nD, acc ++ [.ref c], upd_same, by rw [List.length_append, List.length_singleton]; omega, fun v hv => ?_⟩
      rcases List.mem_append.mp hv with hv | hv
      · obtain ⟨a2, ms, rfl, h1, h2, h3, h4, h5⟩ := ha v hv
        exact ⟨a2, ms, rfl, h1, h2, h3, by rw [upd_ne h1]; exact s1 _ _ h4, h5⟩
      · rw [List.mem_singleton.mp hv]
        exact ⟨c, t, rfl, ncD, ncr, sm.free nc, by rw [upd_ne ncD]; exact upd_same, hL t (List.mem_of_getElem? ht)⟩
    obtain ⟨sm2, hN2⟩ := hI
    have hN2 := hN2.wide (show xs.length ≤ n by omega) (Nat.le_refl L)
    -- way = taken(row, 8)
    refine ⟨.ref r, rfl, r, a, ns, 8, rfl, hR.keep sm2, by decide, by decide, fun wv H3 w0 w1 R3 s3 => ?_⟩
    have hN3 := hN2.keep nDr s3
    have sx3 : Sx r H H3 := (same_sx sm2).trans s3
    have T3 : SameT H H3 := sx3.toT hxr0
    -- the early end
    have early : ∀ H4, Same H3 H4 → tCB (rTupOf K) (tCons (tOp rCat (tTups K) (tLst (tCons (tTup tNil) tNil))) tNil) [some (.ref r), some (.int g), some (.ref p), some (.ref D), some (.int wv), none, none, none] H4 Q := fun H4 s4 => by
      dsimp only [tCB, tCons, tOp, tNil]
      refine tups_ok (hN3.keep nDr (same_sx s4)) (by omega) fun u H5 acc ls s5 nu hu hp5 hl5 ht5 => ?_
      refine ⟨Nat.zero_le _, fun T nT => ⟨by show 1 ≤ sizeLine; decide, fun l2 nl2 => ?_⟩⟩
      have s6 : Same H5 (upd H5 T (.tup [])) := same_new nT
      have s7 := s6.trans (same_new (o := .lst [.ref T]) nl2)
      have hT7 := (same_new (o := .lst [.ref T]) nl2) _ _ (upd_same : (upd H5 T (.tup [])) T = _)
      have hpl := paired_len hp5
      refine ⟨u, l2, acc, [.ref T], rfl, rfl, s7 _ _ hu, upd_same, by rw [List.length_singleton]; omega, fun q2 nq2 => ?_⟩
      have s8 := s7.trans (same_new (o := .lst (acc ++ [.ref T])) nq2)
      have hT8 := (same_new (o := .lst (acc ++ [.ref T])) nq2) _ _ hT7
      refine ⟨q2, _, rfl, .inl ⟨SqL.of upd_same, fun t nt => ?_⟩⟩
      have s9 := s8.trans (same_new (o := .tup (acc ++ [.ref T])) nt)
      have sall := (s4.trans s5).trans s9
      refine q _ _ (ls ++ [[]]) (R3.keep sall) (sx3.trans (same_sx sall)) ⟨t, _, rfl, upd_same, ?_⟩ (by rw [List.length_append, List.length_singleton]; omega) (fun t ht => ?_)
      · exact paired_snoc (paired_mono (fun _ _ h => h.mono (same_toT s9)) hp5) ⟨T, rfl, (same_new (o := .tup (acc ++ [.ref T])) nt) _ _ hT8⟩
      · rcases List.mem_append.mp ht with ht | ht
        · have := ht5 t ht
          omega
        · rw [List.mem_singleton.mp ht]
          simp
    obtain ⟨acc, hA3, hal⟩ := nest_a hN3
    -- found == []
    obtain ⟨ls, hls⟩ := nest_paired (H := H3) (acc := acc) fun v hv => by
      obtain ⟨a2, ms, e, _, _, _, h4, _⟩ := hA3.2 v hv
      exact ⟨a2, ms, e, h4⟩
    have hlsl := paired_len hls
    have eqE : ∀ zs : List (List Int), PyData.eqv (.list (zs.map fun m => .list (m.map .int))) (.list []) = zs.isEmpty := fun zs => by
      cases zs <;> simp [PyData.eqv, PyData.eqvAll]
    refine ⟨.ref D, rfl, Nat.zero_le _, fun e1 ne1 => ?_⟩
    have s4 : Same H3 (upd H3 e1 (.lst [])) := same_new ne1
    refine ⟨.list (ls.map fun m => .list (m.map .int)), .list [], dp_lst (fun _ _ h => dp_lstv h) (SqL.of (s4 _ _ hA3.1)) (paired_mono (fun _ _ ⟨b, e, h⟩ => ⟨b, e, s4 _ _ h⟩) hls), .lst (SqL.of upd_same) .nil, sh_nest ls, shNil, _, rfl, ite2 (fun hc1 => ?_) (fun hc1 => ?_)⟩
    · exact early _ s4
    rw [eqE] at hc1
    -- [] in found
    refine ⟨Nat.zero_le _, fun e2 ne2 => ?_⟩
    have s5 := s4.trans (same_new (o := .lst []) ne2)
    refine ⟨.ref D, rfl, .list [], ls.map fun m => .list (m.map .int), .lst (SqL.of upd_same) .nil, dp_lst (fun _ _ h => dp_lstv h) (SqL.of (s5 _ _ hA3.1)) (paired_mono (fun _ _ ⟨b, e, h⟩ => ⟨b, e, s5 _ _ h⟩) hls), shNil, sh_nest ls, _, rfl, ite2 (fun hc2 => ?_) (fun hc2 => ?_)⟩
    · exact early _ s5
    have hfull : ∀ m ∈ ls, m ≠ [] := fun m hm e => by
      apply hc2
      refine List.any_eq_true.mpr ⟨.list (m.map .int), List.mem_map.mpr ⟨m, hm, rfl⟩, ?_⟩
      rw [e]
      simp [PyData.eqv, PyData.eqvAll]
    refine ⟨.int wv, rfl, rfl, _, rfl, ite2 (fun hc3 => ?_) (fun hc3 => ?_)⟩
    · exact early _ s5
    have hA5 : NestA H (upd (upd H3 e1 (.lst [])) e2 (.lst [])) r D 1 L acc := by
      refine ⟨s5 _ _ hA3.1, fun v hv => ?_⟩
      obtain ⟨a2, ms, e, h1, h2, h3, h4, h5, _⟩ := hA3.2 v hv
      refine ⟨a2, ms, e, h1, h2, h3, s5 _ _ h4, h5, ?_⟩
      rw [e] at hv
      exact nest_full hls hfull hv h4
    have hacc : 1 ≤ acc.length := by
      cases ls with
      | nil => exact absurd rfl hc1
      | cons l0 ls => rw [hlsl]; simp
    have R5 := R3.keep s5
    have sx5 := sx3.trans (same_sx s5)
    generalize (upd (upd H3 e1 (.lst [])) e2 (.lst [])) = H5 at hA5 R5 sx5
    -- k = taken(row, len(found))
    refine ⟨.ref r, rfl, .ref D, rfl, D, acc, rfl, .inl (SqL.of hA5.1), r, a, ns, _, rfl, R5, by omega, by omega, fun kv H6 k0 k1 R6 s6 => ?_⟩
    have hA6 := hA5.keep nDr s6
    obtain ⟨b, ms, hat, hmem, hbD, hbr, hb0, hb, hmL, hm1⟩ := hA6.at k0 k1
    -- j = taken(row, len(found[k]))
    refine ⟨.ref r, rfl, .ref D, rfl, .int kv, rfl, D, acc, kv, .ref b, rfl, rfl, SqL.of hA6.1, hat, b, _, rfl, .inl (SqL.of hb), r, a, ns, _, rfl, R6, by rw [List.length_map]; omega, by rw [List.length_map]; omega, fun jv H7 j0 j1 R7 s7 => ?_⟩
    rw [List.length_map] at j1
    have hA7 := hA6.keep nDr s7
    have hb7 := s7 _ _ hbr hb
    have sx7 := (sx5.trans s6).trans s7
    -- the end, from any spoilt list
    have fin : ∀ H8, RowAt K H8 r a ns → Sx r H H8 → Nest H H8 r D (n + 1) (2 * L + 1) → tCB (rTupOf K) (tCons (tTups K) tNil) [some (.ref r), some (.int g), some (.ref p), some (.ref D), some (.int wv), some (.int kv), some (.int jv), none] H8 Q := fun H8 R8 sx8 hN8 => by
      dsimp only [tCB, tCons, tNil]
      refine tups_ok hN8 (by omega) fun u H9 acc ls s9 nu hu hp9 hl9 ht9 => ?_
      refine ⟨u, _, rfl, .inl ⟨SqL.of hu, fun t nt => ?_⟩⟩
      have s10 := s9.trans (same_new (o := .tup acc) nt)
      exact q _ _ ls (R8.keep s10) (sx8.trans (same_sx s10)) ⟨t, _, rfl, upd_same, paired_mono (fun _ _ h => h.mono (same_toT (same_new nt))) hp9⟩ hl9 ht9
    have hN7 : Nest H H7 r D n L := hA7.nest.wide hal (Nat.le_refl _)
    refine ⟨.int wv, rfl, rfl, _, rfl, ite2 (fun _ => ?_) (fun _ => ?_)⟩
    · -- found[k][j] = ..
      refine ⟨0, 1, rfl, rfl, .int g, rfl, .int g, rfl, g, 1, rfl, rfl, by show 4 ≤ sizeLine; decide, fun l nl => ?_⟩
      have s8 : Same H7 (upd H7 l (.lst [.int (0 - 1), .int g, .int (g - 1), .int 0])) := same_new nl
      refine ⟨.ref r, rfl, r, a, ns, 4, rfl, R7.keep s8, by decide, by decide, fun u H9 u0 u1 R9 s9 => ?_⟩
      obtain ⟨xr7, hxr7⟩ := R7.lst
      have nlr : l ≠ r := (ne_of_none hxr7 nl).symm
      obtain ⟨wn, hw⟩ : ∃ wn : Int, atI [V.int (0 - 1), V.int g, V.int (g - 1), V.int 0] u = some (.int wn) := at_int (ms := [0 - 1, g, g - 1, 0]) u0 u1
      have sx9 : Sx r H7 H9 := (same_sx s8).trans s9
      have hb9 := sx9 _ _ hbr hb7
      refine ⟨l, _, u, .int wn, rfl, rfl, SqL.of (s9 _ _ nlr upd_same), hw, .ref D, rfl, .int kv, rfl, D, acc, kv, .ref b, rfl, rfl, SqL.of (sx9 _ _ nDr hA7.1), hat, .int jv, rfl, b, _, jv, jv.toNat, rfl, rfl, hb9, ixN_of j0 (by rw [List.length_map]; exact j1), ?_⟩
      have em : (ms.map V.int).set jv.toNat (.int wn) = (ms.set jv.toNat wn).map V.int := by rw [List.map_set]
      rw [em]
      exact fin _ (row_put hR hb0 R9) (sx_put (sx7.trans sx9) hb0) (((hN7.keep nDr sx9).inner (L' := 2 * L + 1) (by omega) hbD hbr hb0 (by rw [List.length_set]; omega)).wide (by omega) (Nat.le_refl _))
    refine ⟨.int wv, rfl, rfl, _, rfl, ite2 (fun _ => ?_) (fun _ => ?_)⟩
    · -- found[k].append(found[..][0])
      refine ⟨.ref D, rfl, .int kv, rfl, D, acc, kv, .ref b, rfl, rfl, SqL.of hA7.1, hat, .inl ⟨rfl, _, SqL.of hb7⟩, .ref D, rfl, .ref r, rfl, .ref D, rfl, D, acc, rfl, .inl (SqL.of hA7.1), r, a, ns, _, rfl, R7, by omega, by omega, fun u H9 u0 u1 R9 s9 => ?_⟩
      have hA9 := hA7.keep nDr s9
      obtain ⟨b2, ms2, hat2, _, _, _, _, hb2, _, hm2⟩ := hA9.at u0 u1
      obtain ⟨wn, hw⟩ := at_int (ms := ms2) (v := 0) (by decide) (by omega)
      have hb9 := s9 _ _ hbr hb7
      refine ⟨D, acc, u, .ref b2, rfl, rfl, SqL.of hA9.1, hat2, b2, _, 0, .int wn, rfl, rfl, SqL.of hb2, hw, b, _, _, rfl, rfl, hb9, by rw [List.length_map]; omega, ?_⟩
      have em : ms.map V.int ++ [.int wn] = (ms ++ [wn]).map V.int := by rw [List.map_append]; rfl
      rw [em]
      exact fin _ (row_put hR hb0 R9) (sx_put (sx7.trans s9) hb0) (((hN7.keep nDr s9).inner (L' := 2 * L + 1) (by omega) hbD hbr hb0 (by rw [List.length_append, List.length_singleton]; omega)).wide (by omega) (Nat.le_refl _))
    refine ⟨.int wv, rfl, rfl, _, rfl, ite2 (fun _ => ?_) (fun _ => ?_)⟩
    · -- found.append(list(found[k]))
      refine ⟨.ref D, rfl, .inl ⟨rfl, _, SqL.of hA7.1⟩, .ref D, rfl, .int kv, rfl, D, acc, kv, .ref b, rfl, rfl, SqL.of hA7.1, hat, b, _, rfl, .inl (SqL.of hb7), fun l nl => ?_⟩
      have s8 : Same H7 (upd H7 l (.lst (ms.map V.int))) := same_new nl
      obtain ⟨xr7, hxr7⟩ := R7.lst
      have nlr : l ≠ r := (ne_of_none hxr7 nl).symm
      have nlD : l ≠ D := (ne_of_none hA7.1 nl).symm
      have hl0 : H l = none := by
        cases e : H l with
        | none => rfl
        | some o =>
          rw [sx7 _ _ nlr e] at nl
          cases nl
      refine ⟨D, acc, _, rfl, rfl, s8 _ _ hA7.1, by omega, ?_⟩
      exact fin _ (row_put hR nD (R7.keep s8)) (sx_put (sx7.trans (same_sx s8)) nD) ((hN7.keep nDr (same_sx s8)).outer (n' := n + 1) (L' := 2 * L + 1) (by omega) (by rw [List.length_append, List.length_singleton]; omega) fun v hv => by
        rcases List.mem_append.mp hv with hv | hv
        · exact .inl ⟨acc, s8 _ _ hA7.1, hv⟩
        · rw [List.mem_singleton.mp hv]
          exact .inr ⟨l, ms, rfl, nlD, nlr, hl0, upd_same, by omega⟩)
    refine ⟨.int wv, rfl, rfl, _, rfl, ite2 (fun _ => ?_) (fun _ => ?_)⟩
    · -- found[k].reverse()
      refine ⟨.ref D, rfl, .int kv, rfl, D, acc, kv, .ref b, rfl, rfl, SqL.of hA7.1, hat, .inl ⟨rfl, _, SqL.of hb7⟩, b, _, rfl, rfl, hb7, ?_⟩
      have em : (ms.map V.int).reverse = ms.reverse.map V.int := by rw [List.map_reverse]
      rw [em]
      exact fin _ (row_put hR hb0 R7) (sx_put sx7 hb0) ((hN7.inner (L' := 2 * L + 1) (by omega) hbD hbr hb0 (by rw [List.length_reverse]; omega)).wide (by omega) (Nat.le_refl _))
    refine ⟨.int wv, rfl, rfl, _, rfl, ite2 (fun _ => ?_) (fun _ => ?_)⟩
    · -- found.reverse()
      refine ⟨.ref D, rfl, .inl ⟨rfl, _, SqL.of hA7.1⟩, D, acc, rfl, rfl, hA7.1, ?_⟩
      exact fin _ (row_put hR nD R7) (sx_put sx7 nD) (hN7.outer (n' := n + 1) (L' := 2 * L + 1) (by omega) (by rw [List.length_reverse]; omega) fun v hv => .inl ⟨acc, hA7.1, List.mem_reverse.mp hv⟩)
    refine ⟨.int wv, rfl, rfl, _, rfl, ite2 (fun _ => ?_) (fun _ => ?_)⟩
    · -- found[k] = found[k] + found[..]
      refine ⟨.ref D, rfl, .int kv, rfl, D, acc, kv, .ref b, rfl, rfl, SqL.of hA7.1, hat, .ref D, rfl, .ref r, rfl, .ref D, rfl, D, acc, rfl, .inl (SqL.of hA7.1), r, a, ns, _, rfl, R7, by omega, by omega, fun u H9 u0 u1 R9 s9 => ?_⟩
      have hA9 := hA7.keep nDr s9
      obtain ⟨b2, ms2, hat2, _, _, _, _, hb2, hm2L, hm2⟩ := hA9.at u0 u1
      have hb9 := s9 _ _ hbr hb7
      refine ⟨D, acc, u, .ref b2, rfl, rfl, SqL.of hA9.1, hat2, b, b2, _, _, rfl, rfl, hb9, hb2, by rw [List.length_map, List.length_map]; omega, fun l nl => ?_⟩
      have em : ms.map V.int ++ ms2.map V.int = (ms ++ ms2).map V.int := by rw [List.map_append]
      rw [em]
      have s10 : Same H9 (upd H9 l (.lst ((ms ++ ms2).map V.int))) := same_new nl
      obtain ⟨xr9, hxr9⟩ := R9.lst
      have nlr : l ≠ r := (ne_of_none hxr9 nl).symm
      have nlD : l ≠ D := (ne_of_none hA9.1 nl).symm
      have sx9 := sx7.trans s9
      have hl0 : H l = none := by
        cases e : H l with
        | none => rfl
        | some o =>
          rw [sx9 _ _ nlr e] at nl
          cases nl
      refine ⟨.ref D, rfl, .int kv, rfl, D, acc, kv, kv.toNat, rfl, rfl, s10 _ _ hA9.1, ixN_of k0 k1, ?_⟩
      exact fin _ (row_put hR nD (R9.keep s10)) (sx_put (sx9.trans (same_sx s10)) nD) (((hN7.keep nDr s9).keep nDr (same_sx s10)).outer (n' := n + 1) (L' := 2 * L + 1) (by omega) (by rw [List.length_set]; omega) fun v hv => by
        rcases List.mem_or_eq_of_mem_set hv with hv | rfl
        · exact .inl ⟨acc, s10 _ _ hA9.1, hv⟩
        · exact .inr ⟨l, ms ++ ms2, rfl, nlD, nlr, hl0, upd_same, by rw [List.length_append]; omega⟩)
    · -- found[k].pop(j)
      refine ⟨.ref D, rfl, .int kv, rfl, D, acc, kv, .ref b, rfl, rfl, SqL.of hA7.1, hat, .inl ⟨rfl, _, SqL.of hb7⟩, .int jv, rfl, b, _, jv, jv.toNat, _, rfl, rfl, hb7, by omega, by omega, seqIx j0 j1, int_getElem? (List.getElem?_eq_getElem (show jv.toNat < ms.length by omega)), ?_⟩
      rw [erase_map]
      have hel := List.length_eraseIdx_le ms jv.toNat
      exact fin _ (row_put hR hb0 R7) (sx_put sx7 hb0) ((hN7.inner (L' := 2 * L + 1) (by omega) hbD hbr hb0 (by omega)).wide (by omega) (Nat.le_refl _))
end Nf

set_option Elab.async false
set_option linter.all false
set_option maxRecDepth 100000
set_option maxHeartbeats 4000000
namespace Nf
open PySem PySem.Spec PyProof.Rows L2
variable {P : Program} {w : World} {K : PySem.W.Frag} {mg : Str → Option Value} {base : Heap}
/-! ### the law's verdict -/
theorem scDue : FnScope ["_law_guests", "_law_size", "_law_plan_here", "_law_known_here", "_law_k", "_law_pair", "_law_again"] ["_law_guests", "_law_size", "_law_plan_here"] (defScope lDue) := ⟨rfl, rfl, rfl, by decide +kernel, rfl, by decide +kernel, by decide +kernel⟩
def spDue (K : PySem.W.Frag) : Sp := fun vs H Q _ => ∃ (g s : Int) (l : Addr) (rs : List Rnd), vs = [.int g, .int s, .ref l] ∧ IsParty g s ∧ PlanV K H l rs ∧ rs.length ≤ 1000 ∧ (∀ r ∈ rs, r.length ≤ 400 ∧ ∀ t ∈ r, t.length ≤ 100000) ∧
  ∀ x H' v, Same H H' → IsV g s rs k0 0 v → VerdV H' x v → Q x H'
/-- the pairs of a round that are known -/
def kfil (kn : Known) (ps : List (Int × Int)) : List (Int × Int) := ps.filter fun p => (kn p.1 p.2).isSome
theorem kfil_snoc {kn : Known} {ps : List (Int × Int)} {p : Int × Int} : kfil kn (ps ++ [p]) = if (kn p.1 p.2).isSome = true then kfil kn ps ++ [p] else kfil kn ps := by
  unfold kfil
  rw [List.filter_append]
  by_cases h : (kn p.1 p.2).isSome = true
  · rw [if_pos h]
    simp [h]
  · rw [if_neg h]
    simp [h]
theorem sortP_head {ps tl : List (Int × Int)} {a b : Int} (h : sortP ps = (a, b) :: tl) : ∀ c d, (c, d) ∈ ps → a < c ∨ (a = c ∧ b ≤ d) := fun c d hm => by
  have hm := (sortP_perm ps).mem_iff.mpr hm
  have hu := sortP_up ps
  rw [h] at hm hu
  rcases List.mem_cons.mp hm with e | e
  · injection e with e1 e2
    omega
  · exact (List.pairwise_cons.mp hu).1 (c, d) e
theorem kfil_head {kn : Known} {r : Rnd} {tl : List (Int × Int)} {a b : Int} (h : sortP (kfil kn (pairsR r)) = (a, b) :: tl) : (a, b) ∈ pairsR r ∧ (∃ j, kn a b = some j) ∧ ∀ c d, (c, d) ∈ pairsR r → kn c d ≠ none → a < c ∨ (a = c ∧ b ≤ d) := by
  have hm : (a, b) ∈ kfil kn (pairsR r) := (sortP_perm _).mem_iff.mp (by rw [h]; exact List.mem_cons_self)
  obtain ⟨h1, h2⟩ := List.mem_filter.mp hm
  refine ⟨h1, Option.isSome_iff_exists.mp h2, fun c d hc hk => sortP_head h c d (List.mem_filter.mpr ⟨hc, ?_⟩)⟩
  cases e : kn c d with
  | none => exact absurd e hk
  | some j => simp [e]
theorem kfil_nil {kn : Known} {r : Rnd} (h : sortP (kfil kn (pairsR r)) = []) : ∀ c d, (c, d) ∈ pairsR r → kn c d = none := fun c d hc => by
  cases e : kn c d with
  | none => rfl
  | some j =>
    have hm : (c, d) ∈ sortP (kfil kn (pairsR r)) := (sortP_perm _).mem_iff.mpr (List.mem_filter.mpr ⟨hc, by simp [e]⟩)
    rw [h] at hm
    cases hm
theorem ok_due {f fI fP : Addr} {fd fdI fdP : FuncData} (F : Fun K "_law_due" "_law_due" lDue f fd) (B : Blt mg) (FI : Fun K "_law_is_round" "_law_is_round" lIsRound fI fdI) (bI : Binds K fdI ["_law_guests", "_law_size", "_law_tables"] []) (gI : mg "_law_is_round" = some (.ref fI))
    (FP : Fun K "_law_pairs" "_law_pairs" lPairs fP fdP) (bP : Binds K fdP ["_law_tables"] []) (gP : mg "_law_pairs" = some (.ref fP)) : FnOk P w K mg base CX0 2 f fd ["_law_guests", "_law_size", "_law_plan_here"] (spDue K) := by
  have GI : FnOk P w K mg base CX0 1 fI fdI ["_law_guests", "_law_size", "_law_tables"] spLIsRound := ok_lisRound FI B
  have GP : FnOk P w K mg base CX0 1 fP fdP ["_law_tables"] spLPairs := ok_lpairs FP B
  refine F.ok scDue (fun vs H Q E h => ?_) (fun cdv A outer s H vs Q E hr h => ?_)
  · obtain ⟨g, s, l, rs, rfl, _⟩ := h
    rfl
  · obtain ⟨g, z, l, rs, rfl, hI, ⟨xs, hl, hxs⟩, hn, hS, q⟩ := h
    have hu := hu_of hr
    refine ⟨_, pss_cons (ps_set (i := 3) scDue.nd rfl (.inr rfl) pe_dnewT)
      (pss_cons (ps_for PassesOwn.never rfl (pi_range1 (by rfl) B.range (pa_cons (pe_callB call_len_seq (by rfl) B.len PySem.boot_len (pa_cons (pv 2) pa_nil)) pa_nil)) (pg_name (i := 4) scDue.nd rfl (.inl rfl))
        (pss_cons (ps_if (pt_not (pt_val (pe_call GI hr (by rfl) gI FI.kp bI .nil pass0 (pa_cons (pv 0) (pa_cons (pv 1) (pa_cons (pe_ix ix_list (pv 2) (pv 4) (fun _ _ => rfl)) pa_nil)))))) (pss_one (ps_ret (pe_tup (pa_cons pe_str (pa_cons (pv 4) pa_nil))))) pss_nil)
        (pss_cons (ps_set (i := 6) scDue.nd rfl (.inl rfl) (pe_callB (cr_sortD dP hr.units) (by rfl) B.sorted (by decide +kernel) (pa_cons
            (pe_lc (own := [("_law_pair", 5)]) (g := gName 5) (tt := tB (tDIn (tVar 5) (tVar 3))) (te := tVar 5) (by rfl) scDue.nd (pi_list (pe_call GP hr (by rfl) gP FP.kp bP .nil pass0 (pa_cons (pe_ix ix_list (pv 2) (pv 4) (fun _ _ => rfl)) pa_nil)))
              (blkOk_by (N := ["_law_guests", "_law_size", "_law_plan_here", "_law_known_here", "_law_k", "_law_pair", "_law_again"]) (sc := defScope lDue) (by decide +kernel)) (fun _ _ _ _ _ => pg_name (i := 5) (x := "_law_pair") scDue.nd rfl (.inl rfl) (.inr rfl))
              (fun _ _ _ _ _ => pts_one (pt_cmp (pc_din hu (pv 5) (pv 3)))) (fun _ _ _ _ _ => pv 5)) pa_nil)))
        (pss_cons (ps_if (pt_cmpR (op_neD hr.units) (pv 6) (pe_lst pa_nil) (nomark _))
          (pss_one (ps_ret (pe_tup (pa_cons pe_str (pa_cons (pe_ix ix_tup (pe_ix ix_list (pv 6) pe_int (fun _ _ => rfl)) pe_int (fun _ _ => rfl)) (pa_cons (pe_ix ix_tup (pe_ix ix_list (pv 6) pe_int (fun _ _ => rfl)) pe_int (fun _ _ => rfl)) (pa_cons (pe_dget hu (pv 3) (pe_ix ix_list (pv 6) pe_int (fun _ _ => rfl)) (fun _ _ => rfl)) (pa_cons (pv 4) pa_nil)))))))) pss_nil)
        (pss_one (ps_for PassesOwn.never rfl (pi_list (pe_call GP hr (by rfl) gP FP.kp bP .nil pass0 (pa_cons (pe_ix ix_list (pv 2) (pv 4) (fun _ _ => rfl)) pa_nil))) (pg_name (i := 5) scDue.nd rfl (.inl rfl))
          (pss_one (ps_dput hu (pv 3) (pv 5) (pv 4) rfl))))))))
      (pss_one (ps_ret pe_non))), ?_⟩
    have hxl := paired_len hxs
    have big : (5000000 : Nat) < sizeLine := by decide
    intro d nd
    have s0 : Same H (upd H d (.dT [])) := same_new nd
    refine ⟨.ref l, rfl, l, xs, rfl, .inl (s0.seq hl), _, rfl, by omega, by omega, ?_⟩
    refine for_it walk_range (fun i σ H2 => ∃ (kn : Known) (y4 y5 y6 : Option V), σ = [some (.int g), some (.int z), some (.ref l), some (.ref d), y4, y5, y6] ∧ Same H H2 ∧ KnownD H2 d kn (i * 4096) ∧ ∀ v, IsV g z (rs.drop i) kn i v → IsV g z rs k0 0 v)
      ⟨k0, none, none, none, rfl, s0, knownD_new upd_same, fun v h => h⟩ (fun _ _ _ _ _ => trivial) (fun i x σ H2 H3 hi hI2 y => ?_) (fun σ H2 hI2 => ?_)
    · obtain ⟨kn, y4, y5, y6, rfl, sm, hK, hV⟩ := hI2
      obtain ⟨rfl, hxv⟩ := y
      have ei : (0 : Int) + (i : Nat) = ((i : Nat) : Int) := by omega
      have hxv : x = V.int ((i : Nat) : Int) := hxv.trans (by show V.int (0 + (i : Nat)) = _; rw [ei])
      subst hxv
      have hix : i < rs.length := by omega
      have hr0 : rs[i]? = some rs[i] := List.getElem?_eq_getElem hix
      generalize rs[i] = r at hr0
      obtain ⟨x, hx0, hrx⟩ := paired_get hxs hr0
      have hmem : r ∈ rs := List.mem_of_getElem? hr0
      obtain ⟨h400, htl⟩ := hS r hmem
      -- is_round
      refine ⟨.int g, rfl, .int z, rfl, .ref l, rfl, .int ((i : Nat) : Int), rfl, l, xs, _, x, rfl, rfl, sm.seq hl, atI_nat hx0, g, z, x, r, rfl, hI, hrx.mono (same_toT sm), h400, htl, fun b H4 s4 hb => ?_⟩
      have sm4 := sm.trans s4
      refine ⟨_, rfl, ite2 (fun hc => ?_) (fun hc => ?_)⟩
      · have nb : ¬ IsRound g z r := fun h => by
          rw [hb.mpr h] at hc
          cases hc
        refine ⟨.int ((i : Nat) : Int), rfl, two_le, fun u nu => ?_⟩
        refine q _ _ (.rnd i) (sm4.trans (same_new nu)) (hV _ ?_) ⟨u, rfl, upd_same⟩
        rw [dropCons hr0]
        exact .bad nb
      have hR : IsRound g z r := hb.mp (by simpa using hc)
      have hpl := hR.pairs_le (by have := hI.s2; omega) hI.g64
      -- again
      refine ⟨.ref l, rfl, .int ((i : Nat) : Int), rfl, l, xs, _, x, rfl, rfl, sm4.seq hl, atI_nat hx0, x, r, rfl, hrx.mono (same_toT sm4), by omega, htl, fun H5 u ys s5 nu hu5 hys => ?_⟩
      have sm5 := sm4.trans s5
      have hK5 : KnownD H5 d kn (i * 4096) := knownD_same (knownD_same hK s4) s5
      have hyl := paired_len hys
      refine ⟨u, rfl, ⟨_, SqL.of hu5⟩, fun D nD => ?_⟩
      have s6 : Same H5 (upd H5 D (.lst [])) := same_new nD
      refine lc_it (walk_list (xs := ys)) (fun m H6 => Same H5 H6 ∧ ∃ acc, H6 D = some (.lst acc) ∧ acc.length ≤ m ∧ Paired (PairV H6) acc (kfil kn ((pairsR r).take m))) ⟨s6, [], upd_same, Nat.le_refl _, .nil⟩ (fun m H6 _ p => SqL.of (p.1 _ _ hu5)) (fun m x' H6 H7 hm hM y => ?_) (fun H6 hM => ?_)
      · obtain ⟨rfl, hz⟩ := y
        obtain ⟨s7, acc, hD, hle, hps⟩ := hM
        obtain ⟨⟨a, b⟩, hab, T, rfl, hT⟩ := paired_getL hys hz
        have hT7 := s7 _ _ hT
        obtain ⟨kvs, hd, hkl, hkv⟩ := knownD_same hK5 s7
        refine ⟨wipe_put (by decide), ?_⟩
        refine ⟨.ref T, rfl, .ref d, rfl, d, _, rfl, DGet.t (k := [Sum.inl a, Sum.inl b]) hd hT7, _, rfl, ite2 (fun hc => ?_) (fun hc => ?_)⟩
        · rw [hkv, Option.isSome_map] at hc
          refine ⟨.ref T, rfl, acc, hD, by omega, same_put s7 nD, acc ++ [.ref T], upd_same, by simp; omega, ?_⟩
          have keepT : ∀ {z : V} {pr : Int × Int}, PairV H7 z pr → PairV (upd H7 D (.lst (acc ++ [.ref T]))) z pr := fun {z pr} h => by
            obtain ⟨u, rfl, hu⟩ := h
            exact ⟨u, rfl, by rw [upd_ne (ne_of hu hD (by intro z; cases z))]; exact hu⟩
          rw [takeSucc hab, kfil_snoc, if_pos hc]
          exact paired_snoc (paired_mono (fun z pr h => keepT h) hps) (keepT ⟨T, rfl, hT7⟩)
        · rw [hkv, Option.isSome_map] at hc
          refine ⟨s7, acc, hD, by omega, ?_⟩
          rw [takeSucc hab, kfil_snoc, if_neg hc]
          exact hps
      · obtain ⟨s7, acc, hD, hle, hps⟩ := hM
        rw [hyl, List.take_of_length_le (Nat.le_refl _)] at hps
        dsimp only [tNil]
        refine sort_pairs hD hps fun ys2 w0 nw hy2 => ?_
        have s8 : Same H6 (upd H6 w0 (.lst ys2)) := same_new nw
        have sm8 := (sm5.trans s7).trans s8
        have hK8 := knownD_same (knownD_same hK5 s7) s8
        have hw8 : (upd H6 w0 (.lst ys2)) w0 = some (.lst ys2) := upd_same
        have hy2 := paired_mono (fun _ _ h => h.mono (same_toT s8)) hy2
        generalize (upd H6 w0 (.lst ys2)) = H8 at s8 sm8 hK8 hw8 hy2 ⊢
        -- again != []
        refine ⟨.ref w0, rfl, Nat.zero_le _, fun e ne => ?_⟩
        have s9 : Same H8 (upd H8 e (.lst [])) := same_new ne
        have hy9 := paired_mono (fun _ _ h => h.mono (same_toT s9)) hy2
        have hK9 := knownD_same hK8 s9
        have hw9 := s9 _ _ hw8
        refine ⟨.list ((sortP (kfil kn (pairsR r))).map dP), .list [], dp_lst (fun _ _ h => dp_pair h) (SqL.of hw9) hy9, .lst (SqL.of upd_same) .nil, shPairs _, shNil, _, rfl, ?_⟩
        have sm9 := sm8.trans s9
        generalize (upd H8 e (.lst [])) = H9 at s9 sm9 hK9 hw9 hy9 ⊢
        rw [eqv_nilP]
        cases hso : sortP (kfil kn (pairsR r)) with
        | cons pr tl =>
          obtain ⟨a, b⟩ := pr
          rw [hso] at hy9
          obtain ⟨x0, hx0', T, rfl, hT⟩ := paired_get (i := 0) hy9 rfl
          obtain ⟨h1, ⟨j, hj⟩, h3⟩ := kfil_head hso
          refine iteT ?_
          obtain ⟨kvs, hd, hkl, hkv⟩ := hK9
          have hat : atI ys2 (0 : Int) = some (.ref T) := atI_nat hx0'
          refine ⟨.ref w0, rfl, w0, ys2, 0, .ref T, rfl, rfl, SqL.of hw9, hat, T, _, 0, .int a, rfl, rfl, SqT.of hT, rfl, .ref w0, rfl, w0, ys2, 0, .ref T, rfl, rfl, SqL.of hw9, hat, T, _, 1, .int b, rfl, rfl, SqT.of hT, rfl, .ref d, rfl, .ref w0, rfl, w0, ys2, 0, .ref T, rfl, rfl, SqL.of hw9, hat, d, .int ((j : Nat) : Int), rfl, ?_, .int ((i : Nat) : Int), rfl, five_le, fun T9 nT9 => ?_⟩
          · have := DGet.t (k := [Sum.inl a, Sum.inl b]) hd hT
            rw [hkv, hj] at this
            exact this
          · refine q _ _ (.twice a b j i) (sm9.trans (same_new nT9)) (hV _ ?_) ⟨T9, rfl, upd_same⟩
            rw [dropCons hr0]
            exact .twice hR h1 hj h3
        | nil =>
          refine iteF ?_
          have hnone := kfil_nil hso
          -- for pair in pairs(plan[k])
          refine ⟨.ref l, rfl, .int ((i : Nat) : Int), rfl, l, xs, _, x, rfl, rfl, sm9.seq hl, atI_nat hx0, x, r, rfl, hrx.mono (same_toT sm9), by omega, htl, fun H10 u2 ys3 s10 nu2 hu10 hys3 => ?_⟩
          have hyl3 := paired_len hys3
          have sm10 := sm9.trans s10
          refine ⟨u2, rfl, ⟨_, SqL.of hu10⟩, ?_⟩
          refine for_it (walk_list (xs := ys3)) (fun m σ H7 => ∃ (y5 : Option V), σ = [some (.int g), some (.int z), some (.ref l), some (.ref d), some (.int ((i : Nat) : Int)), y5, some (.ref w0)] ∧ Same H H7 ∧ H7 u2 = some (.lst ys3) ∧ Paired (PairV H7) ys3 (pairsR r) ∧ KnownD H7 d (kaddL kn ((pairsR r).take m) i) (i * 4096 + m))
            ⟨_, rfl, sm10, hu10, hys3, by rw [List.take_zero, kaddL_nil]; exact knownD_same hK9 s10⟩ (fun m σ H7 _ h => ?_) (fun m x' σ H7 H8' hm hM y => ?_) (fun σ H7 hM => ?_)
          · obtain ⟨_, _, _, h, _⟩ := h
            exact SqL.of h
          · obtain ⟨y5', rfl, s7', hu7, hy7, hK7⟩ := hM
            obtain ⟨rfl, hx'⟩ := y
            obtain ⟨⟨a, b⟩, hab, T7, rfl, hT7⟩ := paired_getL hy7 hx'
            obtain ⟨kvs', hput, hK8'⟩ := knownD_put hK7 hT7 (by omega)
            obtain ⟨kv0, hd0, _⟩ := id hK7
            have nud : u2 ≠ d := ne_of hu7 hd0 (by intro e; cases e)
            refine ⟨.int ((i : Nat) : Int), rfl, .ref d, rfl, .ref T7, rfl, d, _, rfl, hput, ?_⟩
            refine ⟨_, rfl, same_put s7' nd, by rw [upd_ne nud]; exact hu7, paired_mono (fun v pr h => ?_) hy7, ?_⟩
            · obtain ⟨w1, rfl, hw⟩ := h
              exact ⟨w1, rfl, by rw [upd_ne (ne_of hw hd0 (by intro e; cases e))]; exact hw⟩
            · rw [takeSucc hab]
              exact hK8'
          · obtain ⟨y5', rfl, s7', hu7, hy7, hK7⟩ := hM
            rw [hyl3, List.take_of_length_le (Nat.le_refl _), kaddL_perm (List.Perm.refl _)] at hK7
            refine ⟨kadd kn r i, _, _, _, rfl, s7', ?_, fun v hv => hV v ?_⟩
            · obtain ⟨kvs, e, h1, h2⟩ := hK7
              exact ⟨kvs, e, by omega, h2⟩
            · rw [dropCons hr0]
              exact .next hR hnone hv
    · obtain ⟨kn, _, _, _, rfl, sm, hK, hV⟩ := hI2
      refine q .non H2 .good sm (hV _ ?_) rfl
      rw [List.drop_of_length_le (by omega)]
      exact .nil
end Nf

set_option Elab.async false
set_option linter.all false
set_option maxRecDepth 100000
set_option maxHeartbeats 4000000
namespace Nf
open PySem PySem.Spec PyProof.Rows L2
variable {P : Program} {w : World} {K : PySem.W.Frag} {mg : Str → Option Value} {base : Heap}
/-! ### alike, of what a verdict is -/
theorem scAlike : FnScope ["_law_found", "_law_due_here", "_law_k"] ["_law_found", "_law_due_here"] (defScope lAlike) := ⟨rfl, rfl, rfl, by decide +kernel, rfl, by decide +kernel, by decide +kernel⟩
theorem rd_isi {K : PySem.W.Frag} {H : Hp} {Q : VK} {x : V} {a b : String} {r : Bool} (ty : TyX K H x (.type a)) (h : kitB a b = some r) (q : Q (.bl r) H) : rIsi K [x, .ty b] H Q :=
  ⟨x, .ty b, .type a, .type b, r, rfl, .ty b, ty, kit_ty h, q⟩
theorem kNT : kitB "NoneType" "tuple" = some false := by decide +kernel
theorem kNL : kitB "NoneType" "list" = some false := by decide +kernel
theorem kIT : kitB "int" "tuple" = some false := by decide +kernel
theorem kIL : kitB "int" "list" = some false := by decide +kernel
theorem kIB : kitB "int" "bool" = some false := by decide +kernel
theorem kIS : kitB "int" "str" = some false := by decide +kernel
theorem kII : kitB "int" "int" = some true := by decide +kernel
theorem kST : kitB "str" "tuple" = some false := by decide +kernel
theorem kSL : kitB "str" "list" = some false := by decide +kernel
theorem kSB : kitB "str" "bool" = some false := by decide +kernel
theorem kSS : kitB "str" "str" = some true := by decide +kernel
theorem kTT : kitB "tuple" "tuple" = some true := by decide +kernel
theorem kTL : kitB "tuple" "list" = some false := by decide +kernel
def Flat : V → Prop := fun x => x = .non ∨ (∃ i, x = .int i) ∨ ∃ s, x = .str s
def spAlike1 : Sp := fun vs H Q _ => ∃ x : V, vs = [x, x] ∧ Flat x ∧ Q (.bl true) H
theorem ok_alike1 {f : Addr} {fd : FuncData} (F : Fun K "_law_alike" "_law_alike" lAlike f fd) (B : Blt mg) : FnOk P w K mg base CX0 1 f fd ["_law_found", "_law_due_here"] spAlike1 := by
  refine F.ok scAlike (fun vs H Q E h => ?_) (fun cdv A outer s H vs Q E hr h => ?_)
  · obtain ⟨x, rfl, _⟩ := h
    rfl
  · obtain ⟨x, rfl, hf, q⟩ := h
    refine ⟨_, pss_cons (ps_if (PW.pt (pw_or (pt_val (pe_callB call_isi (by rfl) B.isinstance (by decide +kernel) (pa_cons (pv 1) (pa_cons (pe_bltn (v := .ty "tuple") (by rfl) B.tuple (by decide +kernel) rfl) pa_nil))))
          (pw_or1 (pt_val (pe_callB call_isi (by rfl) B.isinstance (by decide +kernel) (pa_cons (pv 1) (pa_cons (pe_bltn (v := .ty "list") (by rfl) B.list (by decide +kernel) rfl) pa_nil))))))) pss_never pss_nil)
      (pss_cons (ps_if (PW.pt (pw_or (pt_cmpR op_isN (pv 1) pe_non (nomark _)) (pw_or1 (pt_cmpR op_isN (pv 0) pe_non (nomark _)))))
        (pss_one (ps_ret (pe_and (pe_cmpR op_isN (pv 1) pe_non (nomark _)) (pe_one (pe_cmpR op_isN (pv 0) pe_non (nomark _)))))) pss_nil)
      (pss_cons (ps_if (PW.pt (pw_or (pt_val (pe_callB call_isi (by rfl) B.isinstance (by decide +kernel) (pa_cons (pv 1) (pa_cons (pe_bltn (v := .ty "bool") (by rfl) B.bool (by decide +kernel) rfl) pa_nil))))
          (pw_or1 (pt_val (pe_callB call_isi (by rfl) B.isinstance (by decide +kernel) (pa_cons (pv 0) (pa_cons (pe_bltn (v := .ty "bool") (by rfl) B.bool (by decide +kernel) rfl) pa_nil))))))) pss_never pss_nil)
      (pss_cons (ps_if (pt_val (pe_callB call_isi (by rfl) B.isinstance (by decide +kernel) (pa_cons (pv 1) (pa_cons (pe_bltn (v := .ty "str") (by rfl) B.str (by decide +kernel) rfl) pa_nil))))
        (pss_one (ps_ret (pe_and (pe_callB call_isi (by rfl) B.isinstance (by decide +kernel) (pa_cons (pv 0) (pa_cons (pe_bltn (v := .ty "str") (by rfl) B.str (by decide +kernel) rfl) pa_nil))) (pe_one (pe_cmpR op_eq (pv 0) (pv 1) (nomark _)))))) pss_nil)
      (pss_one (ps_ret (pe_and (pe_callB call_isi (by rfl) B.isinstance (by decide +kernel) (pa_cons (pv 0) (pa_cons (pe_bltn (v := .ty "int") (by rfl) B.int (by decide +kernel) rfl) pa_nil))) (pe_one (pe_cmpR op_eq (pv 0) (pv 1) (nomark _))))))))), ?_⟩
    rcases hf with rfl | ⟨i, rfl⟩ | ⟨y, rfl⟩
    · refine ⟨.non, rfl, _, _, _, _, _, rfl, .ty _, (.base .non), kit_ty kNT, ⟨_, rfl, iteF ⟨.non, rfl, _, _, _, _, _, rfl, .ty _, (.base .non), kit_ty kNL, ⟨_, rfl, iteF ?_⟩⟩⟩⟩
      refine ⟨.non, rfl, rfl, _, rfl, iteT (iteT ?_)⟩
      exact ⟨.non, rfl, rfl, _, rfl, iteT ⟨.non, rfl, rfl, q⟩⟩
    · refine ⟨.int i, rfl, _, _, _, _, _, rfl, .ty _, (.base (.int i)), kit_ty kIT, ⟨_, rfl, iteF ⟨.int i, rfl, _, _, _, _, _, rfl, .ty _, (.base (.int i)), kit_ty kIL, ⟨_, rfl, iteF ?_⟩⟩⟩⟩
      refine ⟨.int i, rfl, rfl, _, rfl, iteF ⟨.int i, rfl, rfl, _, rfl, iteF ?_⟩⟩
      refine ⟨.int i, rfl, _, _, _, _, _, rfl, .ty _, (.base (.int i)), kit_ty kIB, ⟨_, rfl, iteF ⟨.int i, rfl, _, _, _, _, _, rfl, .ty _, (.base (.int i)), kit_ty kIB, ⟨_, rfl, iteF ?_⟩⟩⟩⟩
      refine ⟨.int i, rfl, _, _, _, _, _, rfl, .ty _, (.base (.int i)), kit_ty kIS, ⟨_, rfl, iteF ?_⟩⟩
      refine ⟨.int i, rfl, _, _, _, _, _, rfl, .ty _, (.base (.int i)), kit_ty kII, ⟨_, rfl, iteT ⟨.int i, rfl, .int i, rfl, rfl, ?_⟩⟩⟩
      rw [decide_eq_true rfl]
      exact q
    · refine ⟨.str y, rfl, _, _, _, _, _, rfl, .ty _, (.base (.str y)), kit_ty kST, ⟨_, rfl, iteF ⟨.str y, rfl, _, _, _, _, _, rfl, .ty _, (.base (.str y)), kit_ty kSL, ⟨_, rfl, iteF ?_⟩⟩⟩⟩
      refine ⟨.str y, rfl, rfl, _, rfl, iteF ⟨.str y, rfl, rfl, _, rfl, iteF ?_⟩⟩
      refine ⟨.str y, rfl, _, _, _, _, _, rfl, .ty _, (.base (.str y)), kit_ty kSB, ⟨_, rfl, iteF ⟨.str y, rfl, _, _, _, _, _, rfl, .ty _, (.base (.str y)), kit_ty kSB, ⟨_, rfl, iteF ?_⟩⟩⟩⟩
      refine ⟨.str y, rfl, _, _, _, _, _, rfl, .ty _, (.base (.str y)), kit_ty kSS, ⟨_, rfl, iteT ?_⟩⟩
      refine ⟨.str y, rfl, _, _, _, _, _, rfl, .ty _, (.base (.str y)), kit_ty kSS, ⟨_, rfl, iteT ⟨.str y, rfl, .str y, rfl, rfl, ?_⟩⟩⟩
      rw [decide_eq_true rfl]
      exact q
def SamV (H : Hp) (x y : V) : Prop := (x = .non ∧ y = .non) ∨ ∃ (p q : Addr) (us : List V), x = .ref p ∧ y = .ref q ∧ H p = some (.tup us) ∧ H q = some (.tup us) ∧ us.length ≤ 5 ∧ ∀ u ∈ us, Flat u
theorem verd_sam {H : Hp} {x y : V} {v : Verd} (h : VerdV H x v) (h' : VerdV H y v) : SamV H x y := by
  cases v with
  | good => exact .inl ⟨h, h'⟩
  | rnd k =>
    obtain ⟨p, rfl, e⟩ := h
    obtain ⟨q, rfl, e'⟩ := h'
    refine .inr ⟨p, q, _, rfl, rfl, e, e', by simp, fun u hu => ?_⟩
    simp only [List.mem_cons, List.not_mem_nil, or_false] at hu
    rcases hu with rfl | rfl
    · exact .inr (.inr ⟨_, rfl⟩)
    · exact .inr (.inl ⟨_, rfl⟩)
  | twice a b j k =>
    obtain ⟨p, rfl, e⟩ := h
    obtain ⟨q, rfl, e'⟩ := h'
    refine .inr ⟨p, q, _, rfl, rfl, e, e', by simp, fun u hu => ?_⟩
    simp only [List.mem_cons, List.not_mem_nil, or_false] at hu
    rcases hu with rfl | rfl | rfl | rfl | rfl
    · exact .inr (.inr ⟨_, rfl⟩)
    all_goals exact .inr (.inl ⟨_, rfl⟩)
def spAlike : Sp := fun vs H Q _ => ∃ x y : V, vs = [x, y] ∧ SamV H x y ∧ ∀ H', Same H H' → Q (.bl true) H'
theorem ok_alike {f : Addr} {fd : FuncData} (F : Fun K "_law_alike" "_law_alike" lAlike f fd) (B : Blt mg) (b : Binds K fd ["_law_found", "_law_due_here"] []) (gA : mg "_law_alike" = some (.ref f)) : FnOk P w K mg base CX0 2 f fd ["_law_found", "_law_due_here"] spAlike := by
  have GA : FnOk P w K mg base CX0 1 f fd ["_law_found", "_law_due_here"] spAlike1 := ok_alike1 F B
  refine F.ok scAlike (fun vs H Q E h => ?_) (fun cdv A outer s H vs Q E hr h => ?_)
  · obtain ⟨x, y, rfl, _⟩ := h
    rfl
  · obtain ⟨x, y, rfl, hf, q⟩ := h
    refine ⟨_, pss_cons (ps_if (PW.pt (pw_or (pt_val (pe_callB call_isi (by rfl) B.isinstance (by decide +kernel) (pa_cons (pv 1) (pa_cons (pe_bltn (v := .ty "tuple") (by rfl) B.tuple (by decide +kernel) rfl) pa_nil)))) (pw_or1 (pt_val (pe_callB call_isi (by rfl) B.isinstance (by decide +kernel) (pa_cons (pv 1) (pa_cons (pe_bltn (v := .ty "list") (by rfl) B.list (by decide +kernel) rfl) pa_nil)))))))
        (pss_cons (ps_if (PW.pt (pw_or (pt_cmpR op_ne (pe_callB call_isi (by rfl) B.isinstance (by decide +kernel) (pa_cons (pv 0) (pa_cons (pe_bltn (v := .ty "tuple") (by rfl) B.tuple (by decide +kernel) rfl) pa_nil))) (pe_callB call_isi (by rfl) B.isinstance (by decide +kernel) (pa_cons (pv 1) (pa_cons (pe_bltn (v := .ty "tuple") (by rfl) B.tuple (by decide +kernel) rfl) pa_nil))) (nomark _)) (pw_or1 (pt_not (pt_val (pe_callB call_isiT (by rfl) B.isinstance (by decide +kernel) (pa_cons (pv 0) (pa_cons (pe_tup (pa_cons (pe_bltn (v := .ty "tuple") (by rfl) B.tuple (by decide +kernel) rfl) (pa_cons (pe_bltn (v := .ty "list") (by rfl) B.list (by decide +kernel) rfl) pa_nil))) pa_nil))))))))
          pss_never pss_nil)
        (pss_cons (ps_if (pt_cmpR op_ne (pe_callB call_len_seq (by rfl) B.len PySem.boot_len (pa_cons (pv 0) pa_nil)) (pe_callB call_len_seq (by rfl) B.len PySem.boot_len (pa_cons (pv 1) pa_nil)) (nomark _)) pss_never pss_nil)
        (pss_one (ps_ret (pe_cmpR (op_eqD hr.units) (pe_lc (own := [("_law_k", 2)]) (g := gName 2) (tt := tNot (tB (tCall spAlike1 [] E0 (tCons (tOp (rIxT K) (tVar 0) (tVar 2)) (tCons (tOp (rIxT K) (tVar 1) (tVar 2)) tNil))))) (te := tVar 2) (by rfl) scAlike.nd
          (pi_range1 (by rfl) B.range (pa_cons (pe_callB call_len_seq (by rfl) B.len PySem.boot_len (pa_cons (pv 1) pa_nil)) pa_nil)) (blkOk_by (N := ["_law_found", "_law_due_here", "_law_k"]) (sc := defScope lAlike) (by decide +kernel))
          (fun _ _ _ _ _ => pg_name (i := 2) (x := "_law_k") scAlike.nd rfl (.inl rfl) (.inr rfl))
          (fun _ _ _ _ _ => pts_one (pt_not (pt_val (pe_call GA hr (by rfl) gA F.kp b .nil pass0 (pa_cons (pe_ix ix_tup (pv 0) (pv 2) (fun _ _ => rfl)) (pa_cons (pe_ix ix_tup (pv 1) (pv 2) (fun _ _ => rfl)) pa_nil)))))) (fun _ _ _ _ _ => pv 2)) (pe_lst pa_nil) (nomark _)))))) pss_nil)
      (pss_cons (ps_if (PW.pt (pw_or (pt_cmpR op_isN (pv 1) pe_non (nomark _)) (pw_or1 (pt_cmpR op_isN (pv 0) pe_non (nomark _)))))
        (pss_one (ps_ret (pe_and (pe_cmpR op_isN (pv 1) pe_non (nomark _)) (pe_one (pe_cmpR op_isN (pv 0) pe_non (nomark _)))))) pss_nil)
      pss_never), ?_⟩
    rcases hf with ⟨rfl, rfl⟩ | ⟨p, r, us, rfl, rfl, hp, hr', hl, hu⟩
    · refine ⟨.non, rfl, _, _, _, _, _, rfl, .ty _, (.base .non), kit_ty kNT, ⟨_, rfl, iteF ⟨.non, rfl, _, _, _, _, _, rfl, .ty _, (.base .non), kit_ty kNL, ⟨_, rfl, iteF ?_⟩⟩⟩⟩
      refine ⟨.non, rfl, rfl, _, rfl, iteT (iteT ?_)⟩
      exact ⟨.non, rfl, rfl, _, rfl, iteT ⟨.non, rfl, rfl, q _ (Same.refl _)⟩⟩
    · have tx : TyX K H (.ref r) (.type "tuple") := .base (.tup hr')
      have ty : TyX K H (.ref p) (.type "tuple") := .base (.tup hp)
      refine ⟨.ref r, rfl, _, _, _, _, _, rfl, .ty _, tx, kit_ty kTT, ⟨_, rfl, iteT (iteT ?_)⟩⟩
      refine ⟨.ref p, rfl, _, _, _, _, _, rfl, .ty _, ty, kit_ty kTT, .ref r, rfl, _, _, _, _, _, rfl, .ty _, tx, kit_ty kTT, rfl, _, rfl, iteF ?_⟩
      refine ⟨.ref p, rfl, two_le, fun T nT => ?_⟩
      have s1 : Same H (upd H T (.tup [.ty "tuple", .ty "list"])) := same_new nT
      have hp1 := s1 _ _ hp
      have hr1 := s1 _ _ hr'
      refine ⟨.ref p, T, _, .type "tuple", [.type "tuple", .type "list"], true, rfl, upd_same, .cons (.ty _) (.cons (.ty _) .nil), .base (.tup hp1), kitAny_cons (kit_ty kTT) (fun e => by cases e) (fun _ => rfl), ⟨_, rfl, iteF ?_⟩⟩
      refine ⟨.ref p, rfl, p, _, rfl, .inr (SqT.of hp1), .ref r, rfl, r, _, rfl, .inr (SqT.of hr1), rfl, _, rfl, ?_⟩
      rw [decide_eq_true rfl]
      refine iteF ?_
      -- no k at which they are unlike
      refine ⟨.ref r, rfl, r, _, rfl, .inr (SqT.of hr1), _, rfl, by omega, by omega, fun D nD => ?_⟩
      have s2 : Same (upd H T (.tup [.ty "tuple", .ty "list"])) (upd (upd H T (.tup [.ty "tuple", .ty "list"])) D (.lst [])) := same_new nD
      refine lc_it walk_range (fun i H5 => Same (upd H T (.tup [.ty "tuple", .ty "list"])) H5 ∧ H5 D = some (.lst [])) ⟨s2, upd_same⟩ (fun _ _ _ _ => trivial) (fun i x H5 H6 hi hI y => ?_) (fun H5 hI => ?_)
      · obtain ⟨rfl, hxv⟩ := y
        have ei : (0 : Int) + (i : Nat) = ((i : Nat) : Int) := by omega
        have hxv : x = V.int ((i : Nat) : Int) := hxv.trans (by show V.int (0 + (i : Nat)) = _; rw [ei])
        subst hxv
        obtain ⟨sm, hD⟩ := hI
        have hix : i < us.length := by omega
        have hg : us[i]? = some us[i] := List.getElem?_eq_getElem hix
        have hF := hu us[i] (List.getElem_mem hix)
        generalize us[i] = u at hg hF
        refine ⟨wipe_put (by decide), ?_⟩
        refine ⟨.ref p, rfl, .int ((i : Nat) : Int), rfl, p, us, _, u, rfl, rfl, SqT.of (sm _ _ hp1), atI_nat hg, .ref r, rfl, .int ((i : Nat) : Int), rfl, r, us, _, u, rfl, rfl, SqT.of (sm _ _ hr1), atI_nat hg, u, rfl, hF, _, rfl, iteF ⟨sm, hD⟩⟩
      · obtain ⟨sm, hD⟩ := hI
        refine ⟨Nat.zero_le _, fun e ne => ?_⟩
        have s3 : Same H5 (upd H5 e (.lst [])) := same_new ne
        exact ⟨.list [], .list [], .lst (SqL.of (s3 _ _ hD)) .nil, .lst (SqL.of upd_same) .nil, shNil, shNil, q _ ((s1.trans sm).trans s3)⟩
end Nf

set_option Elab.async false
set_option linter.all false
set_option maxRecDepth 100000
set_option maxHeartbeats 4000000
namespace Nf
open PySem PySem.Spec PyProof.Rows L2
variable {P : Program} {w : World} {K : PySem.W.Frag} {mg : Str → Option Value} {base : Heap}
/-! ### the law -/
theorem verd_same {H H' : Hp} {x : V} {v : Verd} (h : VerdV H x v) (s : Same H H') : VerdV H' x v := by
  cases v with
  | good => exact h
  | rnd k =>
    obtain ⟨p, rfl, e⟩ := h
    exact ⟨p, rfl, s _ _ e⟩
  | twice a b j k =>
    obtain ⟨p, rfl, e⟩ := h
    exact ⟨p, rfl, s _ _ e⟩
theorem scLaw : FnScope ["_law_script", "_law_row", "_law_turn", "_law_guests", "_law_size", "_law_party", "_law_plan_here", "_law_k", "_law_tables", "_law_at", "_law_handed"] ["_law_script"] (defScope lLaw) := ⟨rfl, rfl, rfl, by decide +kernel, rfl, by decide +kernel, by decide +kernel⟩
def spLaw (K : PySem.W.Frag) : Sp := fun vs H Q _ => ∃ (a : Addr) (ns : List Int), vs = [.ref a] ∧ SqL K H a (ns.map V.int) ∧ ns.length ≤ 63 ∧ ∀ H', Q (.bl true) H'
theorem ok_law {f C fi fT fA fMy fM fS fH fPl fSp fD fF : Addr} {fd fdi fdT fdA fdMy fdM fdS fdH fdPl fdSp fdD fdF : FuncData} (F : Fun K "law" "law" lLaw f fd) (B : Blt mg) (T : Txt K mg C) (M : Mk K C fi) (GI : FnOk P w K mg base CX0 2 fi fdi ["self", "guests", "size"] (spInit C)) (bi : Binds K fdi ["self", "guests", "size"] [])
    (HT : Has P w K mg base 1 "_law_taken" fT fdT ["_law_row", "_law_many_here"] (spTaken K)) (HA : Has P w K mg base 2 "_law_alike" fA fdA ["_law_found", "_law_due_here"] spAlike) (HMy : Has P w K mg base 3 "_law_many" fMy fdMy ["_law_row"] (spMany K)) (HM : Has P w K mg base 2 "_law_mixed" fM fdM ["_law_row", "_law_some"] (spMixed K))
    (HS : Has P w K mg base 1 "_law_seated" fS fdS ["_law_guests", "_law_size"] (spSeated K)) (HH : Has P w K mg base 2 "_law_thin" fH fdH ["_law_row", "_law_tables"] (spThin K)) (HPl : Has P w K mg base 4 "_law_plan" fPl fdPl ["_law_row", "_law_guests", "_law_size", "_law_most"] (spPlan K))
    (HSp : Has P w K mg base 2 "_law_spoilt" fSp fdSp ["_law_row", "_law_guests", "_law_tables"] (spSpoilt K)) (HD : Has P w K mg base 2 "_law_due" fD fdD ["_law_guests", "_law_size", "_law_plan_here"] (spDue K)) (HF : Has P w K mg base 4 "fault" fF fdF ["party", "plan"] (spFault K C)) :
    FnOk P w K mg base CX0 5 f fd ["_law_script"] (spLaw K) := by
  refine F.ok scLaw (fun vs H Q E h => ?_) (fun cdv A outer s H vs Q E hr h => ?_)
  · obtain ⟨a, ns, rfl, _⟩ := h
    rfl
  · obtain ⟨a, ns, rfl, hS, hlen, q⟩ := h
    have hr1 : Room 1 _ := hr.mono (by decide)
    have hr2 : Room 2 _ := hr.mono (by decide)
    have hr3 : Room 3 _ := hr.mono (by decide)
    refine ⟨_, pss_cons (ps_set (i := 1) scLaw.nd rfl (.inl rfl) (pe_lst (pa_cons (pv 0) (pa_cons pe_int (pa_cons pe_int (pa_cons pe_int pa_nil))))))
      (pss_cons (ps_for PassesOwn.never rfl (pi_range1 (by rfl) B.range (pa_cons pe_int pa_nil)) (pg_name (i := 2) scLaw.nd rfl (.inl rfl))
        (pss_cons (ps_asg (pe_call HMy.ok hr3 (by rfl) HMy.g HMy.kp HMy.b .nil pass0 (pa_cons (pv 1) pa_nil)) (pg_tup rfl (pgs_cons (pg_name (i := 3) scLaw.nd rfl (.inl rfl)) (pgs_cons (pg_name (i := 4) scLaw.nd rfl (.inl rfl)) pgs_nil))))
        (pss_cons (ps_set (i := 5) scLaw.nd rfl (.inl rfl) (pe_make M GI hr3 (by rfl) T.mgC bi .nil pass0 (pa_cons (pv 3) (pa_cons (pv 4) pa_nil))))
        (pss_cons (ps_set (i := 6) scLaw.nd rfl (.inl rfl) (pe_call HPl.ok hr (by rfl) HPl.g HPl.kp HPl.b .nil pass0 (pa_cons (pv 1) (pa_cons (pv 3) (pa_cons (pv 4) (pa_cons pe_int pa_nil))))))
        (pss_cons (ps_if (pt_not (pt_val (pe_call HA.ok hr2 (by rfl) HA.g HA.kp HA.b .nil pass0 (pa_cons (pe_call HF.ok hr (by rfl) HF.g HF.kp HF.b .nil pass0 (pa_cons (pv 5) (pa_cons (pe_callTy call_list_of (by rfl) B.list (by decide +kernel) (pa_cons (pv 6) pa_nil)) pa_nil))) (pa_cons pe_non pa_nil))))) pss_never pss_nil)
        (pss_cons (ps_for PassesOwn.never rfl (pi_range1 (by rfl) B.range (pa_cons (pe_call HT.ok hr1 (by rfl) HT.g HT.kp HT.b .nil pass0 (pa_cons (pv 1) (pa_cons pe_int pa_nil))) pa_nil)) (pg_name (i := 7) scLaw.nd rfl (.inl rfl))
          (pss_cons (ps_set (i := 8) scLaw.nd rfl (.inl rfl) (pe_call HS.ok hr1 (by rfl) HS.g HS.kp HS.b .nil pass0 (pa_cons (pe_call HM.ok hr2 (by rfl) HM.g HM.kp HM.b .nil pass0 (pa_cons (pv 1) (pa_cons (pe_listRg rfl (by rfl) B.list (prg_1 (by rfl) B.range (pv 3))) pa_nil))) (pa_cons (pv 4) pa_nil))))
          (pss_one (ps_expr (pe_bm PySem.F.plainAttrs_list PySem.F.slot_list_insert PySem.F.type_list_insert mt_insert (pv 6) (pa_cons (pe_call HT.ok hr1 (by rfl) HT.g HT.kp HT.b .nil pass0 (pa_cons (pv 1) (pa_cons (pe_op op_add (pe_callB call_len_seq (by rfl) B.len PySem.boot_len (pa_cons (pv 6) pa_nil)) pe_int) pa_nil)))
            (pa_cons (pe_ix ix_list (pe_lst (pa_cons (pv 8) (pa_cons (pe_call HH.ok hr2 (by rfl) HH.g HH.kp HH.b .nil pass0 (pa_cons (pv 1) (pa_cons (pv 8) pa_nil))) pa_nil))) (pe_call HT.ok hr1 (by rfl) HT.g HT.kp HT.b .nil pass0 (pa_cons (pv 1) (pa_cons pe_int pa_nil))) (fun _ _ => rfl)) pa_nil)))))))
        (pss_cons (ps_for PassesOwn.never rfl (pi_range1 (by rfl) B.range (pa_cons (pe_op op_mul (pe_call HT.ok hr1 (by rfl) HT.g HT.kp HT.b .nil pass0 (pa_cons (pv 1) (pa_cons pe_int pa_nil))) (pe_callTy call_int1 (by rfl) B.int (by decide +kernel) (pa_cons (pe_cmpR (op_neD hr.units) (pv 6) (pe_lst pa_nil) (nomark _)) pa_nil))) pa_nil)) (pg_name (i := 7) scLaw.nd rfl (.inl rfl))
          (pss_cons (ps_set (i := 9) scLaw.nd rfl (.inl rfl) (pe_call HT.ok hr1 (by rfl) HT.g HT.kp HT.b .nil pass0 (pa_cons (pv 1) (pa_cons (pe_callB call_len_seq (by rfl) B.len PySem.boot_len (pa_cons (pv 6) pa_nil)) pa_nil))))
          (pss_one (ps_asg (pe_call HSp.ok hr2 (by rfl) HSp.g HSp.kp HSp.b .nil pass0 (pa_cons (pv 1) (pa_cons (pv 3) (pa_cons (pe_ix ix_list (pv 6) (pv 9) (fun _ _ => rfl)) pa_nil)))) (pg_sub (pv 6) (pv 9) set_list)))))
        (pss_cons (ps_set (i := 10) scLaw.nd rfl (.inl rfl) (pe_callTy call_list_of (by rfl) B.list (by decide +kernel) (pa_cons (pv 6) pa_nil)))
        (pss_one (ps_if (PW.pt (pw_or (pt_not (pt_val (pe_call HA.ok hr2 (by rfl) HA.g HA.kp HA.b .nil pass0 (pa_cons (pe_call HF.ok hr (by rfl) HF.g HF.kp HF.b .nil pass0 (pa_cons (pv 5) (pa_cons (pv 10) pa_nil))) (pa_cons (pe_call HD.ok hr2 (by rfl) HD.g HD.kp HD.b .nil pass0 (pa_cons (pv 3) (pa_cons (pv 4) (pa_cons (pv 6) pa_nil)))) pa_nil)))))
          (pw_or1 (pt_cmpR (op_neD hr.units) (pv 10) (pv 6) (nomark _))))) pss_never pss_nil))))))))))
      (pss_one (ps_ret pe_bl))), ?_⟩
    -- row = [script, 0, 0, 0]
    refine ⟨.ref a, rfl, four_le, fun r nr => ?_⟩
    have R0 : RowAt K (upd H r (.lst [.ref a, .int 0, .int 0, .int 0])) r a ns := RowAt.new hS nr
    refine ⟨3, rfl, by decide, by decide, ?_⟩
    refine for_it walk_range (fun i σ H2 => ∃ (y2 y3 y4 y5 y6 y7 y8 y9 y10 : Option V), σ = [some (.ref a), some (.ref r), y2, y3, y4, y5, y6, y7, y8, y9, y10] ∧ RowAt K H2 r a ns)
      ⟨none, none, none, none, none, none, none, none, none, rfl, R0⟩ (fun _ _ _ _ _ => trivial) (fun i x σ H2 H3 hi hI2 y => ?_) (fun σ H2 hI2 => ?_)
    · obtain ⟨y2, y3, y4, y5, y6, y7, y8, y9, y10, rfl, R2⟩ := hI2
      obtain ⟨rfl, rfl⟩ := y
      -- guests, size = many(row)
      refine ⟨.ref r, rfl, r, a, ns, rfl, R2, fun x H4 g z R4 s4 hx hI => ?_⟩
      obtain ⟨T1, rfl, hT1⟩ := hx
      refine ⟨T1, _, rfl, SqT.of hT1, rfl, _, _, rfl, _, _, rfl, rfl, ?_⟩
      -- party = Party(guests, size)
      refine ⟨.int g, rfl, .int z, rfl, fun p dx np ndx nex => ?_⟩
      refine ⟨p, dx, g, z, rfl, upd_same, hI, rfl, ?_⟩
      rw [upd_upd]
      have s5 : Same H4 (upd (upd H4 dx (.own p)) p (.ins C dx (pf g z))) := (same_new (o := .own p) ndx).trans (same_new (by rw [upd_ne nex.symm]; exact np))
      have hp5 : (upd (upd H4 dx (.own p)) p (.ins C dx (pf g z))) p = some (.ins C dx (pf g z)) := upd_same
      have R5 := R4.keep s5
      generalize (upd (upd H4 dx (.own p)) p (.ins C dx (pf g z))) = H5 at s5 hp5 R5 ⊢
      obtain ⟨xr5, hxr5⟩ := R5.lst
      -- plan
      refine ⟨.ref r, rfl, .int g, rfl, .int z, rfl, r, a, ns, g, z, 4, rfl, R5, hI, by decide, by decide, fun l H6 rs R6 s6 nl hPM hG hl4 => ?_⟩
      have npr : p ≠ r := ne_of hp5 hxr5 (by intro e; cases e)
      have nlr : l ≠ r := fun e => by
        rw [e, hxr5] at nl
        cases nl
      have I6 : LawI K C H6 r a p dx l ns g z rs 4 32 8 := ⟨R6, s6 _ _ npr hp5, hPM, nlr, by omega, fun rd hr => round_bd hI (hG.rd rd hr), fun H' o R => row_put R5 nl R⟩
      -- alike(fault(party, list(plan)), None)
      obtain ⟨xs6, hl6, hxs6⟩ := hPM
      refine ⟨.ref p, rfl, .ref l, rfl, l, xs6, rfl, .inl (SqL.of hl6), fun b nb => ?_⟩
      have s7 : Same H6 (upd H6 b (.lst xs6)) := same_new nb
      refine ⟨p, b, g, z, rs, rfl, ⟨dx, s7 _ _ (s6 _ _ npr hp5)⟩, hI, ⟨xs6, SqL.of upd_same, paired_mono (fun _ _ h => h.mono (same_toT s7)) hxs6⟩, ⟨by omega, fun rd hr => ?_, fun rd hr t ht => ?_⟩, fun v1 H8 vd s8 hv hx => ?_⟩
      · have := (I6.bd rd hr).1
        omega
      · have := (I6.bd rd hr).2 t ht
        omega
      have ev : vd = .good := hv.unique (hG.isV fun _ _ _ _ => rfl)
      subst ev
      refine ⟨v1, .non, rfl, .inl ⟨hx, rfl⟩, fun H9 s9 => ⟨true, rfl, iteF ?_⟩⟩
      have I9 := I6.same ((s7.trans s8).trans s9)
      -- further rounds
      refine ⟨.ref r, rfl, r, a, ns, 3, rfl, I9.row, by decide, by decide, fun cA JA cA0 cA1 RA sA => ?_⟩
      have IA := I9.keep RA sA
      refine ⟨cA, rfl, by omega, by omega, ?_⟩
      obtain ⟨n, zn, ez, eg, hz1, hz8, hn64⟩ := party_nat hI
      refine for_it walk_range (fun k σ H2 => ∃ (y7 y8 : Option V) (rs : List Rnd), σ = [some (.ref a), some (.ref r), some (.int (0 + (i : Nat))), some (.int g), some (.int z), some (.ref p), some (.ref l), y7, y8, y9, y10] ∧ LawI K C H2 r a p dx l ns g z rs (4 + k) 32 8)
        ⟨y7, y8, rs, rfl, IA⟩ (fun _ _ _ _ _ => trivial) (fun k x σ JB JC hk hB y => ?_) (fun σ JB hB => ?_)
      · obtain ⟨y7, y8, rs, rfl, IB⟩ := hB
        obtain ⟨rfl, rfl⟩ := y
        -- seated(mixed(row, list(range(guests))), size)
        refine ⟨.ref r, rfl, .int g, rfl, g, rfl, ?_, fun b1 nb1 => ?_⟩
        · exact RgOk.of_le (by decide) (by have := hI.g64; omega) (by decide) (by have := hI.g2; omega)
        have er : rgV 0 g = (rangeI (n * zn)).map V.int := by
          rw [eg]
          exact rgV_range _
        rw [er]
        have sb1 : Same JC (upd JC b1 (.lst ((rangeI (n * zn)).map V.int))) := same_new nb1
        have IB1 := IB.same sb1
        refine ⟨r, a, b1, ns, rangeI (n * zn), rfl, IB1.row, SqL.of upd_same, by rw [rangeI_len]; omega, fun c JD l' RD sD nc hc hp => ?_⟩
        have ID := IB1.keep RD sD
        refine ⟨.int z, rfl, c, l', zn, n, by rw [ez]; rfl, SqL.of hc, hz1, by omega, by rw [hp.length_eq, rangeI_len], by omega, fun x JE sE hx => ?_⟩
        have IE := ID.same sE
        have hRd : IsRound g z (seatedM l' zn n) := drawn_round hI ez eg hz1 hp
        generalize seatedM l' zn n = rd at hx hRd
        obtain ⟨hb1, hb2⟩ := round_bd hI hRd
        obtain ⟨xs, hl, hxs⟩ := id IE.pl
        have hxl := paired_len hxs
        have hcnt := IE.cnt
        have big : (100000 : Nat) < sizeLine := by decide
        -- insert
        refine ⟨.ref l, rfl, .inl ⟨rfl, _, SqL.of hl⟩, .ref r, rfl, .ref l, rfl, l, xs, rfl, .inl (SqL.of hl), _, _, rfl, rfl, r, a, ns, _, rfl, IE.row, by omega, by omega, fun at1 JF f0 f1 RF sF => ?_⟩
        have IF := IE.keep RF sF
        have hxF := hx.mono (IE.toT sF)
        refine ⟨x, rfl, .ref r, rfl, x, rfl, r, a, ns, x, rd, rfl, RF, hxF, by omega, fun t ht => by have := hb2 t ht; omega, fun th JG ff RG sG hth hThin => ?_⟩
        have IG := IF.keep RG sG
        have hxG := hxF.mono (IF.toT sG)
        have hTh := hThin.round hRd
        refine ⟨two_le, fun b2 nb2 => ?_⟩
        have sb2 : Same JG (upd JG b2 (.lst [x, th])) := same_new nb2
        have IG2 := IG.same sb2
        refine ⟨.ref r, rfl, r, a, ns, 2, rfl, IG2.row, by decide, by decide, fun u JH u0 u1 RH sH => ?_⟩
        have IH := IG2.keep RH sH
        have T2 := (same_toT sb2).trans (IG2.toT sH)
        obtain ⟨xrG, hxrG⟩ := IG.row.lst
        have nb2r : b2 ≠ r := fun e => by
          rw [e, hxrG] at nb2
          cases nb2
        have hb2H := sH _ _ nb2r (upd_same : (upd JG b2 (.lst [x, th])) b2 = _)
        obtain ⟨w1, rw1, hat, hw, hrw⟩ : ∃ w1 rw1, atI [x, th] u = some w1 ∧ RndV JH w1 rw1 ∧ IsRound g z rw1 := by
          by_cases hu : u = 0
          · subst hu
            exact ⟨x, rd, rfl, hxG.mono T2, hRd⟩
          · have e1 : u = 1 := by omega
            subst e1
            exact ⟨th, _, rfl, hth.mono T2, hTh⟩
        obtain ⟨xsH, hlH, hxsH⟩ := id IH.pl
        obtain ⟨hw1, hw2⟩ := round_bd hI hrw
        have hxlH := paired_len hxsH
        have hcH := IH.cnt
        refine ⟨b2, _, u, w1, rfl, rfl, SqL.of hb2H, hat, l, xsH, at1, w1, rfl, rfl, hlH, by omega, f0, by omega, _, _, _, rfl, IH.putL (paired_ins at1.toNat hxsH hw) ?_ fun q1 hq1 => ?_⟩
        · rw [List.length_append, List.length_append, List.length_take, List.length_drop, List.length_singleton]
          omega
        · simp only [List.mem_append, List.mem_singleton] at hq1
          rcases hq1 with (hq1 | rfl) | hq1
          · exact IH.bd q1 (List.mem_of_mem_take hq1)
          · exact ⟨hw1, hw2⟩
          · exact IH.bd q1 (List.mem_of_mem_drop hq1)
      · obtain ⟨y7, y8, rs, rfl, IB⟩ := hB
        have IB : LawI K C JB r a p dx l ns g z rs 6 32 8 := IB.wide (by omega) (Nat.le_refl _) (Nat.le_refl _)
        -- some told otherwise
        refine ⟨.ref r, rfl, r, a, ns, 3, rfl, IB.row, by decide, by decide, fun cB JC c0 c1 RC sC => ?_⟩
        have IC := IB.keep RC sC
        obtain ⟨xsC, hlC, hxsC⟩ := id IC.pl
        refine ⟨.ref l, rfl, Nat.zero_le _, fun e ne => ?_⟩
        have sE : Same JC (upd JC e (.lst [])) := same_new ne
        have IE := IC.same sE
        refine ⟨.list (rs.map fun r => .tuple (r.map dT)), .list [], dp_lst (fun _ _ h => dp_rnd h) (SqL.of (sE _ _ hlC)) (paired_mono (fun _ _ h => h.mono (same_toT sE)) hxsC), .lst (SqL.of upd_same) .nil, shRnds _, shNil, ?_⟩
        have een : PyData.eqv (.list (rs.map fun r => .tuple (r.map dT))) (.list []) = rs.isEmpty := by cases rs <;> simp [PyData.eqv, PyData.eqvAll]
        rw [een]
        generalize (upd JC e (.lst [])) = JE at IE ⊢
        refine .inr ⟨_, rfl, cB, _, rfl, rfl, .inl ⟨by omega, by omega⟩, ?_⟩
        obtain ⟨N, hN, hN2, hN0⟩ : ∃ N : Nat, cB * (if (!rs.isEmpty) = true then 1 else 0) = (N : Int) ∧ N ≤ 2 ∧ (N ≠ 0 → rs ≠ []) := by
          cases rs with
          | nil => exact ⟨0, by simp, by omega, fun h => absurd rfl h⟩
          | cons r0 rt => exact ⟨cB.toNat, by simp; omega, by omega, fun _ => by simp⟩
        refine ⟨((N : Nat) : Int), congrArg (fun z => [V.int z]) hN, by omega, by omega, ?_⟩
        refine for_it walk_range (fun k σ H2 => ∃ (y7 y9 : Option V) (qs : List Rnd), σ = [some (.ref a), some (.ref r), some (.int (0 + (i : Nat))), some (.int g), some (.int z), some (.ref p), some (.ref l), y7, y8, y9, y10] ∧ LawI K C H2 r a p dx l ns g z qs 6 (32 + k) (9 * 2 ^ k - 1) ∧ qs.length = rs.length)
          ⟨y7, y9, rs, rfl, IE, rfl⟩ (fun _ _ _ _ _ => trivial) (fun k x σ JF JG hk hF y => ?_) (fun σ JF hF => ?_)
        · obtain ⟨y7, y9, qs, rfl, IF, hql⟩ := hF
          obtain ⟨rfl, rfl⟩ := y
          have hkN : k < N := by omega
          have hk2 : k = 0 ∨ k = 1 := by omega
          have hne : 0 < qs.length := by
            have := hN0 (by omega)
            cases rs with
            | nil => exact absurd rfl this
            | cons r0 rt => rw [hql]; simp
          obtain ⟨xs, hl, hxs⟩ := id IF.pl
          have hxl := paired_len hxs
          have hcnt := IF.cnt
          -- at = taken(row, len(plan))
          refine ⟨.ref r, rfl, .ref l, rfl, l, xs, rfl, .inl (SqL.of hl), r, a, ns, _, rfl, IF.row, by omega, by omega, fun at1 JH f0 f1 RH sH => ?_⟩
          have IH := IF.keep RH sH
          obtain ⟨xsH, hlH, hxsH⟩ := id IH.pl
          have hxlH := paired_len hxsH
          have hat : at1.toNat < qs.length := by omega
          have hq0 : qs[at1.toNat]? = some qs[at1.toNat] := List.getElem?_eq_getElem hat
          have hqm := List.getElem_mem hat
          generalize qs[at1.toNat] = q0 at hq0 hqm
          obtain ⟨v0, hv0, hvr⟩ := paired_get hxsH hq0
          obtain ⟨hb1, hb2⟩ := IH.bd q0 hqm
          have eat : atI xsH at1 = some v0 := by
            have e : at1 = ((at1.toNat : Nat) : Int) := by omega
            rw [e]
            exact atI_nat hv0
          -- plan[at] = spoilt(row, guests, plan[at])
          refine ⟨.ref r, rfl, .int g, rfl, .ref l, rfl, .int at1, rfl, l, xsH, at1, v0, rfl, rfl, SqL.of hlH, eat, r, a, ns, g, v0, q0, 32 + k, 9 * 2 ^ k - 1, rfl, IH.row, hvr, hb1, hb2, by omega, ?_, fun v1 JI q1 RI sI hv1 hc1 hc2 => ?_⟩
          · rcases hk2 with rfl | rfl <;> decide
          have II := IH.keep RI sI
          obtain ⟨xsI, hlI, hxsI⟩ := id II.pl
          have hxlI := paired_len hxsI
          refine ⟨.ref l, rfl, .int at1, rfl, l, xsI, at1, at1.toNat, rfl, rfl, hlI, ixN_of f0 (by omega), ?_⟩
          refine ⟨_, _, qs.set at1.toNat q1, rfl, II.putL (paired_set at1.toNat hxsI hv1) (by rw [List.length_set]; exact hcnt) fun q2 hq2 => ?_, by rw [List.length_set]; exact hql⟩
          have h2 : 9 * 2 ^ (k + 1) - 1 = 2 * (9 * 2 ^ k - 1) + 1 := by rcases hk2 with rfl | rfl <;> rfl
          rw [h2]
          rcases List.mem_or_eq_of_mem_set hq2 with hq2 | rfl
          · obtain ⟨h3, h4⟩ := II.bd q2 hq2
            exact ⟨by omega, fun t ht => by have := h4 t ht; omega⟩
          · exact ⟨by omega, hc2⟩
        · obtain ⟨y7, y9, qs, rfl, IF, hql⟩ := hF
          have hNN : 9 * 2 ^ N - 1 ≤ 35 := by
            have : N = 0 ∨ N = 1 ∨ N = 2 := by omega
            rcases this with rfl | rfl | rfl <;> decide
          have IF : LawI K C JF r a p dx l ns g z qs 6 34 35 := IF.wide (Nat.le_refl _) (by omega) (by
            have e : ((N : Nat) : Int).toNat = N := by omega
            rw [e]
            exact hNN)
          obtain ⟨xs, hl, hxs⟩ := id IF.pl
          have hxl := paired_len hxs
          have hcnt := IF.cnt
          -- handed = list(plan)
          refine ⟨.ref l, rfl, l, xs, rfl, .inl (SqL.of hl), fun b1 nb1 => ?_⟩
          have sg : Same JF (upd JF b1 (.lst xs)) := same_new nb1
          have IG := IF.same sg
          have hb1 : (upd JF b1 (.lst xs)) b1 = some (.lst xs) := upd_same
          have hlG := sg _ _ hl
          have hxsG : Paired (RndV (upd JF b1 (.lst xs))) xs qs := paired_mono (fun _ _ h => h.mono (same_toT sg)) hxs
          generalize (upd JF b1 (.lst xs)) = JG at IG hb1 hlG hxsG ⊢
          -- alike(fault(party, handed), due(guests, size, plan))
          refine ⟨.ref p, rfl, .ref b1, rfl, p, b1, g, z, qs, rfl, ⟨dx, IG.pa⟩, hI, ⟨xs, SqL.of hb1, hxsG⟩, ⟨by omega, fun rd hr => ?_, fun rd hr t ht => ?_⟩, fun v1 JH vd sh hv hx => ?_⟩
          · have := (IG.bd rd hr).1
            omega
          · have := (IG.bd rd hr).2 t ht
            omega
          refine ⟨.int g, rfl, .int z, rfl, .ref l, rfl, g, z, l, qs, rfl, hI, ⟨xs, SqL.of (sh _ _ hlG), paired_mono (fun _ _ h => h.mono (same_toT sh)) hxsG⟩, by omega, fun rd hr => ⟨?_, fun t ht => ?_⟩, fun v2 JI vd' si hv' hx' => ?_⟩
          · have := (IG.bd rd hr).1
            omega
          · have := (IG.bd rd hr).2 t ht
            omega
          have ev : vd = vd' := hv.unique hv'
          subst ev
          refine ⟨v1, v2, rfl, verd_sam (verd_same hx si) hx', fun JJ sj => ⟨true, rfl, iteF ?_⟩⟩
          have sall := (sh.trans si).trans sj
          have hxsJ := paired_mono (fun _ _ h => h.mono (same_toT sall)) hxsG
          refine ⟨.ref b1, rfl, .ref l, rfl, .list (qs.map fun r => .tuple (r.map dT)), .list (qs.map fun r => .tuple (r.map dT)), dp_lst (fun _ _ h => dp_rnd h) (SqL.of (sall _ _ hb1)) hxsJ, dp_lst (fun _ _ h => dp_rnd h) (SqL.of (sall _ _ hlG)) hxsJ, shRnds _, shRnds _, ?_⟩
          have een : PyData.eqv (.list (qs.map fun r => .tuple (r.map dT))) (.list (qs.map fun r => .tuple (r.map dT))) = true := by
            simp only [PyData.eqv]
            exact eqvRnds.mpr rfl
          rw [een]
          exact ⟨_, rfl, iteF ⟨_, _, _, _, _, _, _, _, _, rfl, (IG.same sall).row⟩⟩
    · obtain ⟨y2, y3, y4, y5, y6, y7, y8, y9, y10, rfl, R2⟩ := hI2
      exact q _
end Nf

set_option Elab.async false
set_option linter.all false
set_option maxRecDepth 100000
set_option maxHeartbeats 4000000
namespace Nf
open PySem L2
/-! ### what the top has laid, the end -/
theorem all_mk {l : PySem.W.OpenLaw} {w : World} {K : PySem.W.Frag} {h : Heap} {mg : Str → Option Value} {fa C fX1 fX2 fX3 fX4 fX5 fX6 fM1 fM2 fM3 fM4 fL1 fL2 fL3 fL4 fL5 fL6 fL7 fL8 fL9 fL10 fL11 fL12 fL13 fL14 fZ : Addr} (X : K.In h) (G : h.Ns mainGlobals mg) (hfa : mg "law" = some (.ref fa))
    {odX1 anX1 odX2 anX2 odX3 anX3 odX4 anX4 odX5 anX5 odX6 anX6 odM1 anM1 odM2 anM2 odM3 anM3 odM4 anM4 odL1 anL1 odL2 anL2 odL3 anL3 odL4 anL4 odL5 anL5 odL6 anL6 odL7 anL7 odL8 anL8 odL9 anL9 odL10 anL10 odL11 anL11 odL12 anL12 odL13 anL13 odL14 anL14 odZ anZ : Option Addr} {slX1 slX2 slX3 slX4 slX5 slX6 slM1 slM2 slM3 slM4 slL1 slL2 slL3 slL4 slL5 slL6 slL7 slL8 slL9 slL10 slL11 slL12 slL13 slL14 slZ : Array (Option Value)} {ocX1 kVX1 dcX1 pmX1 cdX1 ctX1 ocX2 kVX2 dcX2 pmX2 cdX2 ctX2 ocX3 kVX3 dcX3 pmX3 cdX3 ctX3 ocX4 kVX4 dcX4 pmX4 cdX4 ctX4 ocX5 kVX5 dcX5 pmX5 cdX5 ctX5 ocX6 kVX6 dcX6 pmX6 cdX6 ctX6 ocM1 kVM1 dcM1 pmM1 cdM1 ctM1 ocM2 kVM2 dcM2 pmM2 cdM2 ctM2 ocM3 kVM3 dcM3 pmM3 cdM3 ctM3 ocM4 kVM4 dcM4 pmM4 cdM4 ctM4 ocL1 kVL1 dcL1 pmL1 cdL1 ctL1 ocL2 kVL2 dcL2 pmL2 cdL2 ctL2 ocL3 kVL3 dcL3 pmL3 cdL3 ctL3 ocL4 kVL4 dcL4 pmL4 cdL4 ctL4 ocL5 kVL5 dcL5 pmL5 cdL5 ctL5 ocL6 kVL6 dcL6 pmL6 cdL6 ctL6 ocL7 kVL7 dcL7 pmL7 cdL7 ctL7 ocL8 kVL8 dcL8 pmL8 cdL8 ctL8 ocL9 kVL9 dcL9 pmL9 cdL9 ctL9 ocL10 kVL10 dcL10 pmL10 cdL10 ctL10 ocL11 kVL11 dcL11 pmL11 cdL11 ctL11 ocL12 kVL12 dcL12 pmL12 cdL12 ctL12 ocL13 kVL13 dcL13 pmL13 cdL13 ctL13 ocL14 kVL14 dcL14 pmL14 cdL14 ctL14 ocZ kVZ dcZ pmZ cdZ ctZ : Value}
    (aC : PySem.W.nsIn K mainGlobals "Party" = some (some (.ref C)))
    (aX1 : PySem.W.nsIn K mainGlobals "fault" = some (some (.ref fX1)))
    (lX1 : K.lookup fX1 = some ⟨ocX1, odX1, .func (PySem.W.fnOf "fault" "fault" (defArgs sFault) (defBody sFault) (defScope sFault) .none kVX1 dcX1 pmX1 anX1 cdX1 ctX1), slX1⟩) (cX1 : PySem.W.codeIn K cdX1 "fault" = true) (kX1 : PySem.W.keepIn K (.ref fX1) = true)
    (aX2 : PySem.W.nsIn K mainGlobals "is_round" = some (some (.ref fX2)))
    (lX2 : K.lookup fX2 = some ⟨ocX2, odX2, .func (PySem.W.fnOf "is_round" "is_round" (defArgs sIsRound) (defBody sIsRound) (defScope sIsRound) .none kVX2 dcX2 pmX2 anX2 cdX2 ctX2), slX2⟩) (cX2 : PySem.W.codeIn K cdX2 "is_round" = true) (kX2 : PySem.W.keepIn K (.ref fX2) = true)
    (aX3 : PySem.W.nsIn K mainGlobals "is_table" = some (some (.ref fX3)))
    (lX3 : K.lookup fX3 = some ⟨ocX3, odX3, .func (PySem.W.fnOf "is_table" "is_table" (defArgs sIsTable) (defBody sIsTable) (defScope sIsTable) .none kVX3 dcX3 pmX3 anX3 cdX3 ctX3), slX3⟩) (cX3 : PySem.W.codeIn K cdX3 "is_table" = true) (kX3 : PySem.W.keepIn K (.ref fX3) = true)
    (aX4 : PySem.W.nsIn K mainGlobals "rises" = some (some (.ref fX4)))
    (lX4 : K.lookup fX4 = some ⟨ocX4, odX4, .func (PySem.W.fnOf "rises" "rises" (defArgs sRises) (defBody sRises) (defScope sRises) .none kVX4 dcX4 pmX4 anX4 cdX4 ctX4), slX4⟩) (cX4 : PySem.W.codeIn K cdX4 "rises" = true) (kX4 : PySem.W.keepIn K (.ref fX4) = true)
    (aX5 : PySem.W.nsIn K mainGlobals "pairs" = some (some (.ref fX5)))
    (lX5 : K.lookup fX5 = some ⟨ocX5, odX5, .func (PySem.W.fnOf "pairs" "pairs" (defArgs sPairs) (defBody sPairs) (defScope sPairs) .none kVX5 dcX5 pmX5 anX5 cdX5 ctX5), slX5⟩) (cX5 : PySem.W.codeIn K cdX5 "pairs" = true) (kX5 : PySem.W.keepIn K (.ref fX5) = true)
    (aX6 : PySem.W.nsIn K mainGlobals "is_party" = some (some (.ref fX6)))
    (lX6 : K.lookup fX6 = some ⟨ocX6, odX6, .func (PySem.W.fnOf "is_party" "is_party" (defArgs sIsParty) (defBody sIsParty) (defScope sIsParty) .none kVX6 dcX6 pmX6 anX6 cdX6 ctX6), slX6⟩) (cX6 : PySem.W.codeIn K cdX6 "is_party" = true) (kX6 : PySem.W.keepIn K (.ref fX6) = true)
    (aM1 : PySem.W.findIn K (.ref C) "__init__" = some (some (.ref fM1))) (iM1 : PySem.W.isFn K (.ref fM1) = true)
    (lM1 : K.lookup fM1 = some ⟨ocM1, odM1, .func (PySem.W.fnOf "__init__" "Party.__init__" (defArgs sInit) (defBody sInit) (defScope sInit) .none kVM1 dcM1 pmM1 anM1 cdM1 ctM1), slM1⟩) (cM1 : PySem.W.codeIn K cdM1 "Party.__init__" = true) (kM1 : PySem.W.keepIn K (.ref fM1) = true)
    (aM2 : PySem.W.findIn K (.ref C) "guests" = some (some (.ref fM2))) (iM2 : PySem.W.isFn K (.ref fM2) = true)
    (lM2 : K.lookup fM2 = some ⟨ocM2, odM2, .func (PySem.W.fnOf "guests" "Party.guests" (defArgs sGuests) (defBody sGuests) (defScope sGuests) .none kVM2 dcM2 pmM2 anM2 cdM2 ctM2), slM2⟩) (cM2 : PySem.W.codeIn K cdM2 "Party.guests" = true) (kM2 : PySem.W.keepIn K (.ref fM2) = true)
    (aM3 : PySem.W.findIn K (.ref C) "size" = some (some (.ref fM3))) (iM3 : PySem.W.isFn K (.ref fM3) = true)
    (lM3 : K.lookup fM3 = some ⟨ocM3, odM3, .func (PySem.W.fnOf "size" "Party.size" (defArgs sSize) (defBody sSize) (defScope sSize) .none kVM3 dcM3 pmM3 anM3 cdM3 ctM3), slM3⟩) (cM3 : PySem.W.codeIn K cdM3 "Party.size" = true) (kM3 : PySem.W.keepIn K (.ref fM3) = true)
    (aM4 : PySem.W.findIn K (.ref C) "tables" = some (some (.ref fM4))) (iM4 : PySem.W.isFn K (.ref fM4) = true)
    (lM4 : K.lookup fM4 = some ⟨ocM4, odM4, .func (PySem.W.fnOf "tables" "Party.tables" (defArgs sTables) (defBody sTables) (defScope sTables) .none kVM4 dcM4 pmM4 anM4 cdM4 ctM4), slM4⟩) (cM4 : PySem.W.codeIn K cdM4 "Party.tables" = true) (kM4 : PySem.W.keepIn K (.ref fM4) = true)
    (aL1 : PySem.W.nsIn K mainGlobals "_law_taken" = some (some (.ref fL1)))
    (lL1 : K.lookup fL1 = some ⟨ocL1, odL1, .func (PySem.W.fnOf "_law_taken" "_law_taken" (defArgs lTaken) (defBody lTaken) (defScope lTaken) .none kVL1 dcL1 pmL1 anL1 cdL1 ctL1), slL1⟩) (cL1 : PySem.W.codeIn K cdL1 "_law_taken" = true) (kL1 : PySem.W.keepIn K (.ref fL1) = true)
    (aL2 : PySem.W.nsIn K mainGlobals "_law_alike" = some (some (.ref fL2)))
    (lL2 : K.lookup fL2 = some ⟨ocL2, odL2, .func (PySem.W.fnOf "_law_alike" "_law_alike" (defArgs lAlike) (defBody lAlike) (defScope lAlike) .none kVL2 dcL2 pmL2 anL2 cdL2 ctL2), slL2⟩) (cL2 : PySem.W.codeIn K cdL2 "_law_alike" = true) (kL2 : PySem.W.keepIn K (.ref fL2) = true)
    (aL3 : PySem.W.nsIn K mainGlobals "_law_few" = some (some (.ref fL3)))
    (lL3 : K.lookup fL3 = some ⟨ocL3, odL3, .func (PySem.W.fnOf "_law_few" "_law_few" (defArgs lFew) (defBody lFew) (defScope lFew) .none kVL3 dcL3 pmL3 anL3 cdL3 ctL3), slL3⟩) (cL3 : PySem.W.codeIn K cdL3 "_law_few" = true) (kL3 : PySem.W.keepIn K (.ref fL3) = true)
    (aL4 : PySem.W.nsIn K mainGlobals "_law_many" = some (some (.ref fL4)))
    (lL4 : K.lookup fL4 = some ⟨ocL4, odL4, .func (PySem.W.fnOf "_law_many" "_law_many" (defArgs lMany) (defBody lMany) (defScope lMany) .none kVL4 dcL4 pmL4 anL4 cdL4 ctL4), slL4⟩) (cL4 : PySem.W.codeIn K cdL4 "_law_many" = true) (kL4 : PySem.W.keepIn K (.ref fL4) = true)
    (aL5 : PySem.W.nsIn K mainGlobals "_law_mixed" = some (some (.ref fL5)))
    (lL5 : K.lookup fL5 = some ⟨ocL5, odL5, .func (PySem.W.fnOf "_law_mixed" "_law_mixed" (defArgs lMixed) (defBody lMixed) (defScope lMixed) .none kVL5 dcL5 pmL5 anL5 cdL5 ctL5), slL5⟩) (cL5 : PySem.W.codeIn K cdL5 "_law_mixed" = true) (kL5 : PySem.W.keepIn K (.ref fL5) = true)
    (aL6 : PySem.W.nsIn K mainGlobals "_law_seated" = some (some (.ref fL6)))
    (lL6 : K.lookup fL6 = some ⟨ocL6, odL6, .func (PySem.W.fnOf "_law_seated" "_law_seated" (defArgs lSeated) (defBody lSeated) (defScope lSeated) .none kVL6 dcL6 pmL6 anL6 cdL6 ctL6), slL6⟩) (cL6 : PySem.W.codeIn K cdL6 "_law_seated" = true) (kL6 : PySem.W.keepIn K (.ref fL6) = true)
    (aL7 : PySem.W.nsIn K mainGlobals "_law_pairs" = some (some (.ref fL7)))
    (lL7 : K.lookup fL7 = some ⟨ocL7, odL7, .func (PySem.W.fnOf "_law_pairs" "_law_pairs" (defArgs lPairs) (defBody lPairs) (defScope lPairs) .none kVL7 dcL7 pmL7 anL7 cdL7 ctL7), slL7⟩) (cL7 : PySem.W.codeIn K cdL7 "_law_pairs" = true) (kL7 : PySem.W.keepIn K (.ref fL7) = true)
    (aL8 : PySem.W.nsIn K mainGlobals "_law_known" = some (some (.ref fL8)))
    (lL8 : K.lookup fL8 = some ⟨ocL8, odL8, .func (PySem.W.fnOf "_law_known" "_law_known" (defArgs lKnown) (defBody lKnown) (defScope lKnown) .none kVL8 dcL8 pmL8 anL8 cdL8 ctL8), slL8⟩) (cL8 : PySem.W.codeIn K cdL8 "_law_known" = true) (kL8 : PySem.W.keepIn K (.ref fL8) = true)
    (aL9 : PySem.W.nsIn K mainGlobals "_law_new" = some (some (.ref fL9)))
    (lL9 : K.lookup fL9 = some ⟨ocL9, odL9, .func (PySem.W.fnOf "_law_new" "_law_new" (defArgs lNew) (defBody lNew) (defScope lNew) .none kVL9 dcL9 pmL9 anL9 cdL9 ctL9), slL9⟩) (cL9 : PySem.W.codeIn K cdL9 "_law_new" = true) (kL9 : PySem.W.keepIn K (.ref fL9) = true)
    (aL10 : PySem.W.nsIn K mainGlobals "_law_thin" = some (some (.ref fL10)))
    (lL10 : K.lookup fL10 = some ⟨ocL10, odL10, .func (PySem.W.fnOf "_law_thin" "_law_thin" (defArgs lThin) (defBody lThin) (defScope lThin) .none kVL10 dcL10 pmL10 anL10 cdL10 ctL10), slL10⟩) (cL10 : PySem.W.codeIn K cdL10 "_law_thin" = true) (kL10 : PySem.W.keepIn K (.ref fL10) = true)
    (aL11 : PySem.W.nsIn K mainGlobals "_law_plan" = some (some (.ref fL11)))
    (lL11 : K.lookup fL11 = some ⟨ocL11, odL11, .func (PySem.W.fnOf "_law_plan" "_law_plan" (defArgs lPlan) (defBody lPlan) (defScope lPlan) .none kVL11 dcL11 pmL11 anL11 cdL11 ctL11), slL11⟩) (cL11 : PySem.W.codeIn K cdL11 "_law_plan" = true) (kL11 : PySem.W.keepIn K (.ref fL11) = true)
    (aL12 : PySem.W.nsIn K mainGlobals "_law_is_round" = some (some (.ref fL12)))
    (lL12 : K.lookup fL12 = some ⟨ocL12, odL12, .func (PySem.W.fnOf "_law_is_round" "_law_is_round" (defArgs lIsRound) (defBody lIsRound) (defScope lIsRound) .none kVL12 dcL12 pmL12 anL12 cdL12 ctL12), slL12⟩) (cL12 : PySem.W.codeIn K cdL12 "_law_is_round" = true) (kL12 : PySem.W.keepIn K (.ref fL12) = true)
    (aL13 : PySem.W.nsIn K mainGlobals "_law_spoilt" = some (some (.ref fL13)))
    (lL13 : K.lookup fL13 = some ⟨ocL13, odL13, .func (PySem.W.fnOf "_law_spoilt" "_law_spoilt" (defArgs lSpoilt) (defBody lSpoilt) (defScope lSpoilt) .none kVL13 dcL13 pmL13 anL13 cdL13 ctL13), slL13⟩) (cL13 : PySem.W.codeIn K cdL13 "_law_spoilt" = true) (kL13 : PySem.W.keepIn K (.ref fL13) = true)
    (aL14 : PySem.W.nsIn K mainGlobals "_law_due" = some (some (.ref fL14)))
    (lL14 : K.lookup fL14 = some ⟨ocL14, odL14, .func (PySem.W.fnOf "_law_due" "_law_due" (defArgs lDue) (defBody lDue) (defScope lDue) .none kVL14 dcL14 pmL14 anL14 cdL14 ctL14), slL14⟩) (cL14 : PySem.W.codeIn K cdL14 "_law_due" = true) (kL14 : PySem.W.keepIn K (.ref fL14) = true)
    (aZ : PySem.W.nsIn K mainGlobals "law" = some (some (.ref fZ)))
    (lZ : K.lookup fZ = some ⟨ocZ, odZ, .func (PySem.W.fnOf "law" "law" (defArgs lLaw) (defBody lLaw) (defScope lLaw) .none kVZ dcZ pmZ anZ cdZ ctZ), slZ⟩) (cZ : PySem.W.codeIn K cdZ "law" = true) (kZ : PySem.W.keepIn K (.ref fZ) = true)
    (pg : PySem.W.plainGet K C Str.empty = true) (hd : PySem.W.hasDictIn K C = true) (po : PySem.W.plainOver K C = true) (sa : PySem.W.findIn K (.ref C) "__setattr__" = some (some (.builtin "object.__setattr__"))) (mk : PySem.W.makesIn K C = true) (kc : PySem.W.keepIn K (.ref C) = true)
    (nM : PySem.W.findIn K (.ref C) "many" = some none) (nS : PySem.W.findIn K (.ref C) "seats" = some none)
    (zFG : ∃ t, PySem.W.nsIn K mainGlobals "FEWEST_GUESTS" = some (some (.int 2 t)))
    (zMO : ∃ t, PySem.W.nsIn K mainGlobals "MOST_GUESTS" = some (some (.int 64 t)))
    (zSS : ∃ t, PySem.W.nsIn K mainGlobals "SMALLEST_SIZE" = some (some (.int 2 t)))
    (zLS : ∃ t, PySem.W.nsIn K mainGlobals "LARGEST_SIZE" = some (some (.int 8 t)))
    (b_len : PySem.W.nsIn K mainGlobals "len" = some none)
    (b_all : PySem.W.nsIn K mainGlobals "all" = some none)
    (b_zip : PySem.W.nsIn K mainGlobals "zip" = some none)
    (b_set : PySem.W.nsIn K mainGlobals "set" = some none)
    (b_sorted : PySem.W.nsIn K mainGlobals "sorted" = some none)
    (b_enumerate : PySem.W.nsIn K mainGlobals "enumerate" = some none)
    (b_list : PySem.W.nsIn K mainGlobals "list" = some none)
    (b_tuple : PySem.W.nsIn K mainGlobals "tuple" = some none)
    (b_range : PySem.W.nsIn K mainGlobals "range" = some none)
    (b_isinstance : PySem.W.nsIn K mainGlobals "isinstance" = some none)
    (b_min : PySem.W.nsIn K mainGlobals "min" = some none)
    (b_max : PySem.W.nsIn K mainGlobals "max" = some none)
    (b_int : PySem.W.nsIn K mainGlobals "int" = some none)
    (b_bool : PySem.W.nsIn K mainGlobals "bool" = some none)
    (b_str : PySem.W.nsIn K mainGlobals "str" = some none) :
    ∃ fd : FuncData, (∀ (s : Shared) (v : Value), BindsTo s fd ⟨[v], []⟩ [("_law_script", v)]) ∧ ∀ base : Heap, K.In base → base.Ns mainGlobals mg → FnOk l.prog w K mg base CX0 5 fa fd ["_law_script"] (spLaw K) := by
  have e := hfa.symm.trans (PySem.W.mg_of X G aZ)
  cases e
  obtain ⟨tFG, zFG⟩ := zFG
  obtain ⟨tMO, zMO⟩ := zMO
  obtain ⟨tSS, zSS⟩ := zSS
  obtain ⟨tLS, zLS⟩ := zLS
  have T : Txt K mg C := ⟨⟨pg, hd, po, sa⟩, nM, nS, PySem.W.mg_of X G aC, ⟨tFG, PySem.W.mg_of X G zFG⟩, ⟨tMO, PySem.W.mg_of X G zMO⟩, ⟨tSS, PySem.W.mg_of X G zSS⟩, ⟨tLS, PySem.W.mg_of X G zLS⟩⟩
  have B : Blt mg := ⟨PySem.W.mg_none_of X G b_len, PySem.W.mg_none_of X G b_all, PySem.W.mg_none_of X G b_zip, PySem.W.mg_none_of X G b_set, PySem.W.mg_none_of X G b_sorted, PySem.W.mg_none_of X G b_enumerate, PySem.W.mg_none_of X G b_list, PySem.W.mg_none_of X G b_tuple, PySem.W.mg_none_of X G b_range, PySem.W.mg_none_of X G b_isinstance, PySem.W.mg_none_of X G b_min, PySem.W.mg_none_of X G b_max, PySem.W.mg_none_of X G b_int, PySem.W.mg_none_of X G b_bool, PySem.W.mg_none_of X G b_str⟩
  have FX1 := fun_mk (st := sFault) lX1 cX1 kX1
  have BX1 := FX1.binds (ps := ["party", "plan"]) fun _ _ _ _ _ _ us hl => match us, hl with | [_, _], _ => rfl
  have GX1 := PySem.W.mg_of X G aX1
  have FX2 := fun_mk (st := sIsRound) lX2 cX2 kX2
  have BX2 := FX2.binds (ps := ["party", "thing"]) fun _ _ _ _ _ _ us hl => match us, hl with | [_, _], _ => rfl
  have GX2 := PySem.W.mg_of X G aX2
  have FX3 := fun_mk (st := sIsTable) lX3 cX3 kX3
  have BX3 := FX3.binds (ps := ["party", "table"]) fun _ _ _ _ _ _ us hl => match us, hl with | [_, _], _ => rfl
  have GX3 := PySem.W.mg_of X G aX3
  have FX4 := fun_mk (st := sRises) lX4 cX4 kX4
  have BX4 := FX4.binds (ps := ["numbers"]) fun _ _ _ _ _ _ us hl => match us, hl with | [_], _ => rfl
  have GX4 := PySem.W.mg_of X G aX4
  have FX5 := fun_mk (st := sPairs) lX5 cX5 kX5
  have BX5 := FX5.binds (ps := ["tables"]) fun _ _ _ _ _ _ us hl => match us, hl with | [_], _ => rfl
  have GX5 := PySem.W.mg_of X G aX5
  have FX6 := fun_mk (st := sIsParty) lX6 cX6 kX6
  have BX6 := FX6.binds (ps := ["guests", "size"]) fun _ _ _ _ _ _ us hl => match us, hl with | [_, _], _ => rfl
  have GX6 := PySem.W.mg_of X G aX6
  have FM1 := fun_mk (st := sInit) lM1 cM1 kM1
  have BM1 := FM1.binds (ps := ["self", "guests", "size"]) fun _ _ _ _ _ _ us hl => match us, hl with | [_, _, _], _ => rfl
  have FM2 := fun_mk (st := sGuests) lM2 cM2 kM2
  have BM2 := FM2.binds (ps := ["self"]) fun _ _ _ _ _ _ us hl => match us, hl with | [_], _ => rfl
  have FM3 := fun_mk (st := sSize) lM3 cM3 kM3
  have BM3 := FM3.binds (ps := ["self"]) fun _ _ _ _ _ _ us hl => match us, hl with | [_], _ => rfl
  have FM4 := fun_mk (st := sTables) lM4 cM4 kM4
  have BM4 := FM4.binds (ps := ["self"]) fun _ _ _ _ _ _ us hl => match us, hl with | [_], _ => rfl
  have FL1 := fun_mk (st := lTaken) lL1 cL1 kL1
  have BL1 := FL1.binds (ps := ["_law_row", "_law_many_here"]) fun _ _ _ _ _ _ us hl => match us, hl with | [_, _], _ => rfl
  have GL1 := PySem.W.mg_of X G aL1
  have FL2 := fun_mk (st := lAlike) lL2 cL2 kL2
  have BL2 := FL2.binds (ps := ["_law_found", "_law_due_here"]) fun _ _ _ _ _ _ us hl => match us, hl with | [_, _], _ => rfl
  have GL2 := PySem.W.mg_of X G aL2
  have FL3 := fun_mk (st := lFew) lL3 cL3 kL3
  have BL3 := FL3.binds (ps := ["_law_row"]) fun _ _ _ _ _ _ us hl => match us, hl with | [_], _ => rfl
  have GL3 := PySem.W.mg_of X G aL3
  have FL4 := fun_mk (st := lMany) lL4 cL4 kL4
  have BL4 := FL4.binds (ps := ["_law_row"]) fun _ _ _ _ _ _ us hl => match us, hl with | [_], _ => rfl
  have GL4 := PySem.W.mg_of X G aL4
  have FL5 := fun_mk (st := lMixed) lL5 cL5 kL5
  have BL5 := FL5.binds (ps := ["_law_row", "_law_some"]) fun _ _ _ _ _ _ us hl => match us, hl with | [_, _], _ => rfl
  have GL5 := PySem.W.mg_of X G aL5
  have FL6 := fun_mk (st := lSeated) lL6 cL6 kL6
  have BL6 := FL6.binds (ps := ["_law_guests", "_law_size"]) fun _ _ _ _ _ _ us hl => match us, hl with | [_, _], _ => rfl
  have GL6 := PySem.W.mg_of X G aL6
  have FL7 := fun_mk (st := lPairs) lL7 cL7 kL7
  have BL7 := FL7.binds (ps := ["_law_tables"]) fun _ _ _ _ _ _ us hl => match us, hl with | [_], _ => rfl
  have GL7 := PySem.W.mg_of X G aL7
  have FL8 := fun_mk (st := lKnown) lL8 cL8 kL8
  have BL8 := FL8.binds (ps := ["_law_plan_here"]) fun _ _ _ _ _ _ us hl => match us, hl with | [_], _ => rfl
  have GL8 := PySem.W.mg_of X G aL8
  have FL9 := fun_mk (st := lNew) lL9 cL9 kL9
  have BL9 := FL9.binds (ps := ["_law_tables", "_law_plan_here"]) fun _ _ _ _ _ _ us hl => match us, hl with | [_, _], _ => rfl
  have GL9 := PySem.W.mg_of X G aL9
  have FL10 := fun_mk (st := lThin) lL10 cL10 kL10
  have BL10 := FL10.binds (ps := ["_law_row", "_law_tables"]) fun _ _ _ _ _ _ us hl => match us, hl with | [_, _], _ => rfl
  have GL10 := PySem.W.mg_of X G aL10
  have FL11 := fun_mk (st := lPlan) lL11 cL11 kL11
  have BL11 := FL11.binds (ps := ["_law_row", "_law_guests", "_law_size", "_law_most"]) fun _ _ _ _ _ _ us hl => match us, hl with | [_, _, _, _], _ => rfl
  have GL11 := PySem.W.mg_of X G aL11
  have FL12 := fun_mk (st := lIsRound) lL12 cL12 kL12
  have BL12 := FL12.binds (ps := ["_law_guests", "_law_size", "_law_tables"]) fun _ _ _ _ _ _ us hl => match us, hl with | [_, _, _], _ => rfl
  have GL12 := PySem.W.mg_of X G aL12
  have FL13 := fun_mk (st := lSpoilt) lL13 cL13 kL13
  have BL13 := FL13.binds (ps := ["_law_row", "_law_guests", "_law_tables"]) fun _ _ _ _ _ _ us hl => match us, hl with | [_, _, _], _ => rfl
  have GL13 := PySem.W.mg_of X G aL13
  have FL14 := fun_mk (st := lDue) lL14 cL14 kL14
  have BL14 := FL14.binds (ps := ["_law_guests", "_law_size", "_law_plan_here"]) fun _ _ _ _ _ _ us hl => match us, hl with | [_, _, _], _ => rfl
  have GL14 := PySem.W.mg_of X G aL14
  have FZ := fun_mk (st := lLaw) lZ cZ kZ
  refine ⟨PySem.W.fnOf "law" "law" (defArgs lLaw) (defBody lLaw) (defScope lLaw) .none kVZ dcZ pmZ anZ cdZ ctZ, fun s v => .of_eq rfl, fun base _ _ => ?_⟩
  have HF := ok_fault (P := l.prog) (w := w) (base := base) FX1 B (ok_isRound FX2 B T (ok_isTable FX3 B T FX4 BX4 GX4 FM2 BM2 ⟨aM2, iM2, kM2⟩ FM3 BM3 ⟨aM3, iM3, kM3⟩) FX3 BX3 GX3 FX4 BX4 GX4 FM4 BM4 ⟨aM4, iM4, kM4⟩) FX2 BX2 GX2 FX5 BX5 GX5
  exact ok_law FZ B T ⟨mk, aM1, iM1, kc⟩ (ok_init FM1 T FX6 BX6 GX6) BM1
    ⟨ok_taken FL1 B, kL1, BL1, GL1⟩ ⟨ok_alike FL2 B BL2 GL2, kL2, BL2, GL2⟩ ⟨ok_many FL4 B FL1 BL1 GL1 FL3 BL3 GL3, kL4, BL4, GL4⟩ ⟨ok_mixed FL5 B FL1 BL1 GL1, kL5, BL5, GL5⟩
    ⟨ok_seated FL6 B, kL6, BL6, GL6⟩ ⟨ok_thin FL10 B FL1 BL1 GL1, kL10, BL10, GL10⟩ ⟨ok_plan FL11 B FL1 BL1 GL1 FL5 BL5 GL5 FL6 BL6 GL6 FL10 BL10 GL10 FL9 BL9 GL9 FL7 BL7 GL7 FL8 BL8 GL8, kL11, BL11, GL11⟩
    ⟨ok_spoilt FL13 B FL1 BL1 GL1, kL13, BL13, GL13⟩ ⟨ok_due FL14 B FL12 BL12 GL12 FL7 BL7 GL7, kL14, BL14, GL14⟩ ⟨HF, kX1, BX1, GX1⟩
theorem walk {l : PySem.W.OpenLaw} {q : Program} {loose : List Str} {XP : (Str → Option Value) → Heap → Prop} {YP : World → Heap → Prop} {d : DefRec} {K : Params → PySem.W.Frag} (hn : l.most = some 63) (hdf : d.params.defaults = [])
    (hY : ∀ (w : World) (h : Heap), YP w h → (K w.params).In h)
    (F : ∀ (w : World) (mg : Str → Option Value) (fa : Addr) (h : Heap), (K w.params).In h → h.Ns mainGlobals mg → mg d.name = some (.ref fa) →
      ∃ fd : FuncData, (∀ (s : Shared) (u : Value), BindsTo s fd ⟨[u], []⟩ [("_law_script", u)]) ∧ ∀ base : Heap, (K w.params).In base → base.Ns mainGlobals mg → FnOk l.prog w (K w.params) mg base CX0 5 fa fd ["_law_script"] (spLaw (K w.params))) :
    PySem.W.WalkO q loose XP YP l.row.toRowW d [] (fun f vs => PySem.call f vs) :=
  L2.walk_of (n := 63) (k := 5) (x := "_law_script") (CX := fun _ => CX0) (sp := fun w => spLaw (K w.params)) hn (by decide) hdf ⟨rfl, by decide, by decide⟩ hY F (fun _ _ a ns hl _ hS => ⟨a, ns, rfl, hS, hl, fun _ => rfl⟩) fun _ _ _ _ _ z => z
end Nf

set_option Elab.async false
set_option maxRecDepth 100000
open PySem PySem.W PyProof.Rows in
set_option maxRecDepth 100000 in
set_option maxHeartbeats 0 in
theorem PySem.Challenge.cw_newfaces_k01_what_is_wrong_with_a_plan_holds : PySem.Challenge.rw_newfaces_k01_what_is_wrong_with_a_plan.Holds := by
  w_on; o_law; k_head; (case hw => w_witness2)
  k_fill
  refine Nf.walk (l := PySem.Challenge.rw_newfaces_k01_what_is_wrong_with_a_plan) rfl rfl (fun w h Y => PySem.W.kIn_of Y) ?F
  case F =>
    intro w mg fa h KX G hmg
    refine' Nf.all_mk KX G hmg ?aC ?aX1 ?lX1 ?cX1 ?kX1 ?aX2 ?lX2 ?cX2 ?kX2 ?aX3 ?lX3 ?cX3 ?kX3 ?aX4 ?lX4 ?cX4 ?kX4 ?aX5 ?lX5 ?cX5 ?kX5 ?aX6 ?lX6 ?cX6 ?kX6 ?aM1 ?iM1 ?lM1 ?cM1 ?kM1 ?aM2 ?iM2 ?lM2 ?cM2 ?kM2 ?aM3 ?iM3 ?lM3 ?cM3 ?kM3 ?aM4 ?iM4 ?lM4 ?cM4 ?kM4 ?aL1 ?lL1 ?cL1 ?kL1 ?aL2 ?lL2 ?cL2 ?kL2 ?aL3 ?lL3 ?cL3 ?kL3 ?aL4 ?lL4 ?cL4 ?kL4 ?aL5 ?lL5 ?cL5 ?kL5 ?aL6 ?lL6 ?cL6 ?kL6 ?aL7 ?lL7 ?cL7 ?kL7 ?aL8 ?lL8 ?cL8 ?kL8 ?aL9 ?lL9 ?cL9 ?kL9 ?aL10 ?lL10 ?cL10 ?kL10 ?aL11 ?lL11 ?cL11 ?kL11 ?aL12 ?lL12 ?cL12 ?kL12 ?aL13 ?lL13 ?cL13 ?kL13 ?aL14 ?lL14 ?cL14 ?kL14 ?aZ ?lZ ?cZ ?kZ ?pg ?hd ?po ?sa ?mk ?kc ?nM ?nS ?zFG ?zMO ?zSS ?zLS ?b_len ?b_all ?b_zip ?b_set ?b_sorted ?b_enumerate ?b_list ?b_tuple ?b_range ?b_isinstance ?b_min ?b_max ?b_int ?b_bool ?b_str
    (case aC => k_is)
    (case aX1 => k_is)
    (case lX1 => k_is)
    (case cX1 => k_is)
    (case kX1 => k_is)
    (case aX2 => k_is)
    (case lX2 => k_is)
    (case cX2 => k_is)
    (case kX2 => k_is)
    (case aX3 => k_is)
    (case lX3 => k_is)
    (case cX3 => k_is)
    (case kX3 => k_is)
    (case aX4 => k_is)
    (case lX4 => k_is)
    (case cX4 => k_is)
    (case kX4 => k_is)
    (case aX5 => k_is)
    (case lX5 => k_is)
    (case cX5 => k_is)
    (case kX5 => k_is)
    (case aX6 => k_is)
    (case lX6 => k_is)
    (case cX6 => k_is)
    (case kX6 => k_is)
    (case aM1 => k_is)
    (case iM1 => k_is)
    (case lM1 => k_is)
    (case cM1 => k_is)
    (case kM1 => k_is)
    (case aM2 => k_is)
    (case iM2 => k_is)
    (case lM2 => k_is)
    (case cM2 => k_is)
    (case kM2 => k_is)
    (case aM3 => k_is)
    (case iM3 => k_is)
    (case lM3 => k_is)
    (case cM3 => k_is)
    (case kM3 => k_is)
    (case aM4 => k_is)
    (case iM4 => k_is)
    (case lM4 => k_is)
    (case cM4 => k_is)
    (case kM4 => k_is)
    (case aL1 => k_is)
    (case lL1 => k_is)
    (case cL1 => k_is)
    (case kL1 => k_is)
    (case aL2 => k_is)
    (case lL2 => k_is)
    (case cL2 => k_is)
    (case kL2 => k_is)
    (case aL3 => k_is)
    (case lL3 => k_is)
    (case cL3 => k_is)
    (case kL3 => k_is)
    (case aL4 => k_is)
    (case lL4 => k_is)
    (case cL4 => k_is)
    (case kL4 => k_is)
    (case aL5 => k_is)
    (case lL5 => k_is)
    (case cL5 => k_is)
    (case kL5 => k_is)
    (case aL6 => k_is)
    (case lL6 => k_is)
    (case cL6 => k_is)
    (case kL6 => k_is)
    (case aL7 => k_is)
    (case lL7 => k_is)
    (case cL7 => k_is)
    (case kL7 => k_is)
    (case aL8 => k_is)
    (case lL8 => k_is)
    (case cL8 => k_is)
    (case kL8 => k_is)
    (case aL9 => k_is)
    (case lL9 => k_is)
    (case cL9 => k_is)
    (case kL9 => k_is)
    (case aL10 => k_is)
    (case lL10 => k_is)
    (case cL10 => k_is)
    (case kL10 => k_is)
    (case aL11 => k_is)
    (case lL11 => k_is)
    (case cL11 => k_is)
    (case kL11 => k_is)
    (case aL12 => k_is)
    (case lL12 => k_is)
    (case cL12 => k_is)
    (case kL12 => k_is)
    (case aL13 => k_is)
    (case lL13 => k_is)
    (case cL13 => k_is)
    (case kL13 => k_is)
    (case aL14 => k_is)
    (case lL14 => k_is)
    (case cL14 => k_is)
    (case kL14 => k_is)
    (case aZ => k_is)
    (case lZ => k_is)
    (case cZ => k_is)
    (case kZ => k_is)
    (case pg => k_is)
    (case hd => k_is)
    (case po => k_is)
    (case sa => k_is)
    (case mk => k_is)
    (case kc => k_is)
    (case nM => k_is)
    (case nS => k_is)
    (case zFG => exact ⟨_, by k_is⟩)
    (case zMO => exact ⟨_, by k_is⟩)
    (case zSS => exact ⟨_, by k_is⟩)
    (case zLS => exact ⟨_, by k_is⟩)
    (case b_len => k_is)
    (case b_all => k_is)
    (case b_zip => k_is)
    (case b_set => k_is)
    (case b_sorted => k_is)
    (case b_enumerate => k_is)
    (case b_list => k_is)
    (case b_tuple => k_is)
    (case b_range => k_is)
    (case b_isinstance => k_is)
    (case b_min => k_is)
    (case b_max => k_is)
    (case b_int => k_is)
    (case b_bool => k_is)
    (case b_str => k_is)

