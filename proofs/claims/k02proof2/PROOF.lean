import PyProof.Rows.All
import Wide.All
import OpenK.AllK
import Wide.FinOn
import HandS.ForMost
import HandS.Sort
import HandS.SortInts
import HandS.Conv
import HandS.Zip
import HandS.IsInst
import HandS.Deep
import HandS.Walk
import KE.SortData
import KE.GoesMore
import KE.GoesEnum
import HandS.TupAny
import HandS.Flow
import HandS.More
import HandS.Exc
import HandS.ExcInit
import HandS.ExcSuper
import HandS.WordsExc
import HandS.ForSpec
import HandS.FStr
import KE.KExcSuper
import KE.KSuper
import KE.KExcIs
import HandS.ExcIs
import HandS.CallSlots
import HandS.TryOnly
import PySem.Challenge.RW_newfaces_k02_who_has_met_whom
set_option autoImplicit false
/-! Rounds of tables: the mathematics. -/
namespace Nf
abbrev Tbl := List Int
abbrev Rnd := List Tbl

/-! ### lists -/
theorem dropCons {α : Type} {l : List α} {i : Nat} {x : α} (h : l[i]? = some x) : l.drop i = x :: l.drop (i + 1) := by
  obtain ⟨hi, e⟩ := List.getElem?_eq_some_iff.mp h
  rw [List.drop_eq_getElem_cons hi, e]
theorem takeSucc {α : Type} {l : List α} {i : Nat} {x : α} (h : l[i]? = some x) : l.take (i + 1) = l.take i ++ [x] := by
  rw [List.take_add_one, h]
  rfl

/-! ### pairs -/
def pairsT : Tbl → List (Int × Int)
  | [] => []
  | a :: t => t.map (fun b => (a, b)) ++ pairsT t
def pairsR (r : Rnd) : List (Int × Int) := r.flatMap pairsT
theorem pairsT_len : ∀ t : Tbl, (pairsT t).length ≤ t.length * t.length
  | [] => Nat.le_refl _
  | a :: t => by
    have := pairsT_len t
    simp only [pairsT, List.length_append, List.length_map, List.length_cons]
    have e : (t.length + 1) * (t.length + 1) = t.length * t.length + 2 * t.length + 1 := by
      simp only [Nat.add_mul, Nat.mul_add]
      omega
    omega
theorem mem_pairsT : ∀ {t : Tbl} {p : Int × Int}, p ∈ pairsT t → p.1 ∈ t ∧ p.2 ∈ t
  | [], _, h => by simp [pairsT] at h
  | a :: t, p, h => by
    simp only [pairsT, List.mem_append, List.mem_map] at h
    rcases h with ⟨b, hb, rfl⟩ | h
    · exact ⟨by simp, by simp [hb]⟩
    · exact ⟨List.mem_cons_of_mem _ (mem_pairsT h).1, List.mem_cons_of_mem _ (mem_pairsT h).2⟩

/-! ### order of tables, of pairs -/
def leI (a b : Int) : Bool := decide (a ≤ b)
def leT (a b : Tbl) : Bool := decide (a ≤ b)
theorem leI_trans (a b c : Int) (h : leI a b = true) (h' : leI b c = true) : leI a c = true := by
  simp only [leI, decide_eq_true_eq] at *
  omega
theorem leI_total (a b : Int) : (leI a b || leI b a) = true := by
  simp only [leI, Bool.or_eq_true, decide_eq_true_eq]
  omega
theorem leT_trans (a b c : Tbl) (h : leT a b = true) (h' : leT b c = true) : leT a c = true := by
  simp only [leT, decide_eq_true_eq] at *
  exact List.le_trans h h'
theorem leT_total (a b : Tbl) : (leT a b || leT b a) = true := by
  simp only [leT, Bool.or_eq_true, decide_eq_true_eq]
  exact List.le_total a b
def sortI (t : Tbl) : Tbl := t.mergeSort leI
def sortT (r : Rnd) : Rnd := r.mergeSort leT
theorem sortI_perm (t : Tbl) : (sortI t).Perm t := List.mergeSort_perm _ _
theorem sortT_perm (r : Rnd) : (sortT r).Perm r := List.mergeSort_perm _ _
theorem sortI_up (t : Tbl) : (sortI t).Pairwise (· ≤ ·) := (List.pairwise_mergeSort leI_trans leI_total t).imp fun h => of_decide_eq_true h
theorem sortT_up (r : Rnd) : (sortT r).Pairwise (· ≤ ·) := (List.pairwise_mergeSort leT_trans leT_total r).imp fun h => of_decide_eq_true h
theorem sortI_iff (t : Tbl) : t = sortI t ↔ t.Pairwise (· ≤ ·) := by
  constructor
  · intro h
    rw [h]
    exact sortI_up t
  · intro h
    exact (List.mergeSort_of_pairwise (h.imp fun q => decide_eq_true q)).symm
theorem sortT_iff (r : Rnd) : r = sortT r ↔ r.Pairwise (· ≤ ·) := by
  constructor
  · intro h
    rw [h]
    exact sortT_up r
  · intro h
    exact (List.mergeSort_of_pairwise (h.imp fun q => decide_eq_true q)).symm

/-! ### rounds -/
structure IsRound (g s : Int) (r : Rnd) : Prop where
  sz : ∀ t ∈ r, 1 ≤ t.length ∧ (t.length : Int) ≤ s
  up : ∀ t ∈ r, t.Pairwise (· ≤ ·)
  lo : ∀ x ∈ r.flatten, 0 ≤ x ∧ x < g
  nd : r.flatten.Nodup
  ct : (r.length : Int) ≤ g / s
  ord : r.Pairwise (· ≤ ·)

def rises (t : Tbl) : Bool := (t.zip (t.drop 1)).all fun p => decide (p.1 < p.2)
theorem rises_iff : ∀ t : Tbl, rises t = true ↔ t.Pairwise (· < ·)
  | [] => by simp [rises]
  | [a] => by simp [rises]
  | a :: b :: t => by
    have ih := rises_iff (b :: t)
    have e : rises (a :: b :: t) = (decide (a < b) && rises (b :: t)) := by
      simp [rises]
    rw [e, Bool.and_eq_true, ih, decide_eq_true_eq, List.pairwise_cons (a := a)]
    constructor
    · rintro ⟨h, q⟩
      refine ⟨fun x hx => ?_, q⟩
      rcases List.mem_cons.mp hx with rfl | hx
      · exact h
      · have := (List.pairwise_cons.mp q).1 x hx
        omega
    · rintro ⟨h, q⟩
      exact ⟨h b (by simp), q⟩

theorem up_strict {t : Tbl} (h : t.Pairwise (· ≤ ·)) (n : t.Nodup) : t.Pairwise (· < ·) :=
  List.Pairwise.imp₂ (fun a b (h1 : a ≤ b) (h2 : a ≠ b) => by omega) h n
theorem strict_up {t : Tbl} (h : t.Pairwise (· < ·)) : t.Pairwise (· ≤ ·) := h.imp fun q => by omega

/-- the program's own test of a table -/
structure IsTable (g s : Int) (t : Tbl) : Prop where
  sz : 1 ≤ t.length ∧ (t.length : Int) ≤ s
  up : t.Pairwise (· < ·)
  lo : 0 ≤ t.headD 0
  hi : t.getLastD 0 < g
theorem last_top : ∀ {t : Tbl}, t.Pairwise (· ≤ ·) → ∀ x ∈ t, x ≤ t.getLastD 0
  | [], _, x, h => by simp at h
  | [a], _, x, h => by
    have e : x = a := by simpa using h
    subst e
    simp
  | a :: b :: t, h, x, hx => by
    have ih := last_top (t := b :: t) (List.pairwise_cons.mp h).2
    have e : (a :: b :: t).getLastD 0 = (b :: t).getLastD 0 := by simp [List.getLastD]
    rw [e]
    rcases List.mem_cons.mp hx with rfl | hx
    · have h1 := (List.pairwise_cons.mp h).1 b (by simp)
      have h2 := ih b (by simp)
      omega
    · exact ih x hx
theorem head_low : ∀ {t : Tbl}, t.Pairwise (· ≤ ·) → ∀ x ∈ t, t.headD 0 ≤ x
  | [], _, x, h => by simp at h
  | a :: t, h, x, hx => by
    show a ≤ x
    rcases List.mem_cons.mp hx with rfl | hx
    · exact Int.le_refl _
    · exact (List.pairwise_cons.mp h).1 x hx
theorem head_mem : ∀ {t : Tbl}, 1 ≤ t.length → t.headD 0 ∈ t
  | [], h => by simp at h
  | a :: t, _ => by simp
theorem last_mem : ∀ {t : Tbl}, 1 ≤ t.length → t.getLastD 0 ∈ t
  | [], h => by simp at h
  | [a], _ => by simp
  | a :: b :: t, _ => by
    have := last_mem (t := b :: t) (by simp)
    have e : (a :: b :: t).getLastD 0 = (b :: t).getLastD 0 := by simp [List.getLastD]
    rw [e]
    exact List.mem_cons_of_mem _ this
theorem IsTable.range {g s : Int} {t : Tbl} (h : IsTable g s t) : ∀ x ∈ t, 0 ≤ x ∧ x < g := fun x hx =>
  ⟨Int.le_trans h.lo (head_low (strict_up h.up) x hx), Int.lt_of_le_of_lt (last_top (strict_up h.up) x hx) h.hi⟩

theorem le_of_head {a b : Tbl} (ha : 1 ≤ a.length) (hb : 1 ≤ b.length) (h : a.headD 0 < b.headD 0) : a ≤ b := by
  cases a with
  | nil => simp at ha
  | cons x a =>
    cases b with
    | nil => simp at hb
    | cons y b => exact List.cons_le_cons_iff.mpr (.inl h)
theorem head_of_le {a b : Tbl} (ha : 1 ≤ a.length) (hb : 1 ≤ b.length) (h : a ≤ b) (d : ∀ x ∈ a, x ∉ b) : a.headD 0 < b.headD 0 := by
  cases a with
  | nil => simp at ha
  | cons x a =>
    cases b with
    | nil => simp at hb
    | cons y b =>
      rcases List.cons_le_cons_iff.mp h with h | ⟨rfl, _⟩
      · exact h
      · exact absurd List.mem_cons_self (d x List.mem_cons_self)

theorem flat_disjoint {r : Rnd} (h : r.flatten.Nodup) : r.Pairwise (fun a b => ∀ x ∈ a, x ∉ b) :=
  (List.pairwise_flatten.mp h).2.imp fun q x hx hy => q x hx x hy rfl
theorem flat_each {r : Rnd} (h : r.flatten.Nodup) : ∀ t ∈ r, t.Nodup := (List.pairwise_flatten.mp h).1

theorem pw_mem {α : Type} {R S : α → α → Prop} {l : List α} (h : l.Pairwise R) (q : ∀ a ∈ l, ∀ b ∈ l, R a b → S a b) : l.Pairwise S := by
  induction l with
  | nil => exact .nil
  | cons x l ih =>
    obtain ⟨h1, h2⟩ := List.pairwise_cons.mp h
    exact List.pairwise_cons.mpr ⟨fun y hy => q x (by simp) y (by simp [hy]) (h1 y hy), ih h2 fun a ha b hb => q a (by simp [ha]) b (by simp [hb])⟩

/-- the program's own test of a round -/
theorem isRound_iff {g s : Int} {r : Rnd} : IsRound g s r ↔ ((r.length : Int) ≤ g / s ∧ (∀ t ∈ r, IsTable g s t) ∧ r.flatten.Nodup ∧ (r.map (·.headD 0)).Pairwise (· < ·)) := by
  constructor
  · intro h
    refine ⟨h.ct, fun t ht => ?_, h.nd, ?_⟩
    · have l1 := h.sz t ht
      have m : ∀ x ∈ t, x ∈ r.flatten := fun x hx => List.mem_flatten.mpr ⟨t, ht, hx⟩
      exact ⟨l1, up_strict (h.up t ht) (flat_each h.nd t ht), (h.lo _ (m _ (head_mem l1.1))).1, (h.lo _ (m _ (last_mem l1.1))).2⟩
    · rw [List.pairwise_map]
      exact pw_mem (List.Pairwise.imp₂ (fun a b (p : a ≤ b) (q : ∀ x ∈ a, x ∉ b) => And.intro p q) h.ord (flat_disjoint h.nd)) fun a ha b hb q =>
        head_of_le (h.sz a ha).1 (h.sz b hb).1 q.1 q.2
  · rintro ⟨h1, h2, h3, h4⟩
    refine ⟨fun t ht => (h2 t ht).sz, fun t ht => strict_up (h2 t ht).up, fun x hx => ?_, h3, h1, ?_⟩
    · obtain ⟨t, ht, hxt⟩ := List.mem_flatten.mp hx
      exact (h2 t ht).range x hxt
    · rw [List.pairwise_map] at h4
      exact pw_mem h4 fun a ha b hb q => le_of_head (h2 a ha).sz.1 (h2 b hb).sz.1 q

theorem sum_le {r : Rnd} {s : Int} (h : ∀ t ∈ r, (t.length : Int) ≤ s) : (r.flatten.length : Int) ≤ r.length * s := by
  induction r with
  | nil => simp
  | cons t r ih =>
    have h1 := h t (by simp)
    have h2 := ih fun t ht => h t (by simp [ht])
    simp only [List.flatten_cons, List.length_append, List.length_cons]
    have e : ((r.length + 1 : Nat) : Int) * s = (r.length : Int) * s + s := by
      rw [Int.natCast_add, Int.add_mul]
      simp
    rw [e]
    omega

/-! ### what is wrong with a plan -/
inductive Verd where
  | good
  | rnd (k : Nat)
  | twice (a b : Int) (j k : Nat)
abbrev Known := Int → Int → Option Nat
open Classical in
noncomputable def kadd (kn : Known) (r : Rnd) (k : Nat) : Known := fun a b => if (a, b) ∈ pairsR r then some k else kn a b
def k0 : Known := fun _ _ => none
inductive IsV (g s : Int) : List Rnd → Known → Nat → Verd → Prop where
  | nil {kn : Known} {k : Nat} : IsV g s [] kn k .good
  | bad {r : Rnd} {rs : List Rnd} {kn : Known} {k : Nat} : ¬ IsRound g s r → IsV g s (r :: rs) kn k (.rnd k)
  | twice {r : Rnd} {rs : List Rnd} {kn : Known} {k j : Nat} {a b : Int} : IsRound g s r → (a, b) ∈ pairsR r → kn a b = some j →
      (∀ c d, (c, d) ∈ pairsR r → kn c d ≠ none → a < c ∨ (a = c ∧ b ≤ d)) → IsV g s (r :: rs) kn k (.twice a b j k)
  | next {r : Rnd} {rs : List Rnd} {kn : Known} {k : Nat} {v : Verd} : IsRound g s r → (∀ c d, (c, d) ∈ pairsR r → kn c d = none) →
      IsV g s rs (kadd kn r k) (k + 1) v → IsV g s (r :: rs) kn k v
theorem IsV.unique {g s : Int} : ∀ {rs : List Rnd} {kn : Known} {k : Nat} {v v' : Verd}, IsV g s rs kn k v → IsV g s rs kn k v' → v = v'
  | _, _, _, _, _, .nil, .nil => rfl
  | _, _, _, _, _, .bad _, .bad _ => rfl
  | _, _, _, _, _, .bad h, .twice h' _ _ _ => absurd h' h
  | _, _, _, _, _, .bad h, .next h' _ _ => absurd h' h
  | _, _, _, _, _, .twice h' _ _ _, .bad h => absurd h' h
  | _, _, _, _, _, .next h' _ _, .bad h => absurd h' h
  | _, _, _, _, _, .twice (a := a) (b := b) _ m e l, .twice (a := a') (b := b') _ m' e' l' => by
    have q := l _ _ m' (by rw [e']; exact Option.some_ne_none _)
    have q' := l' _ _ m (by rw [e]; exact Option.some_ne_none _)
    have ea : a = a' := by omega
    subst ea
    have eb : b = b' := by omega
    subst eb
    rw [e] at e'
    cases e'
    rfl
  | _, _, _, _, _, .twice _ m e _, .next _ n _ => by
    rw [n _ _ m] at e
    cases e
  | _, _, _, _, _, .next _ n _, .twice _ m e _ => by
    rw [n _ _ m] at e
    cases e
  | _, _, _, _, _, .next _ _ q, .next _ _ q' => q.unique q'

/-- no two sit together twice -/
structure GoodP (g s : Int) (plan : List Rnd) : Prop where
  rd : ∀ r ∈ plan, IsRound g s r
  np : plan.Pairwise (fun r r' => ∀ p ∈ pairsR r, p ∉ pairsR r')
theorem GoodP.nil {g s : Int} : GoodP g s [] := ⟨fun _ h => by simp at h, .nil⟩
theorem GoodP.snoc {g s : Int} {plan : List Rnd} {r : Rnd} (h : GoodP g s plan) (hr : IsRound g s r) (hn : ∀ p ∈ pairsR r, ∀ q ∈ plan, p ∉ pairsR q) : GoodP g s (plan ++ [r]) := by
  refine ⟨fun q hq => ?_, ?_⟩
  · rcases List.mem_append.mp hq with hq | hq
    · exact h.rd q hq
    · rw [List.mem_singleton.mp hq]
      exact hr
  · refine List.pairwise_append.mpr ⟨h.np, by simp, fun a ha b hb p hp hq => ?_⟩
    rw [List.mem_singleton.mp hb] at hq
    exact hn p hq a ha hp
theorem GoodP.isV {g s : Int} : ∀ {plan : List Rnd} {kn : Known} {k : Nat}, GoodP g s plan → (∀ r ∈ plan, ∀ p ∈ pairsR r, kn p.1 p.2 = none) → IsV g s plan kn k .good
  | [], _, _, _, _ => .nil
  | r :: rs, kn, k, h, e => by
    obtain ⟨h1, h2⟩ := List.pairwise_cons.mp h.np
    refine .next (h.rd r (by simp)) (fun c d m => e r (by simp) (c, d) m) (GoodP.isV ⟨fun q hq => h.rd q (by simp [hq]), h2⟩ fun q hq p hp => ?_)
    unfold kadd
    rw [if_neg fun z => h1 q hq _ z hp]
    exact e q (by simp [hq]) p hp

/-! ### rounds that are drawn -/
theorem chunk_flat (l : List Int) (s : Nat) : ∀ n : Nat, ((List.range n).map fun i => (l.drop (i * s)).take s).flatten = l.take (n * s)
  | 0 => by simp
  | n + 1 => by
    rw [List.range_succ, List.map_append, List.flatten_append, chunk_flat l s n]
    simp only [List.map_cons, List.map_nil, List.flatten_cons, List.flatten_nil, List.append_nil]
    rw [Nat.add_mul, Nat.one_mul, List.take_add]
theorem map_perm_flat {α : Type} (f g : α → List Int) : ∀ l : List α, (∀ x ∈ l, (f x).Perm (g x)) → ((l.map f).flatten).Perm ((l.map g).flatten)
  | [], _ => .refl _
  | x :: l, h => by
    simp only [List.map_cons, List.flatten_cons]
    exact (h x (by simp)).append (map_perm_flat f g l fun y hy => h y (by simp [hy]))
def rangeI (g : Nat) : List Int := (List.range g).map fun i : Nat => (i : Int)
theorem mem_rangeI {g : Nat} {x : Int} : x ∈ rangeI g ↔ 0 ≤ x ∧ x < g := by
  unfold rangeI
  constructor
  · intro h
    obtain ⟨i, hi, rfl⟩ := List.mem_map.mp h
    have := List.mem_range.mp hi
    omega
  · rintro ⟨h1, h2⟩
    exact List.mem_map.mpr ⟨x.toNat, List.mem_range.mpr (by omega), by omega⟩
theorem rangeI_nodup (g : Nat) : (rangeI g).Nodup := by
  unfold rangeI
  unfold List.Nodup
  rw [List.pairwise_map]
  exact (List.nodup_range (n := g)).imp fun h e => h (by omega)
theorem rangeI_len (g : Nat) : (rangeI g).length = g := by simp [rangeI]

/-- a round by its facts, its tables sorted -/
theorem isRound_sort {g s : Int} {r : Rnd} (sz : ∀ t ∈ r, 1 ≤ t.length ∧ (t.length : Int) ≤ s) (up : ∀ t ∈ r, t.Pairwise (· ≤ ·)) (lo : ∀ x ∈ r.flatten, 0 ≤ x ∧ x < g) (nd : r.flatten.Nodup) (ct : (r.length : Int) ≤ g / s) : IsRound g s (sortT r) := by
  have p := sortT_perm r
  refine ⟨fun t ht => sz t (p.mem_iff.mp ht), fun t ht => up t (p.mem_iff.mp ht), fun x hx => lo x (p.flatten.mem_iff.mp hx), p.flatten.nodup_iff.mpr nd, ?_, sortT_up r⟩
  rw [p.length_eq]
  exact ct

/-- seated: chunks, each sorted, the tables sorted -/
def seatedM (l : List Int) (s n : Nat) : Rnd := sortT ((List.range n).map fun i => sortI ((l.drop (i * s)).take s))
theorem seated_len (l : List Int) (s n : Nat) : (seatedM l s n).length = n := by
  unfold seatedM
  rw [(sortT_perm _).length_eq]
  simp
theorem seated_flat {l : List Int} {s n : Nat} (hl : l.length = n * s) : (seatedM l s n).flatten.Perm l := by
  refine ((sortT_perm _).flatten).trans ((map_perm_flat _ (fun i => (l.drop (i * s)).take s) _ fun i _ => sortI_perm _).trans ?_)
  rw [chunk_flat, List.take_of_length_le (by omega)]
theorem seated_each {l : List Int} {s n : Nat} (hl : l.length = n * s) : ∀ t ∈ seatedM l s n, t.length = s ∧ t.Pairwise (· ≤ ·) := fun t ht => by
  obtain ⟨i, hi, rfl⟩ := List.mem_map.mp ((sortT_perm _).mem_iff.mp ht)
  refine ⟨?_, sortI_up _⟩
  have hi := List.mem_range.mp hi
  rw [(sortI_perm _).length_eq, List.length_take, List.length_drop, hl]
  have e : (i + 1) * s ≤ n * s := Nat.mul_le_mul_right s hi
  rw [Nat.add_mul, Nat.one_mul] at e
  omega
theorem seated_round {l : List Int} {s n : Nat} (hp : l.Perm (rangeI (n * s))) (hs : 1 ≤ s) : IsRound ((n * s : Nat) : Int) s (seatedM l s n) := by
  have hl : l.length = n * s := by rw [hp.length_eq, rangeI_len]
  have fl := (seated_flat (s := s) hl).trans hp
  refine ⟨fun t ht => ?_, fun t ht => (seated_each hl t ht).2, fun x hx => ?_, fl.nodup_iff.mpr (rangeI_nodup _), ?_, sortT_up _⟩
  · rw [(seated_each hl t ht).1]
    exact ⟨hs, Int.le_refl _⟩
  · exact mem_rangeI.mp (fl.mem_iff.mp hx)
  · rw [seated_len]
    have : ((n * s : Nat) : Int) / (s : Int) = n := by
      rw [Int.natCast_mul]
      exact Int.mul_ediv_cancel _ (by omega)
    omega

/-- some of a round's guests are away -/
structure Thin (r f : Rnd) (i : Nat) : Prop where
  fl : f.flatten.Sublist (r.take i).flatten
  ct : f.length ≤ i
  each : ∀ t ∈ f, t ≠ [] ∧ ∃ u ∈ r, t.Sublist u
theorem Thin.zero (r : Rnd) : Thin r [] 0 := ⟨by simp, Nat.le_refl _, fun _ h => by simp at h⟩
theorem Thin.skip {r f : Rnd} {i : Nat} (h : Thin r f i) : Thin r f (i + 1) := by
  refine ⟨h.fl.trans ?_, Nat.le_succ_of_le h.ct, h.each⟩
  rw [List.take_add, List.flatten_append]
  exact List.sublist_append_left _ _
theorem Thin.add {r f : Rnd} {i : Nat} {t u : Tbl} (h : Thin r f i) (hu : r[i]? = some u) (ht : t.Sublist u) (hn : t ≠ []) : Thin r (f ++ [t]) (i + 1) := by
  refine ⟨?_, ?_, fun x hx => ?_⟩
  · rw [takeSucc hu, List.flatten_append, List.flatten_append]
    exact h.fl.append (by simpa using ht)
  · rw [List.length_append]
    exact Nat.succ_le_succ h.ct
  · rcases List.mem_append.mp hx with hx | hx
    · exact h.each x hx
    · rw [List.mem_singleton.mp hx]
      exact ⟨hn, u, List.mem_of_getElem? hu, ht⟩
theorem Thin.round {g s : Int} {r f : Rnd} (h : Thin r f r.length) (hr : IsRound g s r) : IsRound g s (sortT f) := by
  have fl : f.flatten.Sublist r.flatten := by
    have := h.fl
    rwa [List.take_of_length_le (Nat.le_refl _)] at this
  refine isRound_sort (fun t ht => ?_) (fun t ht => ?_) (fun x hx => hr.lo x (fl.subset hx)) (hr.nd.sublist fl) ?_
  · obtain ⟨hn, u, hu, hs⟩ := h.each t ht
    refine ⟨List.length_pos_iff.mpr hn, ?_⟩
    have := hs.length_le
    have := (hr.sz u hu).2
    omega
  · obtain ⟨hn, u, hu, hs⟩ := h.each t ht
    exact (hr.up u hu).sublist hs
  · have := h.ct
    have := hr.ct
    omega
end Nf
namespace Nf
/-! ### pairs in order -/
def leP (p q : Int × Int) : Bool := decide (p.1 < q.1 ∨ (p.1 = q.1 ∧ p.2 ≤ q.2))
def sortP (ps : List (Int × Int)) : List (Int × Int) := ps.mergeSort leP
theorem leP_trans (a b c : Int × Int) (h : leP a b = true) (h' : leP b c = true) : leP a c = true := by
  simp only [leP, decide_eq_true_eq] at *
  omega
theorem leP_total (a b : Int × Int) : (leP a b || leP b a) = true := by
  simp only [leP, Bool.or_eq_true, decide_eq_true_eq]
  omega
theorem sortP_perm (ps : List (Int × Int)) : (sortP ps).Perm ps := List.mergeSort_perm _ _
theorem sortP_up (ps : List (Int × Int)) : (sortP ps).Pairwise (fun p q => p.1 < q.1 ∨ (p.1 = q.1 ∧ p.2 ≤ q.2)) := (List.pairwise_mergeSort leP_trans leP_total ps).imp fun h => of_decide_eq_true h
theorem pairsT_drop {t : Tbl} {j : Nat} {a : Int} (h : t[j]? = some a) : pairsT (t.drop j) = (t.drop (j + 1)).map (fun b => (a, b)) ++ pairsT (t.drop (j + 1)) := by
  rw [dropCons h]
  rfl
theorem pairsR_drop {r : Rnd} {i : Nat} {t : Tbl} (h : r[i]? = some t) : pairsR (r.drop i) = pairsT t ++ pairsR (r.drop (i + 1)) := by
  rw [dropCons h]
  rfl
end Nf
namespace Nf
theorem pairsR_len : ∀ r : Rnd, (pairsR r).length ≤ r.flatten.length * r.flatten.length
  | [] => Nat.le_refl _
  | t :: r => by
    have h1 := pairsR_len r
    have h2 := pairsT_len t
    show (pairsT t ++ pairsR r).length ≤ _
    rw [List.length_append, List.flatten_cons, List.length_append, Nat.add_mul, Nat.mul_add, Nat.mul_add]
    omega
theorem IsRound.flat64 {g s : Int} {r : Rnd} (h : IsRound g s r) (hs : 0 < s) : (r.flatten.length : Int) ≤ g := by
  have e1 := sum_le (fun t ht => (h.sz t ht).2)
  have e2 : (r.length : Int) * s ≤ g / s * s := Int.mul_le_mul_of_nonneg_right h.ct (by omega)
  have e3 : g / s * s ≤ g := Int.ediv_mul_le g (by omega)
  omega
theorem IsRound.pairs_le {g s : Int} {r : Rnd} (h : IsRound g s r) (hs : 0 < s) (hg : g ≤ 64) : (pairsR r).length ≤ 4096 := by
  have h1 := pairsR_len r
  have h2 : r.flatten.length ≤ 64 := by
    have := h.flat64 hs
    omega
  have h3 : r.flatten.length * r.flatten.length ≤ 64 * 64 := Nat.mul_le_mul h2 h2
  omega
open Classical in
noncomputable def kaddL (kn : Known) (l : List (Int × Int)) (k : Nat) : Known := fun a b => if (a, b) ∈ l then some k else kn a b
theorem kaddL_nil (kn : Known) (k : Nat) : kaddL kn [] k = kn := by
  funext a b
  simp [kaddL]
theorem kaddL_snoc (kn : Known) (l : List (Int × Int)) (k : Nat) (x y a b : Int) : kaddL kn (l ++ [(x, y)]) k a b = if a = x ∧ b = y then some k else kaddL kn l k a b := by
  unfold kaddL
  by_cases h : a = x ∧ b = y
  · obtain ⟨rfl, rfl⟩ := h
    simp
  · have e : ((a, b) ∈ l ++ [(x, y)]) ↔ (a, b) ∈ l := by
      simp only [List.mem_append, List.mem_singleton, Prod.mk.injEq]
      constructor
      · rintro (z | z)
        · exact z
        · exact absurd z h
      · exact fun z => .inl z
    rw [if_neg h]
    by_cases hm : (a, b) ∈ l
    · rw [if_pos hm, if_pos (e.mpr hm)]
    · rw [if_neg hm, if_neg (fun z => hm (e.mp z))]
theorem kaddL_perm {kn : Known} {l : List (Int × Int)} {r : Rnd} {k : Nat} (h : l.Perm (pairsR r)) : kaddL kn l k = kadd kn r k := by
  funext a b
  unfold kaddL kadd
  by_cases hm : (a, b) ∈ pairsR r
  · rw [if_pos hm, if_pos (h.mem_iff.mpr hm)]
  · rw [if_neg hm, if_neg (fun z => hm (h.mem_iff.mp z))]
theorem sorted_first {r : Rnd} {m : Nat} {a b : Int} (h : (sortP (pairsR r))[m]? = some (a, b)) {kn : Known} (hn : ∀ p ∈ (sortP (pairsR r)).take m, kn p.1 p.2 = none) :
    ∀ c d, (c, d) ∈ pairsR r → kn c d ≠ none → a < c ∨ (a = c ∧ b ≤ d) := fun c d hm hk => by
  have hm' := (sortP_perm (pairsR r)).mem_iff.mpr hm
  obtain ⟨m', hm''⟩ := List.mem_iff_getElem?.mp hm'
  obtain ⟨l1, e1⟩ := List.getElem?_eq_some_iff.mp h
  obtain ⟨l2, e2⟩ := List.getElem?_eq_some_iff.mp hm''
  rcases Nat.lt_trichotomy m' m with z | z | z
  · refine absurd (hn (c, d) ?_) hk
    rw [List.mem_iff_getElem?]
    exact ⟨m', by rw [List.getElem?_take, if_pos z]; exact hm''⟩
  · subst z
    rw [h] at hm''
    cases hm''
    omega
  · have := List.pairwise_iff_getElem.mp (sortP_up (pairsR r)) m m' l1 l2 z
    rw [e1, e2] at this
    exact this
end Nf

set_option autoImplicit false
namespace Nf
/-! ### who met whom -/
def pairsP (rs : List Rnd) : List (Int × Int) := rs.flatMap pairsR
def dirs (ps : List (Int × Int)) : List (Int × Int) := ps.flatMap fun p => [(p.1, p.2), (p.2, p.1)]
theorem mem_dirs {ps : List (Int × Int)} {a b : Int} : (a, b) ∈ dirs ps ↔ ((a, b) ∈ ps ∨ (b, a) ∈ ps) := by
  unfold dirs
  rw [List.mem_flatMap]
  constructor
  · rintro ⟨⟨x, y⟩, h, m⟩
    simp only [List.mem_cons, List.not_mem_nil, or_false, Prod.mk.injEq] at m
    rcases m with ⟨rfl, rfl⟩ | ⟨rfl, rfl⟩
    · exact .inl h
    · exact .inr h
  · rintro (h | h)
    · exact ⟨_, h, by simp⟩
    · exact ⟨_, h, by simp⟩
theorem dirs_snoc (ps : List (Int × Int)) (a b : Int) : dirs (ps ++ [(a, b)]) = dirs ps ++ [(a, b)] ++ [(b, a)] := by simp [dirs]
/-- whom c has met, by pairs told in both ways -/
def metD (g : Nat) (qs : List (Int × Int)) (c : Int) : List Int := (rangeI g).filter fun d => decide ((c, d) ∈ qs)
theorem mem_metD {g : Nat} {qs : List (Int × Int)} {c d : Int} : d ∈ metD g qs c ↔ (0 ≤ d ∧ d < g) ∧ (c, d) ∈ qs := by
  unfold metD
  rw [List.mem_filter, mem_rangeI, decide_eq_true_eq]
theorem metD_nodup (g : Nat) (qs : List (Int × Int)) (c : Int) : (metD g qs c).Nodup := (rangeI_nodup g).sublist List.filter_sublist
theorem rangeI_up (g : Nat) : (rangeI g).Pairwise (· < ·) := by
  unfold rangeI
  rw [List.pairwise_map]
  exact List.pairwise_lt_range.imp fun h => by omega
theorem metD_up (g : Nat) (qs : List (Int × Int)) (c : Int) : (metD g qs c).Pairwise (· < ·) := (rangeI_up g).sublist List.filter_sublist
theorem metD_len (g : Nat) (qs : List (Int × Int)) (c : Int) : (metD g qs c).length ≤ g := by
  have := (List.filter_sublist (p := fun d => decide ((c, d) ∈ qs)) (l := rangeI g)).length_le
  rwa [rangeI_len] at this
/-- one at least of g is not met: oneself -/
theorem metD_less {g : Nat} {qs : List (Int × Int)} {c : Int} (h0 : 0 ≤ c) (h1 : c < g) (hn : ∀ p ∈ qs, p.1 ≠ p.2) : (metD g qs c).length < g := by
  have hc : c ∈ rangeI g := mem_rangeI.mpr ⟨h0, h1⟩
  have h := List.length_filter_lt_length_iff_exists (p := fun d => decide ((c, d) ∈ qs)) (l := rangeI g)
  rw [rangeI_len] at h
  exact h.mpr ⟨c, hc, by
    rw [decide_eq_true_eq]
    exact fun z => hn _ z rfl⟩
theorem perm_of_mem {xs ys : List Int} (hx : xs.Nodup) (hy : ys.Nodup) (h : ∀ d, d ∈ xs ↔ d ∈ ys) : xs.Perm ys := (List.perm_ext_iff_of_nodup hx hy).mpr h
theorem metD_old {g : Nat} {qs : List (Int × Int)} {a b c : Int} (h : c ≠ a ∨ (a, b) ∈ qs) : metD g (qs ++ [(a, b)]) c = metD g qs c := by
  unfold metD
  refine List.filter_congr fun d _ => ?_
  have e : (c, d) ∈ qs ++ [(a, b)] ↔ (c, d) ∈ qs := by
    simp only [List.mem_append, List.mem_singleton, Prod.mk.injEq]
    constructor
    · rintro (z | ⟨rfl, rfl⟩)
      · exact z
      · exact h.elim (fun n => absurd rfl n) id
    · exact .inl
  simp only [e]
theorem metD_new {g : Nat} {qs : List (Int × Int)} {a b : Int} (h0 : 0 ≤ b) (h1 : b < g) (h : (a, b) ∉ qs) : (metD g qs a ++ [b]).Perm (metD g (qs ++ [(a, b)]) a) := by
  refine perm_of_mem ?_ (metD_nodup _ _ _) fun d => ?_
  · refine List.nodup_append.mpr ⟨metD_nodup _ _ _, by simp, fun x hx y hy => ?_⟩
    rw [List.mem_singleton.mp hy]
    rintro rfl
    exact h (mem_metD.mp hx).2
  · rw [List.mem_append, mem_metD, mem_metD, List.mem_append, List.mem_singleton, List.mem_singleton, Prod.mk.injEq]
    constructor
    · rintro (⟨z, q⟩ | rfl)
      · exact ⟨z, .inl q⟩
      · exact ⟨⟨h0, h1⟩, .inr ⟨rfl, rfl⟩⟩
    · rintro ⟨z, q | ⟨_, rfl⟩⟩
      · exact .inl ⟨z, q⟩
      · exact .inr rfl
theorem up_perm_eq : ∀ {xs ys : List Int}, xs.Pairwise (· ≤ ·) → ys.Pairwise (· < ·) → xs.Perm ys → xs = ys
  | [], ys, _, _, h => (List.nil_perm.mp h).symm
  | x :: xs, [], _, _, h => absurd h.length_eq (by simp)
  | x :: xs, y :: ys, hx, hy, h => by
    obtain ⟨h1, h2⟩ := List.pairwise_cons.mp hx
    obtain ⟨h3, h4⟩ := List.pairwise_cons.mp hy
    have a1 : y ≤ x := by
      rcases List.mem_cons.mp (h.mem_iff.mp (List.mem_cons_self (a := x))) with e | e
      · omega
      · have := h3 x e
        omega
    have a2 : x ≤ y := by
      rcases List.mem_cons.mp (h.mem_iff.mpr (List.mem_cons_self (a := y))) with e | e
      · omega
      · exact h1 y e
    have e : x = y := by omega
    subst e
    rw [up_perm_eq h2 h4 (List.perm_cons x |>.mp h)]
/-- the pairs of a round are of its guests, the lower one first -/
theorem pairsT_lt : ∀ {t : Tbl}, t.Pairwise (· < ·) → ∀ p ∈ pairsT t, p.1 < p.2
  | [], _, p, h => by simp [pairsT] at h
  | a :: t, ht, p, h => by
    obtain ⟨h1, h2⟩ := List.pairwise_cons.mp ht
    simp only [pairsT, List.mem_append, List.mem_map] at h
    rcases h with ⟨b, hb, rfl⟩ | h
    · exact h1 b hb
    · exact pairsT_lt h2 p h
theorem IsRound.pair {g s : Int} {r : Rnd} (h : IsRound g s r) : ∀ p ∈ pairsR r, 0 ≤ p.1 ∧ p.1 < p.2 ∧ p.2 < g := fun p hp => by
  obtain ⟨t, ht, hq⟩ := List.mem_flatMap.mp hp
  obtain ⟨m1, m2⟩ := mem_pairsT hq
  have lt := pairsT_lt (up_strict (h.up t ht) (flat_each h.nd t ht)) p hq
  exact ⟨(h.lo _ (List.mem_flatten.mpr ⟨t, ht, m1⟩)).1, lt, (h.lo _ (List.mem_flatten.mpr ⟨t, ht, m2⟩)).2⟩
theorem plan_pair {g s : Int} {rs : List Rnd} (h : ∀ r ∈ rs, IsRound g s r) : ∀ p ∈ pairsP rs, 0 ≤ p.1 ∧ p.1 < p.2 ∧ p.2 < g := fun p hp => by
  obtain ⟨r, hr, hq⟩ := List.mem_flatMap.mp hp
  exact (h r hr).pair p hq
/-- whom c has met in a plan -/
def metM (g : Nat) (ps : List (Int × Int)) (c : Int) : List Int := metD g (dirs ps) c
/-- whom not -/
def unmetM (g : Nat) (ps : List (Int × Int)) (c : Int) : List Int := (rangeI g).filter fun d => decide (d ≠ c ∧ d ∉ metM g ps c)
theorem mem_metM {g : Nat} {ps : List (Int × Int)} {c d : Int} : d ∈ metM g ps c ↔ (0 ≤ d ∧ d < g) ∧ ((c, d) ∈ ps ∨ (d, c) ∈ ps) := by
  unfold metM
  rw [mem_metD, mem_dirs]
theorem dirs_ne {g : Int} {ps : List (Int × Int)} (h : ∀ p ∈ ps, 0 ≤ p.1 ∧ p.1 < p.2 ∧ p.2 < g) : ∀ p ∈ dirs ps, p.1 ≠ p.2 := fun ⟨a, b⟩ hp => by
  rcases mem_dirs.mp hp with z | z
  · have := h _ z
    omega
  · have := h _ z
    omega
theorem metM_perm {g : Nat} {ps qs : List (Int × Int)} (h : ∀ p, p ∈ ps ↔ p ∈ qs) (c : Int) : metM g ps c = metM g qs c := by
  unfold metM metD
  refine List.filter_congr fun d _ => ?_
  simp only [mem_dirs, h]
theorem filter_split (p : Int → Bool) : ∀ l : List Int, (l.filter p).length + (l.filter fun x => !p x).length = l.length
  | [] => rfl
  | x :: l => by
    have := filter_split p l
    by_cases h : p x = true
    · simp [h]
      omega
    · simp only [Bool.not_eq_true] at h
      simp [h]
      omega
theorem filter_one : ∀ {l : List Int} {c : Int}, l.Nodup → c ∈ l → (l.filter fun x => x == c).length = 1
  | [], c, _, h => by simp at h
  | x :: l, c, hn, h => by
    obtain ⟨h1, h2⟩ := List.nodup_cons.mp hn
    by_cases e : x = c
    · subst e
      have : l.filter (fun y => y == x) = [] := List.filter_eq_nil_iff.mpr fun y hy => by
        simp only [beq_iff_eq]
        rintro rfl
        exact h1 hy
      simp [this]
    · have hm : c ∈ l := by
        rcases List.mem_cons.mp h with z | z
        · exact absurd z.symm e
        · exact z
      have := filter_one h2 hm
      simp [e, this]
/-- how many c has not met -/
theorem unmet_len {g : Nat} {ps : List (Int × Int)} {c : Int} (h0 : 0 ≤ c) (h1 : c < g) (hp : ∀ p ∈ ps, p.1 < p.2) : (unmetM g ps c).length + (metM g ps c).length + 1 = g := by
  have hc : c ∈ rangeI g := mem_rangeI.mpr ⟨h0, h1⟩
  have e1 := filter_split (fun d => d == c) (rangeI g)
  rw [rangeI_len, filter_one (rangeI_nodup g) hc] at e1
  have e2 := filter_split (fun d => decide (d ∈ metM g ps c)) ((rangeI g).filter fun x => !(x == c))
  have e3 : ((rangeI g).filter fun x => !(x == c)).filter (fun d => decide (d ∈ metM g ps c)) = metM g ps c := by
    rw [List.filter_filter]
    show _ = (rangeI g).filter _
    refine List.filter_congr fun d hd => ?_
    have hd := mem_rangeI.mp hd
    have e : (d ∈ metM g ps c) ↔ (c, d) ∈ dirs ps := by
      unfold metM
      rw [mem_metD]
      exact ⟨fun z => z.2, fun z => ⟨hd, z⟩⟩
    have ne : (c, d) ∈ dirs ps → d ≠ c := fun z => by
      rcases mem_dirs.mp z with z | z
      · have := hp _ z
        simp only at this
        omega
      · have := hp _ z
        simp only at this
        omega
    rw [Bool.eq_iff_iff]
    simp only [Bool.and_eq_true, decide_eq_true_eq, Bool.not_eq_true', beq_eq_false_iff_ne, e]
    exact ⟨fun z => z.1, fun z => ⟨z, ne z⟩⟩
  have e4 : ((rangeI g).filter fun x => !(x == c)).filter (fun d => !decide (d ∈ metM g ps c)) = unmetM g ps c := by
    rw [List.filter_filter]
    refine List.filter_congr fun d _ => ?_
    rw [Bool.eq_iff_iff]
    simp [and_comm]
  rw [e3, e4] at e2
  omega
end Nf

set_option Elab.async false
set_option linter.all false
set_option maxRecDepth 100000
set_option maxHeartbeats 4000000
/-! Rules beside the hand layer's: len(set(ints)), sorted of a list or tuple of data, extend by a tuple, enumerate of a tuple. -/
namespace Nf
open PySem PySem.Spec PyProof.Rows L2

/-! ### len(set(xs)) of any whole numbers -/
def metN (ns : List Int) : Nat := (PyProof.Rows.firstMet (fun i => ns.getD i 0) ns.length).length
theorem firstMet_mem (f : Nat → Int) : ∀ (i j : Nat), j < i → f j ∈ PyProof.Rows.firstMet f i
  | 0, _, h => absurd h (Nat.not_lt_zero _)
  | i + 1, j, h => by
    rw [PyProof.Rows.firstMet_succ]
    unfold PyProof.Rows.step_dedup
    rcases Nat.lt_succ_iff_lt_or_eq.mp h with h | h
    · have := firstMet_mem f i j h
      split
      · exact this
      · exact List.mem_append_left _ this
    · subst h
      split
      · rename_i hb
        obtain ⟨y, hy, e⟩ := List.any_eq_true.mp hb
        rw [← eq_of_beq e]
        exact hy
      · simp
theorem metN_le (ns : List Int) : metN ns ≤ ns.length := PyProof.Rows.firstMet_length_le _ _
theorem firstMet_full (f : Nat → Int) : ∀ (i : Nat), (PyProof.Rows.firstMet f i).length = i → ∀ j k, j < k → k < i → f j ≠ f k
  | 0, _, _, _, _, h => absurd h (Nat.not_lt_zero _)
  | i + 1, e, j, k, hjk, hk => by
    rw [PyProof.Rows.firstMet_succ] at e
    unfold PyProof.Rows.step_dedup at e
    have hl := PyProof.Rows.firstMet_length_le f i
    split at e
    · omega
    · rename_i hb
      have e' : (PyProof.Rows.firstMet f i).length = i := by
        rw [List.length_append, List.length_singleton] at e
        omega
      rcases Nat.lt_succ_iff_lt_or_eq.mp hk with hk | hk
      · exact firstMet_full f i e' j k hjk hk
      · subst hk
        intro q
        apply hb
        refine List.any_eq_true.mpr ⟨f j, firstMet_mem f k j hjk, ?_⟩
        rw [q]
        exact beq_self_eq_true _
theorem metN_iff (ns : List Int) : metN ns = ns.length ↔ ns.Nodup := by
  constructor
  · intro h
    refine List.pairwise_iff_getElem.mpr fun i j hi hj hij e => ?_
    refine firstMet_full _ _ h i j hij hj ?_
    show ns.getD i 0 = ns.getD j 0
    rw [List.getD_eq_getElem?_getD, List.getD_eq_getElem?_getD, List.getElem?_eq_getElem hi, List.getElem?_eq_getElem hj]
    exact e
  · intro h
    unfold metN
    rw [RZ.firstMet_nodup h ns.length (Nat.le_refl _), List.take_length]
def tLenSet (K : PySem.W.Frag) (ta : TE) : TE := fun σ H Q => ta σ H fun x H1 => ∃ (l : Addr) (ns : List Int), x = .ref l ∧ SqL K H1 l (ns.map V.int) ∧ ns.length ≤ 4000 ∧ Q (.int (metN ns : Nat)) H1
theorem pe_lenSet {X : Cx} {a : Expr} {ta : TE} {p p2 q pos : Pos} (hg : Gl X "len") (hm : X.mg "len" = none) (hg2 : Gl X "set") (hm2 : X.mg "set" = none) (ha : PE X a ta) (hc : X.calm = true := by rfl)
    (na : starEach [a] X.env = (false, eval a X.env) :: starEach [] X.env := by rfl) : PE X (.Call (.Name "len" p) [.Call (.Name "set" p2) [a] [] q] [] pos) (tLenSet X.K ta) := by
  refine ⟨fun pins s σ H Q I h => ?_⟩
  refine Call_ (ld_blt I hg hm boot_len ?_)
  refine PyProof.Rows.callWith_builtin1 (PyProof.Rows.args_cons ?_ rfl) rfl rfl
  refine Call_ (ld_blt I hg2 hm2 boot_set ?_)
  refine PyProof.Rows.callWith_type1 (PyProof.Rows.args_cons (thn (ha.run pins s σ H _ I h) fun v s1 ⟨x, H1, I1, r1, q1⟩ => PyProof.Rows.args_nil ?_) na) na rfl
  obtain ⟨l, ns, rfl, hq, hl, q1⟩ := q1
  cases r1
  obtain ⟨its, r, pl, hz⟩ := I1.list hq
  have hlen : its.toArray.size = ns.length := by rw [List.size_toArray, ← r.length, List.length_map]
  have hle := metN_le ns
  refine call_set_list (I1.ok.hd hc) pl.isList (by simpa using RZ.intsAre_vals r) (by rw [hlen]; unfold scanBound; omega) fun h' tk hS hk => ?_
  refine PyProof.Rows.args_nil ?_
  rw [hlen] at hS
  obtain ⟨o, es, ep, t, ho, hex, hd, _, _, _, hf, hn⟩ := hS
  have I2 : Inv X pins σ H1 { s1 with heap := h', toks := tk } := I1.kept fun b o e => hk b o (Heap.lt_size e) e
  have hn' : es.size = metN ns := hn
  exact call_len_set ho hex hd hf (by rw [hn'] <;> omega) ⟨.int (metN ns : Nat), H1, I2.tok _, ⟨_, by rw [hn']⟩, q1⟩
end Nf

set_option Elab.async false
set_option linter.all false
set_option maxRecDepth 100000
set_option maxHeartbeats 4000000
namespace Nf
open PySem PySem.Spec PyProof.Rows L2

section
variable {prog : Program} {w : World} {A : Around} {E : Value → Shared → Prop} {s : Shared}
theorem collect_tup {l : Addr} {vs : List Value} {Q : List Value → Shared → Prop} (hl : IsTup s.heap l vs.toArray)
    (h : Q vs { s with heap := (s.heap.push (seqObj "list" #[] 0)).update s.heap.objs.size (Obj.mapSeq (· ++ vs.toArray)) }) (hsz : vs.length ≤ sizeLine) :
    wpAny (model prog w) A (collect (.ref l)) Q E s := by
  obtain ⟨o, ho, hc, n, hd⟩ := id hl
  unfold collect
  refine wpAny_bind (wpAny_runValue (codeAny_builtin entry_proto_collect' ?_))
  show wpAny _ _ (do again (.builtin "list.__iadd__" ⟨[← newList [], .ref l], []⟩)) _ _ s
  refine wpAny_bind (wpAny_newList (wpAny_pure ⟨Code.quiet_builtin _ (by decide +kernel), codeAny_builtin entry_list_iadd' ?_⟩))
  show wpAny _ _ (Builtin.List.listExtendWith (.ref s.heap.objs.size) (.ref l) (.ref s.heap.objs.size)) _ _ { s with heap := s.heap.push (seqObj "list" #[] 0) }
  unfold Builtin.List.listExtendWith
  have ho' : (s.heap.push (seqObj "list" #[] 0)).get? l = some o := Heap.get?_push_of_some _ ho
  refine wpAny_bind (wpAny_typeOf (T := "tuple") ⟨o, ho', hc⟩ ?_)
  have ht : (Value.type "tuple" == Value.type "tuple") = true := by rfl
  rw [if_pos (by rw [ht]; simp)]
  refine wpAny_bind (listItems_at ho' hd ?_)
  refine wpAny_bind (listItems_at (xs := #[]) (n := 0) (Heap.get?_push_size _ rfl) rfl ?_)
  rw [if_neg (by simp)]
  refine wpAny_bind (listUpdate_at (xs := #[]) (n := 0) (Heap.get?_push_size _ rfl) rfl ?_ (Nat.zero_le _) (by show (#[] ++ vs.toArray).size ≤ sizeLine + 1; simp only [Array.size_append, List.size_toArray, List.length_nil]; omega))
  refine wpAny_pure ?_
  show wpAny (model prog w) A (do
      let o ← load s.heap.objs.size
      match o.data with
      | .seq xs _ => pure xs.toList
      | _ => unsupported "internal:collect") Q E { s with heap := (s.heap.push (seqObj "list" #[] 0)).update s.heap.objs.size (Obj.mapSeq (· ++ vs.toArray)) }
  refine wpAny_bind (wpAny_load (get?_update_seq (Heap.get?_push_size _ rfl) _) ?_)
  show wpAny _ _ (pure ((#[] : Array Value) ++ vs.toArray).toList) Q E _
  rw [show ((#[] : Array Value) ++ vs.toArray).toList = vs by simp]
  exact wpAny_pure h
open PySem.W in
theorem sorted_of_sortT {l : Addr} {vs : List Value} {kw : List (Str × Value)} {Q : Value → Shared → Prop} (hl : IsTup s.heap l vs.toArray) (hL : vs.length ≤ sizeLine) (ha1 : argsOk "sorted" ⟨[.ref l], kw⟩) (ha2 : ∀ x, argsOk "list.sort" ⟨[.ref x], kw⟩)
    (body : ∀ E' : Value → Shared → Prop, wpAny (model prog w) A.in1.in1 (Builtin.«list.sort» ⟨[.ref (s.heap.objs.size + 1)], kw⟩) (fun f s' => f = .done (.ret .none) ∧ Q (.ref (s.heap.objs.size + 1)) s') E' { s with heap := copyHeap s.heap vs }) :
    wpAny (model prog w) A (call (.builtin "sorted") [.ref l] kw) Q E s := by
  refine call_function_entry_kw kind_sorted plain_sorted entry_sorted ha1 ?_
  unfold Builtin.«sorted»
  refine wpAny_bind (m := checkCount "sorted" 1 1 _) (wpAny_pure ?_)
  refine wpAny_bind (collect_tup hl ?_ hL)
  refine wpAny_bind (wpAny_newList ?_ hL)
  have hsz : ((s.heap.push (seqObj "list" #[] 0)).update s.heap.objs.size (Obj.mapSeq (· ++ vs.toArray))).objs.size = s.heap.objs.size + 1 := by
    rw [Heap.size_update, size_push']
  show wpAny _ _ _ _ _ { s with heap := copyHeap s.heap vs }
  rw [hsz]
  refine wpAny_bind (wpAny_holding (wpAny_call_entry_kw slot_list_sort ⟨_, copyHeap_at s.heap vs, rfl⟩ entry_list_sort ?body (ha2 _)))
  case body =>
    show wpAny (model prog w) A.in1.in1 (Builtin.«list.sort» ⟨[.ref (s.heap.objs.size + 1)], kw⟩) _ _ _
    refine wpAny_mono (body _) (fun f s' hf => ?_) fun _ _ e => e
    obtain ⟨rfl, hq⟩ := hf
    exact ⟨_, rfl, wpAny_pure ⟨_, rfl, hq⟩⟩
open PySem.W in
/-- sorted of a tuple that reads as data -/
theorem sorted_dataT {β : Type} {R : Value → β → Prop} {enc : β → PyData} {vs : List Value} {bs : List β} {l : Addr} {Q : Value → Shared → Prop} (hl : IsTup s.heap l vs.toArray) (e : EachIs R vs bs) (er : EachIs (fun v b => ∃ as, Reads s.heap v (enc b) as) vs bs) (hal : AllAlike (bs.map enc)) (hk : Sortable (bs.map enc)) (hL : bs.length ≤ sizeLine)
    (hu : ∀ b, b ∈ bs → A.units + 2 + (enc b).depth < cLine) (h : ∀ out, out.length = bs.length → EachIs R out (bs.mergeSort (dataLe false enc)) → Q (.ref (s.heap.objs.size + 1)) { s with heap := sortedAll s.heap vs (List.toArray out) }) :
    wpAny (model prog w) A (call (.builtin "sorted") [.ref l]) Q E s := by
  have er' : EachIs (fun v b => ∃ as, Reads (sortingHeap (copyHeap s.heap vs) (s.heap.objs.size + 1) vs) v (enc b) as) vs bs := er.mono fun _ _ ⟨as, r⟩ => ⟨as, PyProof.Rows.Reads.keeps (fun _ _ => sorting_copy_old) r⟩
  have hLv : vs.length ≤ sizeLine := by
    rw [e.length]
    exact hL
  refine sorted_of_sortT hl hLv (args_sorted1 _) (fun _ => args_list_sort _) fun _ => list_sort_vals (s := { s with heap := copyHeap s.heap vs }) (copyHeap_at s.heap vs) (SortsAt.data (s := { s with heap := sortingHeap (copyHeap s.heap vs) (s.heap.objs.size + 1) vs }) (each_map (R := fun v d => ∃ as, Reads (sortingHeap (copyHeap s.heap vs) (s.heap.objs.size + 1) vs) v d as) enc er') hal hk (bound_map hu)) hLv ⟨rfl, ?_⟩
  exact h _ (by rw [sortVals_length false rfl]; exact e.length) (sortVals_data false e er' hal)
end

end Nf

set_option Elab.async false
set_option linter.all false
set_option maxRecDepth 100000
set_option maxHeartbeats 4000000
namespace Nf
open PySem PySem.Spec PyProof.Rows L2

/-! ### sorted of a list or a tuple that reads as data -/
theorem each_of_paired {β : Type} {R : V → β → Prop} : ∀ {xs : List V} {us : List Value} {bs : List β}, Vals xs us → Paired R xs bs → PySem.W.EachIs (fun u b => ∃ x, RelV x u ∧ R x b) us bs
  | _, _, _, .nil, .nil => .nil
  | _, _, _, .cons r t, .cons q p => .cons ⟨_, r, q⟩ (each_of_paired t p)
theorem paired_of_each {β : Type} {R : V → β → Prop} : ∀ {us : List Value} {bs : List β}, PySem.W.EachIs (fun u b => ∃ x, RelV x u ∧ R x b) us bs → ∃ xs, Vals xs us ∧ Paired R xs bs
  | _, _, .nil => ⟨[], .nil, .nil⟩
  | _, _, .cons ⟨x, r, q⟩ t => by
    obtain ⟨xs, h1, h2⟩ := paired_of_each t
    exact ⟨x :: xs, .cons r h1, .cons q h2⟩
def rSortD (K : PySem.W.Frag) {β : Type} (enc : β → PyData) : List V → Hp → VK → Prop := fun vs H Q => ∃ (a : Addr) (xs : List V) (bs : List β) (R : V → β → Prop), vs = [.ref a] ∧ (SqL K H a xs ∨ SqT K H a xs) ∧ Paired R xs bs ∧
  (∀ x b, R x b → Dp K H x (enc b)) ∧ PySem.W.AllAlike (bs.map enc) ∧ PySem.W.Sortable (bs.map enc) ∧ (∀ b ∈ bs, (enc b).depth ≤ 8) ∧
  ∀ ys p, Paired R ys (bs.mergeSort (PySem.W.dataLe false enc)) → H p = none → Q (.ref p) (upd H p (.lst ys))
theorem cr_sortD {X : Cx} {β : Type} (enc : β → PyData) (hu : X.A.units + 64 < cLine) : CallR X (.builtin "sorted") (rSortD X.K enc) := by
  intro pins s σ H vs us Q I r h
  obtain ⟨a, xs, bs, R, rfl, hs, hp, hd, hal, hk, hdp, q⟩ := h
  rw [Vals.ref1 r]
  have main : ∀ (its : List Value), Vals xs its → xs.length ≤ sizeLine → (s.heap.IsList a its.toArray ∨ IsTup s.heap a its.toArray) → wpAny (model X.prog X.w) X.A (call (.builtin "sorted") [.ref a]) (EP X pins σ Q) X.xe s := fun its rv hz hl => by
    have e := each_of_paired rv hp
    have er : PySem.W.EachIs (fun v b => ∃ as, Reads s.heap v (enc b) as) its bs := e.mono fun u b ⟨x, rx, rb⟩ => Dp.reads I (enc b) x u (hd x b rb) rx
    have hlb : bs.length = xs.length := by
      rw [← e.length, ← rv.length]
    have fin : ∀ out, out.length = bs.length → PySem.W.EachIs (fun u b => ∃ x, RelV x u ∧ R x b) out (bs.mergeSort (PySem.W.dataLe false enc)) → EP X pins σ Q (.ref (s.heap.objs.size + 1)) { s with heap := sortedAll s.heap its (List.toArray out) } := fun out hlo eo => by
      obtain ⟨ys, ry, py⟩ := paired_of_each eo
      obtain ⟨ep, he'⟩ := PyProof.Rows.sortedAll_at s.heap its out.toArray
      have hly := ry.length
      exact ⟨.ref _, upd H (s.heap.objs.size + 1) (.lst ys), I.laid (t' := s.toks) (fun _ _ => PyProof.Rows.sortedAll_old) (Nat.le_succ _) ⟨by omega, out, ep, ry, he'⟩, rfl, q _ _ py (I.hok.fresh (Nat.le_succ _))⟩
    rcases hl with hl | hl
    · exact PySem.W.sorted_data hl e er hal hk (by omega) (fun b hb => by have := hdp b hb; omega) fin
    · exact sorted_dataT hl e er hal hk (by omega) (fun b hb => by have := hdp b hb; omega) fin
  rcases hs with hs | hs
  · obtain ⟨its, rv, hl, hz⟩ := I.list hs
    exact main its rv hz (.inl hl.isList)
  · obtain ⟨its, rv, hl, hz⟩ := I.tuple hs
    exact main its rv hz (.inr hl)

/-! ### xs.extend(t), t a tuple -/
def rExtendT : V → List V → Hp → VK → Prop := fun x vs H Q => ∃ l b xs zs, x = .ref l ∧ vs = [.ref b] ∧ H l = some (.lst xs) ∧ H b = some (.tup zs) ∧ xs.length + zs.length ≤ sizeLine ∧ Q .non (upd H l (.lst (xs ++ zs)))
theorem mt_extendT {X : Cx} : MtM X "list.extend" rExtendT := by
  intro pins s σ H x vs v us Q I rx rv h
  obtain ⟨l, b, xs, zs, rfl, rfl, hH, hB, hz, q⟩ := h
  cases rx
  obtain ⟨u, rfl, ru⟩ := rv.one
  cases ru
  obtain ⟨z, its, n, r, hl, e⟩ := I.lstM hH
  obtain ⟨its2, r2, ht, hz2⟩ := I.tuple (SqT.of (K := X.K) hB)
  obtain ⟨o, ho, hc, n2, hd⟩ := id ht
  have hl2 := r2.length
  have hsz : its.toArray.size + its2.toArray.size ≤ sizeLine := by rw [List.size_toArray, List.size_toArray]; omega
  have hlong : ¬ (!its.toArray.isEmpty && Builtin.List.listTooLong (its.toArray.size + its2.toArray.size)) = true := by
    rw [notLongL hsz, Bool.and_false]
    exact Bool.false_ne_true
  refine wpAny_call_entry F.slot_list_extend ⟨_, e, rfl⟩ F.entry_list_extend ?_ (F.args_list_extend_2 _ _)
  unfold Builtin.«list.extend»
  show wpAny _ _ (Builtin.List.listExtendWith (.ref l) (.ref b) .none) _ _ s
  unfold Builtin.List.listExtendWith
  refine wpAny_bind (wpAny_typeOf (T := "tuple") ⟨o, ho, hc⟩ ?_)
  have ht : (Value.type "tuple" == Value.type "tuple") = true := by rfl
  rw [if_pos (by rw [ht]; simp)]
  refine wpAny_bind (listItems_at ho hd ?_)
  refine wpAny_bind (listItems_at e rfl ?_)
  rw [if_neg hlong]
  refine wpAny_bind (listUpdate_at e rfl ?_ (by rw [List.size_toArray]; omega) (by rw [Array.size_append]; omega))
  refine wpAny_pure ⟨_, rfl, ?_⟩
  refine ⟨.non, _, I.lset (its' := its ++ its2) hH e (by simp) (r.append r2) ?_, rfl, q⟩
  rw [List.length_append]
  omega
end Nf

set_option Elab.async false
set_option linter.all false
set_option maxRecDepth 100000
set_option maxHeartbeats 4000000
namespace PySem
open AutoSeq1 (wpAny_loadPart')
theorem nf_meets_enumerate_newT (l : Addr) (items : Array Value) (n : Nat) (dct : Option Addr) (sl : Array (Option Value)) :
    Meets (Builtin.«enumerate.__new__» ⟨[.type "enumerate", .ref l], []⟩) (fun _ R s => s.heap.get? l = some { cls := .type "tuple", dict := dct, data := .seq items n, slots := sl } ∧
      R (.ok (.ret (.ref (s.heap.push { cls := .type "tuple_iterator", data := .fields #[.ref l, .int 0 0] }).objs.size)))
        { s with heap := (s.heap.push { cls := .type "tuple_iterator", data := .fields #[.ref l, .int 0 0] }).push { cls := .type "enumerate", data := .fields #[.none, .bool false, .ref s.heap.objs.size, rawInt 0, .none, .none] } }) :=
  .of_wp fun prog w A R s h => by
    obtain ⟨hp, g, d, tk, os⟩ := s; obtain ⟨hl, h⟩ := h
    have hsub := sub_enumerate
    have hL : Heap.IsTuple (Shared.heap ⟨hp, g, d, tk, os⟩) l items := ⟨_, hl, rfl, n, rfl⟩
    wp_walk using wpAny_loadPart' hl
    refine wpAny_stack_any fun st => wpAny_pure ?_
    split
    · rename_i c _ _ _ _ _
      cases (c == Value.type "enumerate")
      · wp_walk using wpAny_loadPart' hl, wpAny_pyIter_tuple hL
        exact ⟨_, rfl, h⟩
      · wp_walk using wpAny_loadPart' hl, wpAny_pyIter_tuple hL
        exact ⟨_, rfl, h⟩
    · wp_walk using wpAny_loadPart' hl, wpAny_pyIter_tuple hL
      exact ⟨_, rfl, h⟩
theorem nf_call_enumerate_tuple {prog : Program} {w : World} {A : Around} {E : Value → Shared → Prop} {s : Shared} {l : Addr} {items : Array Value} {Q : Value → Shared → Prop} (hL : s.heap.IsTuple l items)
    (h : ∀ h', IsEnum h' (s.heap.objs.size + 1) s.heap.objs.size 0 .none → h'.IsTupleIter s.heap.objs.size l 0 → h'.objs.size = s.heap.objs.size + 2 →
      (∀ b o, s.heap.get? b = some o → h'.get? b = some o) → Q (.ref (s.heap.objs.size + 1)) { s with heap := h' }) :
    wpAny (model prog w) A (call (.type "enumerate") [.ref l]) Q E s := by
  obtain ⟨⟨c, dct, dt, sl⟩, hl, hc, n, hd⟩ := hL
  replace hc : c = .type "tuple" := hc
  replace hd : dt = .seq items n := hd
  subst hc hd
  refine callType_new F.called_enumerate (by decide) (F.typeCall_enumerate_1 _) (F.newCall_enumerate_1 _) (fun obj => F.args_object_init_2 obj _) F.entry_enumerate_new
    (nf_meets_enumerate_newT l items n dct sl) ⟨hl, ?_⟩
  have hz : (s.heap.push { cls := .type "tuple_iterator", data := .fields #[.ref l, .int 0 0] }).objs.size = s.heap.objs.size + 1 := Heap.size_push ..
  show _ ∧ _
  rw [hz]
  have he : IsEnum ((s.heap.push { cls := .type "tuple_iterator", data := .fields #[.ref l, .int 0 0] }).push
      { cls := .type "enumerate", data := .fields #[.none, .bool false, .ref s.heap.objs.size, rawInt 0, .none, .none] }) (s.heap.objs.size + 1) s.heap.objs.size 0 .none := by
    have := Heap.get?_push_size (s.heap.push { cls := .type "tuple_iterator", data := .fields #[.ref l, .int 0 0] })
      (o := { cls := .type "enumerate", data := .fields #[.none, .bool false, .ref s.heap.objs.size, rawInt 0, .none, .none] }) rfl
    rw [hz] at this; exact this
  refine ⟨⟨_, he, rfl⟩, h _ he ⟨_, Heap.get?_push_of_some _ (Heap.get?_push_size _ rfl), rfl, rfl⟩ (by rw [Heap.size_push, hz]) fun b o x => Heap.get?_push_of_some _ (Heap.get?_push_of_some _ x)⟩
end PySem

set_option Elab.async false
set_option linter.all false
set_option maxRecDepth 100000
set_option maxHeartbeats 4000000
namespace Nf
open PySem PySem.Spec PyProof.Rows L2

/-! ### enumerate of a tuple -/
def IteT (K : PySem.W.Frag) (a : Addr) : It :=
  ⟨fun i H => ∃ (xs : List V) (x : V), SqT K H a xs ∧ xs[i]? = some x, fun i H v H' => ∃ T x, v = .ref T ∧ H T = none ∧ H' = upd H T (.tup [.int (i : Nat), x]) ∧ ∀ xs, SqT K H a xs → xs[i]? = some x, fun i H => ∃ xs : List V, SqT K H a xs ∧ xs.length ≤ i⟩
theorem turn_enumT {P : Program} {w : World} {K : PySem.W.Frag} {elts : List Expr} {kk : Nat} {tpos : Pos} (a e it : Addr) (hai : a ≠ it) (hae : a ≠ e) :
    Turn P w K (.Tuple elts kk tpos) (IteT K a) [e, it] e (fun i h => (∃ old, IsEnum h e it ((i : Nat) : Int) old) ∧ h.IsTupleIter it a i ∧ e ≠ it) where
  mem := by simp
  obj := fun i h st b hb => by
    obtain ⟨⟨old, he⟩, ⟨o, ho, hc, hd⟩, _⟩ := st
    have e' : b = e ∨ b = it := by simpa using hb
    rcases e' with z | z
    · rw [z]; exact ⟨_, he, fun v q => nomatch q⟩
    · rw [z]; exact ⟨o, ho, fun v q => by rw [hd] at q; cases q⟩
  keep := fun i h h' st k => let ⟨⟨old, he⟩, hi, hne⟩ := st; ⟨⟨old, k e (by simp) _ he⟩, hi.at fun o q => k it (by simp) o q, hne⟩
  item := by
    intro X hP hw hK hc i pins s σ H E I hf st hg
    subst hP hw hK
    obtain ⟨⟨old, he⟩, hit, hne⟩ := st
    obtain ⟨xs, x, hq, hx⟩ := hg
    obtain ⟨its, rv, p, hz⟩ := I.tuple hq
    obtain ⟨u, hu, ru⟩ := rv.get hx
    have hel : e < s.heap.objs.size := Heap.lt_size he
    have hil : it < s.heap.objs.size := by obtain ⟨_, q, _⟩ := hit; exact Heap.lt_size q
    have hu' : its.toArray[i]? = some u := by simpa using hu
    have hlt : i < its.toArray.size := by
      by_cases hq : i < its.toArray.size
      · exact hq
      · rw [Array.getElem?_eq_none (by omega)] at hu'
        cases hu'
    have hef : e ∉ [it, a] := by
      intro z
      simp only [List.mem_cons, List.not_mem_nil, or_false] at z
      rcases z with z | z
      · exact hne z
      · exact hae z.symm
    refine wpAny_pyNext_enum_itemD (Draws.tuple (A := X.A.in1) (show X.A.in1.handled = none from I.ok.hd hc) it a hai its.toArray) he ⟨hit, p⟩ hlt hne hef fun y h' tk hP ho hst' hT hsz hk => ?_
    have ey : y = u := Option.some.inj (hP.symm.trans hu')
    subst ey
    have hit' := hst'.1
    refine ⟨_, rfl, wpAny_letOwnedTupleGo_enum (s := { s with heap := h', toks := tk + 1 }) ho fun h'' he' sb => ?_⟩
    have hT2 : h''.get? s.heap.objs.size = some { cls := .type "tuple", data := .seq #[.int i tk, y] } := (sb.2 _ (Nat.ne_of_gt hel)).trans hT
    have new : ObjOk X.prog X.w (upd H s.heap.objs.size (.tup [.int (i : Nat), x])) h'' s.heap.objs.size (.tup [.int (i : Nat), x]) :=
      ⟨by show 2 ≤ sizeLine; decide, [.int i tk, y], .cons ⟨_, rfl⟩ (.cons ru .nil), ⟨_, hT2, rfl, _, rfl⟩⟩
    have I1 : Inv X pins σ (upd H s.heap.objs.size (.tup [.int (i : Nat), x])) { s with heap := h'', toks := tk + 1 } :=
      I.turnedNew (ch := [e, it]) (fun b ob hb q => (sb.2 b (fun z => hb (by simp [z]))).trans (hk b ob (fun z => hb (by simp [z])) (fun z => hb (by simp [z])) q)) hf (Nat.le_refl _) new
    refine ⟨.ref s.heap.objs.size, _, I1, rfl, ⟨_, x, rfl, I.hok.fresh (Nat.le_refl _), rfl, fun ys hy => by rw [I.tuple_inj hy hq]; exact hx⟩, ⟨⟨y, ?_⟩, hit'.at fun o q => (sb.2 it (Ne.symm hne)).trans q, hne⟩, fun b hb => ?_⟩
    · have e1 : ((i + 1 : Nat) : Int) = (i : Int) + 1 := by omega
      rw [e1]; exact he'
    · have hb' : b < s.heap.objs.size := by
        have e' : b = e ∨ b = it := by simpa using hb
        rcases e' with z | z
        · rw [z]; exact hel
        · rw [z]; exact hil
      rw [upd_ne (Nat.ne_of_lt hb')]
      exact (hf b hb).1
  done := by
    intro X hP hw hK hc i pins s σ H E I hf st hg
    subst hP hw hK
    obtain ⟨⟨old, he⟩, hit, hne⟩ := st
    obtain ⟨xs, hq, hx⟩ := hg
    obtain ⟨its, rv, p, hz⟩ := I.tuple hq
    obtain ⟨f0, f1, f2, f3, f4, f5⟩ := hf it (by simp)
    have hl := rv.length
    have hx' : its.toArray[i]? = none := by simp; omega
    have hT : s.TypeIs (.ref e) "enumerate" := ⟨_, he, rfl⟩
    unfold pyNext
    refine wpAny_bind (wpAny_attempt (wpAny_callSpecial?_slot (name := Str.ofString "__next__") hT F.slot_enumerate_next
      (wpAny_call_entry F.slot_enumerate_next hT F.entry_enumerate_next ?_ (F.args_enumerate_next_1 _))))
    show wpAny _ _ (field (.ref e) 2 >>= _) _ _ _
    refine wpAny_bind (wpAny_field he rfl (x := .ref it) rfl ?_)
    refine wpAny_bind (wpAny_nextOf_tuple_end (A := X.A.in1) (show X.A.in1.handled = none from I.ok.hd hc) hit p hx' fun h' x he' hx' => ?_)
    obtain ⟨o, ho, hc⟩ := hx'
    refine wpAny_bind (wpAny_isInstance (T := "StopIteration") (b := true) ⟨o, ho, hc⟩ isSubtype_stop ?_)
    exact wpAny_pure ⟨rfl, I.turned (t' := s.toks) (fun b o hb q => he' b o hb q) f0 f1 f3 f4 f5⟩
  self := fun A i s Q E st h => let ⟨⟨_, he⟩, _⟩ := st; wpAny_pyIter_enum he h
def iEnumT (K : PySem.W.Frag) (ta : TA) : TI := fun σ H R => ta σ H fun vs H1 => ∃ a xs, vs = [.ref a] ∧ SqT K H1 a xs ∧ R (IteT K a) H1
theorem pi_enumT {X : Cx} {e : Expr} {ta : TA} {p pos tpos : Pos} {elts : List Expr} {kk : Nat} (hg : Gl X "enumerate") (hm : X.mg "enumerate" = none) (ha : PA X [e] ta) (hs : starEach [e] X.env = [(false, eval e X.env)] := by rfl) :
    PI X (.Tuple elts kk tpos) (.Call (.Name "enumerate" p) [e] [] pos) (iEnumT X.K ta) := by
  refine ⟨fun pins s σ H R I h => ?_⟩
  refine Call_ (ld_blt I hg hm boot_enumerate (PyProof.Rows.callWith_type1 (thn (ha.run pos pins s σ H _ I h) fun us s1 ⟨vs, H1, I1, r1, q1⟩ => ?_) hs rfl))
  obtain ⟨a, xs, ex, hq, q⟩ := q1
  subst ex
  cases r1 with
  | cons r rr =>
    cases rr
    cases r
    obtain ⟨its, rv, p', hz⟩ := I1.tuple hq
    have hal : a < s1.heap.objs.size := by
      obtain ⟨o, ho, _⟩ := id p'
      exact Heap.lt_size ho
    refine nf_call_enumerate_tuple p' fun h' he hit hsz hk => wpAny_pyIter_enum he ?_
    have I2 : Inv X pins σ H1 { s1 with heap := h' } := I1.kept (t' := s1.toks) hk
    refine ⟨s1.heap.objs.size + 1, [s1.heap.objs.size + 1, s1.heap.objs.size], _, _, H1, rfl, I2, turn_enumT a (s1.heap.objs.size + 1) s1.heap.objs.size (Nat.ne_of_lt hal) (Nat.ne_of_lt (Nat.lt_succ_of_lt hal)), ⟨⟨.none, he⟩, hit, Nat.succ_ne_self _⟩, fun b hb => ?_, q⟩
    have e' : b = s1.heap.objs.size + 1 ∨ b = s1.heap.objs.size := by simpa using hb
    have hle : s1.heap.objs.size ≤ b := by
      rcases e' with z | z
      · rw [z]; exact Nat.le_add_right _ _
      · rw [z]; exact Nat.le_refl _
    exact I1.fpOk hle (I1.hok.fresh hle)
theorem walk_enumT {K : PySem.W.Frag} {a : Addr} {xs : List V} : Walk (IteT K a) xs.length (fun H => SqT K H a xs) (YPair (fun i => some (.int (i : Nat))) (fun i => xs[i]?)) := by
  refine ⟨fun i _ hi q => ⟨xs, xs[i], q, by simp [hi]⟩, fun _ q => ⟨xs, q, Nat.le_refl _⟩, fun i H v H' _ q y => ?_⟩
  obtain ⟨T, x, h1, h2, h3, h4⟩ := y
  exact ⟨T, .int (i : Nat), x, h1, h2, h3, rfl, h4 xs q⟩
theorem walk_zipT {K : PySem.W.Frag} {a b : Addr} {xs ys : List V} {n : Nat} (hn : n = min xs.length ys.length) : Walk (RZ.ItzT K a b) n (fun H => SqT K H a xs ∧ SqT K H b ys) (YPair (fun i => xs[i]?) (fun i => ys[i]?)) := by
  subst hn
  refine ⟨fun i _ hi q => ?_, fun _ q => ⟨xs, ys, q.1, q.2, by omega⟩, fun i H v H' _ q y => ?_⟩
  · have h1 : i < xs.length := by omega
    have h2 : i < ys.length := by omega
    exact ⟨xs, ys, xs[i], ys[i], q.1, q.2, by simp [h1], by simp [h2]⟩
  · obtain ⟨T, x, z, h1, h2, h3, h4, h5⟩ := y
    exact ⟨T, x, z, h1, h2, h3, h4 xs q.1, h5 ys q.2⟩
end Nf

set_option Elab.async false
set_option linter.all false
set_option maxRecDepth 100000
set_option maxHeartbeats 4000000
namespace Nf
open PySem PySem.Spec PyProof.Rows L2

theorem compTurnN_mid (elt : Expr) (gens : List Comprehension) (d : Nat) (t0 i0 t1 i1 : Expr) (ifs0 ifs1 : List Expr) (scope : Scope) (pos : Pos) (it acc : Value) (env : Env)
    (h0 : gens[d]? = some ⟨t0, i0, ifs0, 0⟩) (h1 : gens[d + 1]? = some ⟨t1, i1, ifs1, 0⟩) :
    compTurn (.ListComp elt gens scope pos) d it acc env = (do
      standAt i0.pos
      match ← pyNext it with
      | none => pure (.done .next)
      | some v =>
        letOwnedTupleGo t0 it v
        assign t0 env v
        let mut ok := true
        for c in ifs0 do
          if ok then ok ← isTrue c env (eval c env)
        if ok then
          let x ← eval i1 env
          standAt i1.pos
          let x ← foldedSetIterable i1 env x
          let _ ← runOwn (.compStart (.ListComp elt gens scope pos) (d + 1) (← holding [x] (pyIter x)) acc env) env
        again (.compLoop (.ListComp elt gens scope pos) d it acc env)) := by
  unfold compTurn
  simp only [h0, h1]
  rfl
theorem compTurnN_last (elt : Expr) (gens : List Comprehension) (d : Nat) (t1 i1 : Expr) (ifs1 : List Expr) (scope : Scope) (pos : Pos) (it acc : Value) (env : Env)
    (h0 : gens[d]? = some ⟨t1, i1, ifs1, 0⟩) (h1 : gens[d + 1]? = none) :
    compTurn (.ListComp elt gens scope pos) d it acc env = (do
      standAt i1.pos
      match ← pyNext it with
      | none => pure (.done .next)
      | some v =>
        letOwnedTupleGo t1 it v
        assign t1 env v
        let mut ok := true
        for c in ifs1 do
          if ok then ok ← isTrue c env (eval c env)
        if ok then
          (do let _ ← call (.builtin "list.append") [acc, ← eval elt env])
        again (.compLoop (.ListComp elt gens scope pos) d it acc env)) := by
  unfold compTurn
  simp only [h0, h1]
  rfl

section
variable {prog : Program} {w : World} {A : Around} {R : Result → Shared → Prop} {s : Shared} {elt t0 i0 t1 i1 : Expr} {gens : List Comprehension} {d : Nat} {ifs0 ifs1 : List Expr} {scope : Scope} {pos : Pos} {it acc : Value} {env : Env}
theorem compLoopN_mid (h0 : gens[d]? = some ⟨t0, i0, ifs0, 0⟩) (h1 : gens[d + 1]? = some ⟨t1, i1, ifs1, 0⟩) (hs : ∀ x, foldedSetIterable i1 env x = pure x) (I : Nat → Shared → Prop)
    (turn : ∀ n s, I n s → wpAny (model prog w) A (pyNext it) (fun r s₁ => match r with
      | none => R (.ok .next) s₁
      | some v => wpAny (model prog w) A (letOwnedTupleGo t0 it v) (fun _ s₁' => wpAny (model prog w) A (assign t0 env v) (fun _ s₂ =>
          wpAny (model prog w) A (forIn ifs0 true fun c r => if r = true then do let ok ← isTrue c env (eval c env); pure (ForInStep.yield ok) else pure (ForInStep.yield r)) (fun ok s₃ =>
            if ok = true then wpAny (model prog w) A (eval i1 env) (fun x s₄ => wpAny (model prog w) A (pyIter x) (fun it1 s₅ =>
              codeAny (model prog w) A (.compStart (.ListComp elt gens scope pos) (d + 1) it1 acc env) (fun r s' => match r with
                | .ok _ => ∃ m, m < n ∧ I m s'
                | .error _ => False) s₅) (notedBy (model prog w) A env fun e s' => R (.error e) s') s₄) (notedBy (model prog w) A env fun e s' => R (.error e) s') s₃
            else ∃ m, m < n ∧ I m s₃) (notedBy (model prog w) A env fun e s' => R (.error e) s') s₂) (notedBy (model prog w) A env fun e s' => R (.error e) s') s₁') (notedBy (model prog w) A env fun e s' => R (.error e) s') s₁) (notedBy (model prog w) A env fun e s' => R (.error e) s') s)
    (n : Nat) (h : I n s) :
    codeAny (model prog w) A (.compLoop (.ListComp elt gens scope pos) d it acc env) R s := by
  refine codeAny_loop rfl I (fun n s hI => ?_) n h
  show wpAny _ A ((compTurn (.ListComp elt gens scope pos) d it acc env).onRaise (fun x => do noteFrame x env; theTreesLotGoes x)) _ _ s
  refine wpAny_noted ?_
  rw [compTurnN_mid elt gens d t0 i0 t1 i1 ifs0 ifs1 scope pos it acc env h0 h1]
  refine wpAny_bind (wpAny_standAt (wpAny_bind (wpAny_mono (turn n s hI) (fun r s₁ h₁ => ?_) fun _ _ h' => h')))
  cases r with
  | none => exact wpAny_pure h₁
  | some v =>
    refine wpAny_bind (wpAny_mono h₁ (fun _ s₁' h₁' => ?_) fun _ _ h' => h')
    refine wpAny_bind (wpAny_mono h₁' (fun _ s₂ h₂ => wpAny_bind (wpAny_mono h₂ (fun ok s₃ h₃ => ?_) fun _ _ h' => h')) fun _ _ h' => h')
    cases ok with
    | false => exact wpAny_pure ⟨rfl, h₃⟩
    | true =>
      refine wpAny_bind (wpAny_mono h₃ (fun x s₄ h₄ => ?_) fun _ _ h' => h')
      refine wpAny_bind (wpAny_standAt (wpAny_bind (wpAny_of_eq (hs x) (wpAny_bind (wpAny_holding (wpAny_mono h₄ (fun it1 s₅ h₅ => ?_) fun _ _ h' => h'))))))
      refine wpAny_bind (wpAny_runOwn ?_)
      rw [Around.mark_none]
      refine codeAny_mono h₅ fun r s' hr => ?_
      cases r with
      | ok f =>
        first
          | exact wpAny_pure ⟨rfl, hr⟩
          | exact wpAny_bind (wpAny_pure (wpAny_pure ⟨rfl, hr⟩))
      | error e => exact hr.elim
theorem compLoopN_last (h0 : gens[d]? = some ⟨t1, i1, ifs1, 0⟩) (h1 : gens[d + 1]? = none) (I : Nat → Shared → Prop)
    (turn : ∀ n s, I n s → wpAny (model prog w) A (pyNext it) (fun r s₁ => match r with
      | none => R (.ok .next) s₁
      | some v => wpAny (model prog w) A (letOwnedTupleGo t1 it v) (fun _ s₁' => wpAny (model prog w) A (assign t1 env v) (fun _ s₂ =>
          wpAny (model prog w) A (forIn ifs1 true fun c r => if r = true then do let ok ← isTrue c env (eval c env); pure (ForInStep.yield ok) else pure (ForInStep.yield r)) (fun ok s₃ =>
            if ok = true then wpAny (model prog w) A (eval elt env) (fun x s₄ =>
              wpAny (model prog w) A (call (.builtin "list.append") [acc, x]) (fun _ s₅ => ∃ m, m < n ∧ I m s₅) (notedBy (model prog w) A env fun e s' => R (.error e) s') s₄) (notedBy (model prog w) A env fun e s' => R (.error e) s') s₃
            else ∃ m, m < n ∧ I m s₃) (notedBy (model prog w) A env fun e s' => R (.error e) s') s₂) (notedBy (model prog w) A env fun e s' => R (.error e) s') s₁') (notedBy (model prog w) A env fun e s' => R (.error e) s') s₁) (notedBy (model prog w) A env fun e s' => R (.error e) s') s)
    (n : Nat) (h : I n s) :
    codeAny (model prog w) A (.compLoop (.ListComp elt gens scope pos) d it acc env) R s := by
  refine codeAny_loop rfl I (fun n s hI => ?_) n h
  show wpAny _ A ((compTurn (.ListComp elt gens scope pos) d it acc env).onRaise (fun x => do noteFrame x env; theTreesLotGoes x)) _ _ s
  refine wpAny_noted ?_
  rw [compTurnN_last elt gens d t1 i1 ifs1 scope pos it acc env h0 h1]
  refine wpAny_bind (wpAny_standAt (wpAny_bind (wpAny_mono (turn n s hI) (fun r s₁ h₁ => ?_) fun _ _ h' => h')))
  cases r with
  | none => exact wpAny_pure h₁
  | some v =>
    refine wpAny_bind (wpAny_mono h₁ (fun _ s₁' h₁' => ?_) fun _ _ h' => h')
    refine wpAny_bind (wpAny_mono h₁' (fun _ s₂ h₂ => wpAny_bind (wpAny_mono h₂ (fun ok s₃ h₃ => ?_) fun _ _ h' => h')) fun _ _ h' => h')
    cases ok with
    | false => exact wpAny_pure ⟨rfl, h₃⟩
    | true =>
      exact wpAny_bind (wpAny_bind (wpAny_mono h₃ (fun x s₄ h₄ => wpAny_bind (wpAny_mono h₄ (fun _ s₅ h₅ => wpAny_pure (wpAny_pure ⟨rfl, h₅⟩)) fun _ _ h' => h')) fun _ _ h' => h'))
theorem compStartN_ok (hg : gens[d]? = some ⟨t1, i1, ifs1, 0⟩) (h0 : codeAny (model prog w) A (.compLoop (.ListComp elt gens scope pos) d it acc env) R s)
    (h : wpAny (model prog w) A (pyIter it) (fun it' s' => codeAny (model prog w) A (.compLoop (.ListComp elt gens scope pos) d it' acc env) R s')
      (notedBy (model prog w) A env fun x s' => R (.error x) s') s) :
    codeAny (model prog w) A (.compStart (.ListComp elt gens scope pos) d it acc env) R s := by
  refine codeAny_of_tree ?_
  show wpAny _ _ ((compStart (.ListComp elt gens scope pos) d it acc env).onRaise (fun x => do noteFrame x env; standAt theWindowsPlace)) _ _ s
  refine wpAny_notedAt ?_
  have hc : (clausesOf (.ListComp elt gens scope pos))[d]? = some ⟨t1, i1, ifs1, 0⟩ := hg
  unfold compStart
  rw [hc]
  show wpAny _ _ (ask >>= _) _ _ s
  refine wpAny_bind (wpAny_askSetting (wpAny_ite ?_))
  split
  · first
      | exact wpAny_bind (wpAny_pure (wpAny_pure (And.intro rfl h0)))
      | exact wpAny_pure (And.intro rfl h0)
  · first
      | exact wpAny_bind (wpAny_rule (wpAny_bind (wpAny_standAt (wpAny_bind (wpAny_mono h (fun it' s' h' => wpAny_pure (And.intro rfl h')) fun _ _ x => x)))))
      | (refine wpAny_bind (wpAny_rule ?_); show wpAny _ _ (standAt i1.pos >>= _) _ _ s; exact wpAny_bind (wpAny_standAt (wpAny_bind (wpAny_mono h (fun it' s' h' => wpAny_pure (And.intro rfl h')) fun _ _ x => x))))
end
end Nf

set_option Elab.async false
set_option linter.all false
set_option maxRecDepth 100000
set_option maxHeartbeats 4000000
namespace Nf
open PySem PySem.Spec PyProof.Rows L2


/-! ### list comprehensions of any number of clauses -/
theorem thnX {X : Cx} {α : Type} {t : Sem α} {Q Q' : α → Shared → Prop} {M : Model} {A : Around} {E : Value → Shared → Prop} {s : Shared} (hx : X.xe = fun _ _ => False) (h : wpAny M A t Q X.xe s) (hQ : ∀ a s, Q a s → Q' a s) : wpAny M A t Q' E s :=
  wpAny_mono h hQ fun e s' z => by
    rw [hx] at z
    exact z.elim
/-- what a loop leaves of the slots: those that it does not store -/
def KeepS (vs : List Nat) (σ σ' : L2.St) : Prop := σ.length = σ'.length ∧ ∀ (j : Nat) v, (wipe σ vs)[j]? = some (some v) → σ'[j]? = some (some v)
/-- the loop of the clause at depth d, its iterator made: vs the slots that it and the later clauses store -/
structure PCl (Y : Cx) (elt : Expr) (gens : List Comprehension) (scope : Scope) (pos : Pos) (d : Nat) (tg : Expr) (vs : List Nat) (t : It → Addr → L2.St → Hp → (Hp → Prop) → Prop) : Prop where
  run : ∀ (pins : List (Addr × Obj)) (s : Shared) (σ : L2.St) (H : Hp) (D : Addr) (Nx : Hp → Prop) (it : Addr) (fp : List Addr) (tn : Nat → Heap → Prop) (J : It) (R : Result → Shared → Prop), Inv Y pins σ H s → Turn Y.prog Y.w Y.K tg J fp it tn → tn 0 s.heap →
    (∀ b ∈ fp, FpOk Y pins H b) → t J D σ H Nx → (∀ s' σ' H', Inv Y pins σ' H' s' → KeepS vs σ σ' → Nx H' → R (.ok .next) s') →
    codeAny (model Y.prog Y.w) Y.A (.compLoop (.ListComp elt gens scope pos) d (.ref it) (.ref D) Y.env) R s
/-- a loop's reading: body tells what a turn does behind the tests -/
def tCl (g : TG) (tt : TT) (vs : List Nat) (body : Addr → L2.St → Hp → (Hp → Prop) → Prop) : It → Addr → L2.St → Hp → (Hp → Prop) → Prop := fun J D σ H Nx => ∃ W : Nat → Nat → Hp → Prop, (∃ m, W 0 m H) ∧ ∀ i m H, W i m H →
  (J.stop i H ∧ Nx H) ∨ (J.go i H ∧ ∃ N : Hp → Prop, (∀ H', N H' → ∃ m', m' < m ∧ W (i + 1) m' H') ∧ ∀ x H', J.yld i H x H' → g x (wipe σ vs) H' fun σ2 H2 => wipe σ2 vs = wipe σ vs ∧ tt σ2 H2 fun b H3 =>
    if b = true then body D σ2 H3 N else N H3)
/-- the last clause's: the element is put to the list -/
def bLast (te : TE) : Addr → L2.St → Hp → (Hp → Prop) → Prop := fun D σ2 H3 N => te σ2 H3 fun y H4 => ∃ acc, H4 D = some (.lst acc) ∧ acc.length < sizeLine ∧ N (upd H4 D (.lst (acc ++ [y])))
/-- another clause's: the next one's loop -/
def bMid (wi : TI) (t : It → Addr → L2.St → Hp → (Hp → Prop) → Prop) : Addr → L2.St → Hp → (Hp → Prop) → Prop := fun D σ2 H3 N => wi σ2 H3 fun J1 H4 => t J1 D σ2 H4 N
variable {Y : Cx} {elt tg iter : Expr} {gens : List Comprehension} {scope : Scope} {pos : Pos} {d : Nat} {ifs : List Expr} {g : TG} {tt : TT} {te : TE} {vs : List Nat}
theorem pcl_last (hc : Y.calm = true) (hx : Y.xe = fun _ _ => False) (h0 : gens[d]? = some ⟨tg, iter, ifs, 0⟩) (h1 : gens[d + 1]? = none) (pg : PG Y tg g) (pt : PTs Y ifs tt) (pe : PE Y elt te) : PCl Y elt gens scope pos d tg vs (tCl g tt vs (bLast te)) := by
  refine ⟨fun pins s σ H D Nx it fp tn J R I T st f h hR => ?_⟩
  obtain ⟨W, ⟨m0, w0⟩, turn⟩ := h
  have stat : ∀ {H' : Hp}, (∀ b ∈ fp, H' b = none) → ∀ b ∈ fp, FpOk Y pins H' b := fun hn b hb => ⟨hn b hb, (f b hb).2⟩
  refine compLoopN_last h0 h1 (fun k s' => ∃ j H', Inv Y pins (wipe σ vs) H' s' ∧ tn j s'.heap ∧ (∀ b ∈ fp, H' b = none) ∧ W j k H') ?_ m0 ⟨0, H, I.weak (wipe_length _ _) (fun j v e => (wipe_some e).1), st, fun b hb => (f b hb).1, w0⟩
  rintro k s12 ⟨j, H12, I12, st12, n12, w12⟩
  rcases turn j k H12 w12 with ⟨stop1, nx1⟩ | ⟨go1, Nx1, hNx1, step1⟩
  · refine thnF (T.done Y rfl rfl rfl hc j _ s12 (wipe σ vs) H12 (fun _ _ => False) I12 (stat n12) st12 stop1) fun r s13 ⟨hr, I13⟩ => ?_
    subst hr
    exact hR _ _ _ I13 ⟨(wipe_length σ vs).symm, fun _ _ e => e⟩ nx1
  · refine thnF (T.item Y rfl rfl rfl hc j _ s12 (wipe σ vs) H12 (fun _ _ => False) I12 (stat n12) st12 go1) fun r s13 ⟨u1, hr, h13⟩ => ?_
    subst hr
    refine thnF h13 fun _ s14 ⟨x1, H14, I14, r14, y14, st14, n14⟩ => ?_
    have I14' := I14.pinned (stat n14) (T.obj _ _ st14)
    refine thnX hx (pg.run _ s14 (wipe σ vs) H14 x1 u1 _ I14' r14 (step1 x1 H14 y14)) fun _ s15 ⟨σ15, H15, I15, hw15, q15⟩ => ?_
    refine thnX hx (pt.run _ s15 σ15 H15 _ I15 q15) fun b1 s16 ⟨H16, I16, q16⟩ => ?_
    have fin1 : ∀ {s' : Shared} {H' : Hp}, Inv Y (pins ++ pinsAt fp s14.heap) σ15 H' s' → Nx1 H' → ∃ m, m < k ∧ ∃ j H', Inv Y pins (wipe σ vs) H' s' ∧ tn j s'.heap ∧ (∀ b ∈ fp, H' b = none) ∧ W j m H' := fun {s' H'} I' nx => by
      obtain ⟨m', hm, w'⟩ := hNx1 H' nx
      have pin' : ∀ b ∈ fp, ∀ o, s14.heap.get? b = some o → s'.heap.get? b = some o ∧ H' b = none := fun b hb o e =>
        let z := I'.pin (b, o) (List.mem_append_right _ (List.mem_append_right _ (mem_pinsAt hb e)))
        ⟨z.1, z.2.1⟩
      refine ⟨m', hm, j + 1, H', I'.unpinned.weak (by rw [← hw15, wipe_length]) (fun j v e => by rw [← hw15] at e; exact (wipe_some e).1), T.keep _ _ _ st14 fun b hb o e => (pin' b hb o e).1, fun b hb => ?_, w'⟩
      obtain ⟨o, e, _⟩ := T.obj _ _ st14 b hb
      exact (pin' b hb o e).2
    cases b1 with
    | false =>
      simp only [Bool.false_eq_true, if_false] at q16 ⊢
      exact fin1 I16 q16
    | true =>
      simp only [if_true] at q16 ⊢
      refine thnX hx (pe.run _ s16 σ15 H16 _ I16 q16) fun z s17 ⟨yv, H17, I17, r17, acc, hD17, hz17, nx⟩ => ?_
      exact app_ok (X := Y) I17 hD17 hz17 r17 fun s18 I18 => fin1 I18 nx
theorem pcl_mid {tg1 iter1 : Expr} {ifs1 : List Expr} {wi1 : TI} {vs1 : List Nat} {t1 : It → Addr → L2.St → Hp → (Hp → Prop) → Prop} (hc : Y.calm = true) (hx : Y.xe = fun _ _ => False) (h0 : gens[d]? = some ⟨tg, iter, ifs, 0⟩) (h1 : gens[d + 1]? = some ⟨tg1, iter1, ifs1, 0⟩) (hv : ∀ i ∈ vs1, i ∈ vs)
    (pg : PG Y tg g) (pt : PTs Y ifs tt) (pi1 : PI Y tg1 iter1 wi1) (hs1 : ∀ x, foldedSetIterable iter1 Y.env x = pure x) (pc : PCl Y elt gens scope pos (d + 1) tg1 vs1 t1) : PCl Y elt gens scope pos d tg vs (tCl g tt vs (bMid wi1 t1)) := by
  refine ⟨fun pins s σ H D Nx it fp tn J R I T st f h hR => ?_⟩
  obtain ⟨W, ⟨m0, w0⟩, turn⟩ := h
  have stat : ∀ {H' : Hp}, (∀ b ∈ fp, H' b = none) → ∀ b ∈ fp, FpOk Y pins H' b := fun hn b hb => ⟨hn b hb, (f b hb).2⟩
  refine compLoopN_mid h0 h1 hs1 (fun k s' => ∃ j H', Inv Y pins (wipe σ vs) H' s' ∧ tn j s'.heap ∧ (∀ b ∈ fp, H' b = none) ∧ W j k H') ?_ m0 ⟨0, H, I.weak (wipe_length _ _) (fun j v e => (wipe_some e).1), st, fun b hb => (f b hb).1, w0⟩
  rintro k s12 ⟨j, H12, I12, st12, n12, w12⟩
  rcases turn j k H12 w12 with ⟨stop1, nx1⟩ | ⟨go1, Nx1, hNx1, step1⟩
  · refine thnF (T.done Y rfl rfl rfl hc j _ s12 (wipe σ vs) H12 (fun _ _ => False) I12 (stat n12) st12 stop1) fun r s13 ⟨hr, I13⟩ => ?_
    subst hr
    exact hR _ _ _ I13 ⟨(wipe_length σ vs).symm, fun _ _ e => e⟩ nx1
  · refine thnF (T.item Y rfl rfl rfl hc j _ s12 (wipe σ vs) H12 (fun _ _ => False) I12 (stat n12) st12 go1) fun r s13 ⟨u1, hr, h13⟩ => ?_
    subst hr
    refine thnF h13 fun _ s14 ⟨x1, H14, I14, r14, y14, st14, n14⟩ => ?_
    have I14' := I14.pinned (stat n14) (T.obj _ _ st14)
    refine thnX hx (pg.run _ s14 (wipe σ vs) H14 x1 u1 _ I14' r14 (step1 x1 H14 y14)) fun _ s15 ⟨σ15, H15, I15, hw15, q15⟩ => ?_
    refine thnX hx (pt.run _ s15 σ15 H15 _ I15 q15) fun b1 s16 ⟨H16, I16, q16⟩ => ?_
    have fin1 : ∀ {σ9 : L2.St} {s' : Shared} {H' : Hp}, Inv Y (pins ++ pinsAt fp s14.heap) σ9 H' s' → (wipe σ vs).length = σ9.length → (∀ (j : Nat) v, (wipe σ vs)[j]? = some (some v) → σ9[j]? = some (some v)) → Nx1 H' →
        ∃ m, m < k ∧ ∃ j H', Inv Y pins (wipe σ vs) H' s' ∧ tn j s'.heap ∧ (∀ b ∈ fp, H' b = none) ∧ W j m H' := fun {σ9 s' H'} I' hl hk nx => by
      obtain ⟨m', hm, w'⟩ := hNx1 H' nx
      have pin' : ∀ b ∈ fp, ∀ o, s14.heap.get? b = some o → s'.heap.get? b = some o ∧ H' b = none := fun b hb o e =>
        let z := I'.pin (b, o) (List.mem_append_right _ (List.mem_append_right _ (mem_pinsAt hb e)))
        ⟨z.1, z.2.1⟩
      refine ⟨m', hm, j + 1, H', I'.unpinned.weak hl hk, T.keep _ _ _ st14 fun b hb o e => (pin' b hb o e).1, fun b hb => ?_, w'⟩
      obtain ⟨o, e, _⟩ := T.obj _ _ st14 b hb
      exact (pin' b hb o e).2
    have hl15 : (wipe σ vs).length = σ15.length := by rw [← hw15, wipe_length]
    cases b1 with
    | false =>
      simp only [Bool.false_eq_true, if_false] at q16 ⊢
      exact fin1 I16 hl15 (fun j v e => by rw [← hw15] at e; exact (wipe_some e).1) q16
    | true =>
      simp only [if_true] at q16 ⊢
      refine thnX hx (pi1.run _ s16 σ15 H16 _ I16 q16) fun xv s10 hxx => thnX hx hxx fun itv s11 h11 => ?_
      obtain ⟨it1, fp1, tn1, J1, H11, e1, I11, T1, st11, f11, q11⟩ := h11
      subst e1
      have loop1 : codeAny (model Y.prog Y.w) Y.A (.compLoop (.ListComp elt gens scope pos) (d + 1) (.ref it1) (.ref D) Y.env)
          (fun r s' => match r with
            | .ok _ => ∃ m, m < k ∧ ∃ j H', Inv Y pins (wipe σ vs) H' s' ∧ tn j s'.heap ∧ (∀ b ∈ fp, H' b = none) ∧ W j m H'
            | .error _ => False) s11 := by
        refine pc.run _ s11 σ15 H11 D Nx1 it1 fp1 tn1 J1 _ I11 T1 st11 f11 q11 fun s' σ' H' I' ks nx => ?_
        refine fin1 I' (hl15.trans ks.1) (fun j v e => ?_) nx
        refine ks.2 j v ?_
        rw [← hw15] at e
        obtain ⟨e1, e2⟩ := wipe_some e
        rw [wipe_out fun z => e2 (hv j z)]
        exact e1
      exact compStartN_ok h1 loop1 (T1.self Y.A 0 _ _ _ st11 loop1)
end Nf

set_option Elab.async false
set_option linter.all false
set_option maxRecDepth 100000
set_option maxHeartbeats 4000000
namespace Nf
open PySem PySem.Spec PyProof.Rows L2

variable {X : Cx}
/-- [elt for tg in iter .. for .. ..] -/
def tLcN (wi : TI) (t : It → Addr → L2.St → Hp → (Hp → Prop) → Prop) (vs : List Nat) : TE := fun σ H Q => wi σ H fun J H1 => ∀ D, H1 D = none → t J D (wipe σ vs) (upd H1 D (.lst [])) fun H2 => Q (.ref D) H2
theorem lcN_core {pins : List (Addr × Obj)} {s : Shared} {σ : L2.St} {H : Hp} {Q : VK} {elt tg iter : Expr} {ifs : List Expr} {rest : List Comprehension} {scope : Scope} {own : List (Str × Nat)} {pos pos' : Pos} {wi : TI} {t : It → Addr → L2.St → Hp → (Hp → Prop) → Prop} {use : Option (Value → Sem Unit)} {Qf : Value → Shared → Prop}
    (hc : X.calm = true) (hN : X.N.Nodup) (I : Inv X pins σ H s) (hi : PI X tg iter wi) (ok : BlkOk X.N X.env.scope scope own)
    (hp : ∀ (s : Shared) (H : Hp) (C : Addr) (cl : List (Str × Addr)) (fp : List Addr), PCl (X.blk s H scope (compEnvC scope cl C X.env) fp) elt (⟨tg, iter, ifs, 0⟩ :: rest) scope pos 0 tg (own.map (·.2)) t) (hs : ∀ x, foldedSetIterable iter X.env x = pure x)
    (h : tLcN wi t (own.map (·.2)) σ H Q)
    (hRR : ∀ D C s' m H', Inv X pins σ H' s' → Q (.ref D) H' → s'.heap.Ns C m → FpOk X pins H' C → compPost (model X.prog X.w) X.A X.xe use Qf (.ref D) C (.ok .next) s') :
    wpAny (model X.prog X.w) X.A (comprehension (.ListComp elt (⟨tg, iter, ifs, 0⟩ :: rest) scope pos) scope X.env pos' (newList []) false (eval iter X.env) use) Qf X.xe s := by
  have hfree : ∀ y ∈ scope.names, y.2 = .free → ∃ c, X.env.cells.lookup y.1 = some c := fun y hy e => by
    rcases ok.free y hy e with k | k
    · exact I.ok.has _ (.inl k)
    · exact I.ok.has _ (.inr k)
  refine wpAny_comprehension_free (use := use) rfl hs (closure_ok hfree) ok.kind (fun y hy e => by rw [ok.uniq y hy, e])
    (thn (hi.run pins s σ H _ I h) fun xv s1 hx => thn hx fun itv s2 h2 => ?_)
  obtain ⟨it, fp, tn, J, H2, e, I2, T, st2, f2, q⟩ := h2
  subst e
  refine wpAny_newObj_type (newEnv_comp ?_) (by show 0 ≤ sizeLine; decide)
  generalize hD : s2.heap.objs.size = D
  have hDn : H2 D = none := I2.hok.fresh (Nat.le_of_eq hD)
  have qt := q D hDn
  -- the new list
  generalize hs3 : ({ s2 with heap := s2.heap.push { cls := .type "list", data := .seq ([] : List Value).toArray } } : Shared) = s3
  have I3 : Inv X pins σ (upd H2 D (.lst [])) s3 := by
    rw [← hs3]
    refine I2.laid (t' := s2.toks) (fun b o e => Heap.get?_push_of_some _ e) (Nat.le_of_eq hD) ⟨Nat.zero_le _, [], 0, .nil, ?_⟩
    rw [← hD]
    exact Heap.get?_push_size _ rfl
  have h3 : s3.heap = s2.heap.push { cls := .type "list", data := .seq ([] : List Value).toArray } := by rw [← hs3]
  have sz : ∀ b ∈ fp, b < s2.heap.objs.size := fun b hb => by
    obtain ⟨o, e, _⟩ := T.obj _ _ st2 b hb
    exact Heap.lt_size e
  have f3 : ∀ b ∈ fp, FpOk X pins (upd H2 D (.lst [])) b ∧ b < s3.heap.objs.size := fun b hb => by
    have hlt := sz b hb
    refine ⟨⟨?_, (f2 b hb).2⟩, by rw [h3, Heap.size_push]; exact Nat.lt_succ_of_lt hlt⟩
    rw [upd_ne (by rw [← hD]; exact Nat.ne_of_lt hlt)]
    exact (f2 b hb).1
  have st3 : tn 0 s3.heap := T.keep _ _ _ st2 fun b _ o e => by rw [h3]; exact Heap.get?_push_of_some _ e
  have I4 := block_start I3 ok hN f3
  have pc := hp s3 (upd H2 D (.lst [])) s3.heap.objs.size (cellsFrom (s3.heap.objs.size + 1) scope.names (cloFrom X.env.cells scope.names [])) fp
  show codeAny _ _ (.compStart (.ListComp elt (⟨tg, iter, ifs, 0⟩ :: rest) scope pos) 0 (.ref it) (.ref D) (compEnvC scope (cellsFrom (s3.heap.objs.size + 1) scope.names (cloFrom X.env.cells scope.names [])) s3.heap.objs.size X.env)) (compPost (model X.prog X.w) X.A X.xe use Qf (.ref D) s3.heap.objs.size) { s3 with heap := pushCells (s3.heap.push { cls := .type "dict", data := .dict #[] }) scope.names }
  have nfp : ∀ b ∈ fp, (upd H2 D (.lst [])) b = none := fun b hb => (f3 b hb).1.1
  generalize hce : compEnvC scope (cellsFrom (s3.heap.objs.size + 1) scope.names (cloFrom X.env.cells scope.names [])) s3.heap.objs.size X.env = ce at I4 pc ⊢
  have cL : ce.locals = s3.heap.objs.size := by subst hce; rfl
  generalize hH3 : upd H2 D (.lst []) = H3 at I3 I4 pc nfp f3 qt
  generalize hs4 : ({ s3 with heap := pushCells (s3.heap.push { cls := .type "dict", data := .dict #[] }) scope.names } : Shared) = s4 at I4 ⊢
  have st4 : tn 0 s4.heap := T.keep _ _ _ st3 fun b _ o e => by rw [← hs4]; exact pushCells_keeps _ _ _ _ (Heap.get?_push_of_some _ e)
  have stat : ∀ b ∈ fp, FpOk (X.blk s3 H3 scope ce fp) [] H3 b := fun b hb =>
    ⟨nfp b hb, (I4.ok.exf b hb).1, I4.ok.exfs b hb, .inl hb, fun x c e => (I4.ok.exf b hb).2 x c e, fun p hp => absurd (show p ∈ ([] : List (Addr × Obj)) ++ [] from hp) (by simp)⟩
  have loop : codeAny (model X.prog X.w) X.A (.compLoop (.ListComp elt (⟨tg, iter, ifs, 0⟩ :: rest) scope pos) 0 (.ref it) (.ref D) ce) (compPost (model X.prog X.w) X.A X.xe use Qf (.ref D) s3.heap.objs.size) s4 := by
    refine pc.run [] s4 _ H3 D _ it fp tn J _ I4 T st4 stat qt fun s6 σ6 H6 I6 _ qq => ?_
    have I7 : Inv X pins σ H6 s6 := I3.call' (ch := fp) I6.os I6.base I6.hok I6.bare fun b hb => ⟨(f3 b hb).1.2.2.2.1, (f3 b hb).1.2.1, (f3 b hb).1.2.2.2.2.1, (f3 b hb).1.2.2.2.2.2⟩
    have nC : H6 s3.heap.objs.size = none := by
      have z : H6 ce.locals = none := I6.free
      rw [cL] at z
      exact z
    obtain ⟨m, hn, _⟩ := I6.loc
    have hn : s6.heap.Ns ce.locals m := hn
    rw [cL] at hn
    exact hRR D s3.heap.objs.size s6 m H6 I7 qq hn (I3.fpOk (Nat.le_refl _) nC)
  exact codeAny_compStart_list loop (T.self X.A 0 _ _ _ st4 loop)
/-- as a value -/
theorem pe_lcN {elt tg iter : Expr} {ifs : List Expr} {rest : List Comprehension} {scope : Scope} {own : List (Str × Nat)} {pos : Pos} {wi : TI} {t : It → Addr → L2.St → Hp → (Hp → Prop) → Prop} (hc : X.calm = true) (hN : X.N.Nodup) (hi : PI X tg iter wi) (ok : BlkOk X.N X.env.scope scope own)
    (hp : ∀ (s : Shared) (H : Hp) (C : Addr) (cl : List (Str × Addr)) (fp : List Addr), PCl (X.blk s H scope (compEnvC scope cl C X.env) fp) elt (⟨tg, iter, ifs, 0⟩ :: rest) scope pos 0 tg (own.map (·.2)) t) (hs : ∀ x, foldedSetIterable iter X.env x = pure x := by intro _; rfl) :
    PE X (.ListComp elt (⟨tg, iter, ifs, 0⟩ :: rest) scope pos) (tLcN wi t (own.map (·.2))) := by
  refine ⟨fun pins s σ H Q I h => ?_⟩
  rw [eval_ListComp]
  refine lcN_core hc hN I hi ok hp hs h fun D C s' m H' I' q hn f => ⟨m, hn, fun h'' sb => ?_⟩
  obtain ⟨f0, f1, f2, f3, f4, f5⟩ := f
  exact ⟨.ref D, H', I'.turned (t' := s'.toks) (fun b o hb e => (sb.2 b hb).trans e) f0 f1 f3 f4 f5, rfl, q⟩
/-- name = [..] -/
theorem ps_setLcN {i : Nat} {y : Str} {py : Pos} {elt tg iter : Expr} {ifs : List Expr} {rest : List Comprehension} {scope : Scope} {own : List (Str × Nat)} {pos spos : Pos} {wi : TI} {t : It → Addr → L2.St → Hp → (Hp → Prop) → Prop} (hc : X.calm = true) (hN : X.N.Nodup) (hy : X.N[i]? = some y) (hyl : X.env.scope.names.lookup y = some .local)
    (hsw : swapsWith (.ListComp elt (⟨tg, iter, ifs, 0⟩ :: rest) scope pos) (some (.Name y py)) spos.line X.env = pure true) (hi : PI X tg iter wi) (ok : BlkOk X.N X.env.scope scope own)
    (hp : ∀ (s : Shared) (H : Hp) (C : Addr) (cl : List (Str × Addr)) (fp : List Addr), PCl (X.blk s H scope (compEnvC scope cl C X.env) fp) elt (⟨tg, iter, ifs, 0⟩ :: rest) scope pos 0 tg (own.map (·.2)) t) (hs : ∀ x, foldedSetIterable iter X.env x = pure x := by intro _; rfl) :
    PS X (.Assign [.Name y py] (.ListComp elt (⟨tg, iter, ifs, 0⟩ :: rest) scope pos) spos) (tAsg (tLcN wi t (own.map (·.2))) (gName i)) := by
  refine ⟨fun pins s σ H D I h => ?_⟩
  rw [exec_Assign_Name_used _ _ _ _ hsw]
  refine wpAny_bind (wpAny_standAt (wpAny_bind ?_))
  show wpAny _ X.A (do let _ ← comprehension (.ListComp elt (⟨tg, iter, ifs, 0⟩ :: rest) scope pos) scope X.env (firstIterPos (⟨tg, iter, ifs, 0⟩ :: rest) pos) (newList []) false (eval iter X.env) (some (assign (.Name y py) X.env))) _ _ s
  have h : tLcN wi t (own.map (·.2)) σ H (fun x H1 => gName i x σ H1 D.nx) := h
  refine wpAny_bind (thn (lcN_core (Qf := fun _ s' => SP X pins D .next s') hc hN I hi ok hp hs h fun L C s' m H' I' q hn f => ?_) fun _ s' hq => wpAny_pure (wpAny_pure hq))
  show wpAny _ _ (assign (.Name y py) X.env (.ref L)) _ _ _
  refine wpAny_assign_Name (store_ok2 (v := V.ref L) I' hN hy (.inl hyl) rfl (fun s2 I2 ⟨a, sb, ha⟩ => ?_) (.inr hyl))
  obtain ⟨f0, f1, f2, f3, f4, f5⟩ := f
  have haC : C ≠ a := by
    rcases ha with z | z
    · rw [z]; exact f1
    · exact fun e => f4 y a z e.symm
  refine ⟨m, hn.sameBut sb haC, fun h3 sb3 => ?_⟩
  exact ⟨_, H', I2.turned (t' := s2.toks) (fun b o hb e => (sb3.2 b hb).trans e) f0 f1 f3 f4 f5, q⟩

/-- a clause's loop over a walk: Pv by the turn and the heap -/
theorem cl_it {J : It} {n : Nat} {G : Hp → Prop} {Yd : Nat → Hp → V → Hp → Prop} (w : Walk J n G Yd) {g : TG} {tt : TT} {vs : List Nat} {body : Addr → L2.St → Hp → (Hp → Prop) → Prop} {D : Addr} {σ : L2.St} {H : Hp} {Nx : Hp → Prop} (Pv : Nat → Hp → Prop) (h0 : Pv 0 H) (hG : ∀ i H, i ≤ n → Pv i H → G H)
    (hs : ∀ i x H H', i < n → Pv i H → Yd i H x H' → g x (wipe σ vs) H' fun σ2 H2 => wipe σ2 vs = wipe σ vs ∧ tt σ2 H2 fun b H3 => if b = true then body D σ2 H3 (Pv (i + 1)) else Pv (i + 1) H3) (hd : ∀ H, Pv n H → Nx H) :
    tCl g tt vs body J D σ H Nx := by
  refine ⟨fun i m H => m = n - i ∧ i ≤ n ∧ Pv i H, ⟨n, by simp, Nat.zero_le _, h0⟩, ?_⟩
  rintro i m H ⟨rfl, hi, p⟩
  have q := hG i H hi p
  by_cases hlt : i < n
  · exact .inr ⟨w.goes i H hlt q, Pv (i + 1), fun H' p' => ⟨n - (i + 1), by omega, rfl, hlt, p'⟩, fun x H' y => hs i x H H' hlt p (w.yields i H x H' hlt q y)⟩
  · have e : i = n := by omega
    subst e
    exact .inl ⟨w.stops H q, hd H p⟩
end Nf

set_option Elab.async false
set_option linter.all false
set_option maxRecDepth 100000
set_option maxHeartbeats 4000000
namespace Nf
open PySem PySem.Spec PyProof.Rows L2

/-! ### the built-ins that stand as they are -/
structure Blt (mg : Str → Option Value) : Prop where
  len : mg "len" = none
  all : mg "all" = none
  zip : mg "zip" = none
  set : mg "set" = none
  sorted : mg "sorted" = none
  enumerate : mg "enumerate" = none
  list : mg "list" = none
  tuple : mg "tuple" = none
  range : mg "range" = none
  isinstance : mg "isinstance" = none
  min : mg "min" = none
  max : mg "max" = none
  int : mg "int" = none
  bool : mg "bool" = none
  str : mg "str" = none

theorem two_le : 2 ≤ sizeLine := by decide
theorem five_le : 5 ≤ sizeLine := by decide
/-! ### heaps -/
/-- tuples stay -/
def SameT (H H' : Hp) : Prop := ∀ a xs, H a = some (.tup xs) → H' a = some (.tup xs)
theorem SameT.refl (H : Hp) : SameT H H := fun _ _ e => e
theorem SameT.trans {H H1 H2 : Hp} (a : SameT H H1) (b : SameT H1 H2) : SameT H H2 := fun _ _ e => b _ _ (a _ _ e)
theorem same_toT {H H' : Hp} (h : Same H H') : SameT H H' := fun a xs e => h a _ e
theorem same_new {H : Hp} {p : Addr} {o : HO} (h : H p = none) : Same H (upd H p o) := fun b x e => by
  rw [upd_ne (ne_of_none e h)]
  exact e
/-- what was not there before may change -/
theorem same_put {H H' : Hp} {p : Addr} {o : HO} (s : Same H H') (h : H p = none) : Same H (upd H' p o) := fun b x e => by
  rw [upd_ne (ne_of_none e h)]
  exact s _ _ e
theorem yesT {σ : L2.St} {H : Hp} {A B : Hp → Prop} (h : A H) : tYes σ H fun b H3 => if b = true then A H3 else B H3 := by
  show if true = true then A H else B H
  exact iteT h
/-- all but r stays -/
def Sx (r : Addr) (H H' : Hp) : Prop := ∀ b o, b ≠ r → H b = some o → H' b = some o
theorem Sx.refl (r : Addr) (H : Hp) : Sx r H H := fun _ _ _ e => e
theorem Sx.trans {r : Addr} {H H1 H2 : Hp} (a : Sx r H H1) (b : Sx r H1 H2) : Sx r H H2 := fun c o n e => b c o n (a c o n e)
theorem same_sx {r : Addr} {H H' : Hp} (h : Same H H') : Sx r H H' := fun b o _ e => h b o e
theorem Sx.upd {r : Addr} {H : Hp} {o : HO} : Sx r H (upd H r o) := fun b x n e => by
  rw [upd_ne n]
  exact e
theorem Sx.toT {r : Addr} {H H' : Hp} {xs : List V} (h : Sx r H H') (hr : H r = some (.lst xs)) : SameT H H' := fun a ys e => h a _ (ne_of e hr (by intro z; cases z)) e
theorem Sx.seq {K : PySem.W.Frag} {r a : Addr} {H H' : Hp} {xs : List V} (h : Sx r H H') (n : a ≠ r) (q : SqL K H a xs) : SqL K H' a xs := by
  rcases q with (q | ⟨o, q⟩) | q
  · exact .inl (.inl (h _ _ n q))
  · exact .inl (.inr ⟨o, h _ _ n q⟩)
  · exact .inr q

/-! ### the slots of a comprehension -/
theorem wipe_get {σ : L2.St} : ∀ {vs : List Nat} {j : Nat}, (wipe σ vs)[j]? = if j ∈ vs ∧ j < σ.length then some none else σ[j]?
  | [], j => by simp [wipe]
  | v :: vs, j => by
    unfold wipe
    by_cases h : v = j
    · subst h
      by_cases hl : v < σ.length
      · rw [List.getElem?_set_self (by rw [wipe_length]; exact hl), if_pos ⟨List.mem_cons_self, hl⟩]
      · rw [if_neg (fun z => hl z.2), List.getElem?_eq_none (by simp [wipe_length]; omega), List.getElem?_eq_none (by omega)]
    · rw [List.getElem?_set_ne h, wipe_get]
      have e : (j ∈ v :: vs ∧ j < σ.length) ↔ (j ∈ vs ∧ j < σ.length) := by
        simp only [List.mem_cons]
        constructor
        · rintro ⟨z | z, q⟩
          · exact absurd z.symm h
          · exact ⟨z, q⟩
        · rintro ⟨z, q⟩
          exact ⟨.inr z, q⟩
      simp only [e]
theorem wipe_eq {σ σ' : L2.St} {vs : List Nat} (hl : σ'.length = σ.length) (h : ∀ j, j ∉ vs → σ'[j]? = σ[j]?) : wipe σ' vs = wipe σ vs := by
  refine List.ext_getElem? fun j => ?_
  rw [wipe_get, wipe_get, hl]
  by_cases hj : j ∈ vs ∧ j < σ.length
  · rw [if_pos hj, if_pos hj]
  · rw [if_neg hj, if_neg hj]
    by_cases hm : j ∈ vs
    · have : ¬ j < σ.length := fun z => hj ⟨hm, z⟩
      rw [List.getElem?_eq_none (by omega), List.getElem?_eq_none (by omega)]
    · exact h j hm
theorem wipe_put {σ : L2.St} {vs : List Nat} {i : Nat} {x : Option V} (hi : i ∈ vs) : wipe ((wipe σ vs).set i x) vs = wipe σ vs := by
  refine wipe_eq (by rw [List.length_set, wipe_length]) fun j hj => ?_
  have ne : i ≠ j := by
    intro e
    exact hj (e ▸ hi)
  rw [List.getElem?_set_ne ne, wipe_get, if_neg fun z => hj z.1]
theorem wipe_put2 {σ : L2.St} {vs : List Nat} {i k : Nat} {x y : Option V} (hi : i ∈ vs) (hk : k ∈ vs) : wipe (((wipe σ vs).set i x).set k y) vs = wipe σ vs := by
  refine wipe_eq (by rw [List.length_set, List.length_set, wipe_length]) fun j hj => ?_
  have ne : i ≠ j := by
    intro e
    exact hj (e ▸ hi)
  have nk : k ≠ j := by
    intro e
    exact hj (e ▸ hk)
  rw [List.getElem?_set_ne nk, List.getElem?_set_ne ne, wipe_get, if_neg fun z => hj z.1]
/-! ### tables, rounds -/
def TabV (H : Hp) (x : V) (t : Tbl) : Prop := ∃ a, x = .ref a ∧ H a = some (.tup (t.map V.int))
def RndV (H : Hp) (x : V) (r : Rnd) : Prop := ∃ a xs, x = .ref a ∧ H a = some (.tup xs) ∧ Paired (TabV H) xs r
theorem TabV.mono {H H' : Hp} {x : V} {t : Tbl} (h : TabV H x t) (s : SameT H H') : TabV H' x t := by
  obtain ⟨a, e, q⟩ := h
  exact ⟨a, e, s _ _ q⟩
theorem paired_mono {α β : Type} {R R' : α → β → Prop} (f : ∀ a b, R a b → R' a b) : ∀ {xs : List α} {ys : List β}, Paired R xs ys → Paired R' xs ys
  | _, _, .nil => .nil
  | _, _, .cons r t => .cons (f _ _ r) (paired_mono f t)
theorem RndV.mono {H H' : Hp} {x : V} {r : Rnd} (h : RndV H x r) (s : SameT H H') : RndV H' x r := by
  obtain ⟨a, xs, e, q, p⟩ := h
  exact ⟨a, xs, e, s _ _ q, paired_mono (fun _ _ z => z.mono s) p⟩
def PairV (H : Hp) (x : V) (p : Int × Int) : Prop := ∃ a, x = .ref a ∧ H a = some (.tup [.int p.1, .int p.2])
theorem PairV.mono {H H' : Hp} {x : V} {t : Int × Int} (h : PairV H x t) (s : SameT H H') : PairV H' x t := by
  obtain ⟨a, e, q⟩ := h
  exact ⟨a, e, s _ _ q⟩
theorem paired_get {α β : Type} {R : α → β → Prop} : ∀ {xs : List α} {ys : List β} {i : Nat} {y : β}, Paired R xs ys → ys[i]? = some y → ∃ x, xs[i]? = some x ∧ R x y
  | _, _, i, y, .nil, e => by simp at e
  | _, _, 0, y, .cons r _, e => by
    have e' := Option.some.inj e
    subst e'
    exact ⟨_, rfl, r⟩
  | _, _, i + 1, y, .cons _ t, e => by
    obtain ⟨x, h1, h2⟩ := paired_get (i := i) (y := y) t (by simpa using e)
    exact ⟨x, by simpa using h1, h2⟩
theorem paired_getL {α β : Type} {R : α → β → Prop} : ∀ {xs : List α} {ys : List β} {i : Nat} {x : α}, Paired R xs ys → xs[i]? = some x → ∃ y, ys[i]? = some y ∧ R x y
  | _, _, i, y, .nil, e => by simp at e
  | _, _, 0, y, .cons r _, e => by
    have e' := Option.some.inj e
    subst e'
    exact ⟨_, rfl, r⟩
  | _, _, i + 1, y, .cons _ t, e => by
    obtain ⟨x, h1, h2⟩ := paired_getL (i := i) (x := y) t (by simpa using e)
    exact ⟨x, by simpa using h1, h2⟩
theorem paired_len {α β : Type} {R : α → β → Prop} : ∀ {xs : List α} {ys : List β}, Paired R xs ys → xs.length = ys.length
  | _, _, .nil => rfl
  | _, _, .cons _ t => by simp [paired_len t]
theorem paired_snoc {α β : Type} {R : α → β → Prop} {x : α} {y : β} : ∀ {xs : List α} {ys : List β}, Paired R xs ys → R x y → Paired R (xs ++ [x]) (ys ++ [y])
  | _, _, .nil, r => .cons r .nil
  | _, _, .cons q t, r => .cons q (paired_snoc t r)
theorem sqt_same {K : PySem.W.Frag} {H H' : Hp} {a : Addr} {xs : List V} (h : SqT K H a xs) (s : Same H H') : SqT K H' a xs := by
  rcases h with (h | ⟨o, h⟩) | h
  · exact .inl (.inl (s _ _ h))
  · exact .inl (.inr ⟨o, s _ _ h⟩)
  · exact .inr h
theorem getElem?_int {ns : List Int} {i : Nat} {x : V} (h : (ns.map V.int)[i]? = some x) : ∃ n, ns[i]? = some n ∧ x = .int n := by
  rw [List.getElem?_map] at h
  cases e : ns[i]? with
  | none =>
    rw [e] at h
    cases h
  | some n =>
    rw [e] at h
    exact ⟨n, rfl, (Option.some.inj h).symm⟩
theorem int_getElem? {ns : List Int} {i : Nat} {n : Int} (h : ns[i]? = some n) : (ns.map V.int)[i]? = some (.int n) := by
  rw [List.getElem?_map, h]
  rfl

/-! ### the script's row of draws -/
structure RowAt (K : PySem.W.Frag) (H : Hp) (r a : Addr) (ns : List Int) : Prop where
  sc : SqL K H a (ns.map V.int)
  ne : a ≠ r ∨ ∀ H2 : Hp, SqL K H2 a (ns.map V.int)
  row : ∃ i s c : Int, H r = some (.lst [.ref a, .int i, .int s, .int c]) ∧ 0 ≤ i ∧ 0 ≤ s ∧ s < 2147483647
theorem RowAt.keep {K : PySem.W.Frag} {H H' : Hp} {r a : Addr} {ns : List Int} (h : RowAt K H r a ns) (s : Same H H') : RowAt K H' r a ns := by
  obtain ⟨i, z, c, e, q⟩ := h.row
  exact ⟨s.seq h.sc, h.ne, i, z, c, s _ _ e, q⟩
/-- a row that was just laid -/
theorem RowAt.new {K : PySem.W.Frag} {H : Hp} {r a : Addr} {ns : List Int} (h : SqL K H a (ns.map V.int)) (n : H r = none) : RowAt K (upd H r (.lst [.ref a, .int 0, .int 0, .int 0])) r a ns := by
  refine ⟨(same_new n).seq h, ?_, 0, 0, 0, upd_same, by decide, by decide, by decide⟩
  rcases h with (h | ⟨o, h⟩) | h
  · exact .inl (ne_of_none h n)
  · exact .inl (ne_of_none h n)
  · exact .inr fun _ => .inr h
theorem RowAt.lst {K : PySem.W.Frag} {H : Hp} {r a : Addr} {ns : List Int} (h : RowAt K H r a ns) : ∃ xs, H r = some (.lst xs) := by
  obtain ⟨i, z, c, e, _⟩ := h.row
  exact ⟨_, e⟩
theorem RowAt.set {K : PySem.W.Frag} {H : Hp} {r a : Addr} {ns : List Int} (h : RowAt K H r a ns) {i s c : Int} (hi : 0 ≤ i) (h0 : 0 ≤ s) (h1 : s < 2147483647) : RowAt K (upd H r (.lst [.ref a, .int i, .int s, .int c])) r a ns :=
  ⟨h.ne.elim (fun n => Sx.upd.seq n h.sc) (fun z => z _), h.ne, i, s, c, upd_same, hi, h0, h1⟩
end Nf

set_option Elab.async false
set_option linter.all false
set_option maxRecDepth 100000
set_option maxHeartbeats 4000000
namespace Nf
open PySem PySem.Spec PyProof.Rows L2
/-! ### the text by places -/
def topS (i : Nat) : Stmt := PySem.Challenge.pw_newfaces_k02_who_has_met_whom.main.body.getD i (.Pass ⟨0, 0, 0, 0⟩)
abbrev cBadRound : Stmt := topS 3
abbrev sBRInit : Stmt := inClass cBadRound 0
abbrev sCheck : Stmt := topS 7
abbrev sIsRound : Stmt := topS 8
abbrev sIsTable : Stmt := topS 9
abbrev sRises : Stmt := topS 10
abbrev sPairs : Stmt := topS 11
abbrev sMet : Stmt := topS 13
abbrev sUnmet : Stmt := topS 14
abbrev cParty : Stmt := topS 20
abbrev sInit : Stmt := inClass cParty 0
abbrev sGuests : Stmt := inClass cParty 1
abbrev sSize : Stmt := inClass cParty 2
abbrev sTables : Stmt := inClass cParty 3
abbrev sIsParty : Stmt := topS 21
abbrev lTaken : Stmt := topS 23
abbrev lAlike : Stmt := topS 24
abbrev lFew : Stmt := topS 25
abbrev lMany : Stmt := topS 26
abbrev lMixed : Stmt := topS 27
abbrev lSeated : Stmt := topS 28
abbrev lPairs : Stmt := topS 29
abbrev lKnown : Stmt := topS 30
abbrev lNew : Stmt := topS 31
abbrev lThin : Stmt := topS 32
abbrev lPlan : Stmt := topS 33
abbrev lIsRound : Stmt := topS 34
abbrev lSpoilt : Stmt := topS 35
abbrev lDue : Stmt := topS 36
abbrev lRefused : Stmt := topS 37
abbrev lLaw : Stmt := topS 38
end Nf

set_option Elab.async false
set_option linter.all false
set_option maxRecDepth 100000
set_option maxHeartbeats 4000000
namespace Nf
open PySem PySem.Spec PyProof.Rows L2
/-! ### what is known of pairs, in a dict; a verdict as a value -/
def KnownD (H : Hp) (d : Addr) (kn : Known) (N : Nat) : Prop := ∃ kvs : List (List Key × V), H d = some (.dT kvs) ∧ kvs.length ≤ N ∧ ∀ a b : Int, valV kvs [Sum.inl a, Sum.inl b] = (kn a b).map fun k => V.int (k : Nat)
theorem knownD_same {H H' : Hp} {d : Addr} {kn : Known} {N : Nat} (h : KnownD H d kn N) (s : Same H H') : KnownD H' d kn N := by
  obtain ⟨kvs, e, q⟩ := h
  exact ⟨kvs, s _ _ e, q⟩
theorem knownD_new {H : Hp} {d : Addr} (h : H d = some (.dT [])) : KnownD H d k0 0 := ⟨[], h, Nat.le_refl _, fun _ _ => rfl⟩
theorem key2_ne {a b x y : Int} : (([Sum.inl a, Sum.inl b] : List Key) = [Sum.inl x, Sum.inl y]) ↔ (a = x ∧ b = y) := by
  constructor
  · intro h
    injection h with h1 h2
    injection h2 with h2 _
    exact ⟨Sum.inl.inj h1, Sum.inl.inj h2⟩
  · rintro ⟨rfl, rfl⟩
    rfl
/-- d[(x, y)] = k -/
theorem knownD_put {H : Hp} {d T : Addr} {kn : Known} {N : Nat} {x y : Int} {l : List (Int × Int)} {k : Nat} (h : KnownD H d (kaddL kn l k) N) (hT : H T = some (.tup [.int x, .int y])) (hN : N < sizeLine) :
    ∃ kvs', DPut H d (.ref T) (.int (k : Nat)) (upd H d (.dT kvs')) ∧ KnownD (upd H d (.dT kvs')) d (kaddL kn (l ++ [(x, y)]) k) (N + 1) := by
  obtain ⟨kvs, e, hl, hv⟩ := h
  refine ⟨putK kvs [Sum.inl x, Sum.inl y] (.int (k : Nat)), DPut.t (k := [Sum.inl x, Sum.inl y]) e hT (by omega), _, upd_same, ?_, fun a b => ?_⟩
  · have := length_putK kvs [Sum.inl x, Sum.inl y] (.int (k : Nat))
    omega
  · rw [valV_put, kaddL_snoc, hv]
    by_cases h : a = x ∧ b = y
    · rw [if_pos h, if_pos (key2_ne.mpr h)]
      rfl
    · rw [if_neg h, if_neg (fun z => h (key2_ne.mp z))]
def VerdV (H : Hp) (x : V) : Verd → Prop
  | .good => x = .non
  | .rnd k => ∃ q, x = .ref q ∧ H q = some (.tup [.str "round", .int (k : Nat)])
  | .twice a b j k => ∃ q, x = .ref q ∧ H q = some (.tup [.str "twice", .int a, .int b, .int (j : Nat), .int (k : Nat)])
def PlanV (K : PySem.W.Frag) (H : Hp) (l : Addr) (rs : List Rnd) : Prop := ∃ xs, SqL K H l xs ∧ Paired (RndV H) xs rs
theorem planV_same {K : PySem.W.Frag} {H H' : Hp} {l : Addr} {rs : List Rnd} (h : PlanV K H l rs) (s : Same H H') : PlanV K H' l rs := by
  obtain ⟨xs, e, q⟩ := h
  exact ⟨xs, s.seq e, paired_mono (fun _ _ z => z.mono (same_toT s)) q⟩
structure Small (rs : List Rnd) : Prop where
  n : rs.length ≤ 1000
  r : ∀ r ∈ rs, r.length ≤ 100000
  t : ∀ r ∈ rs, ∀ t ∈ r, t.length ≤ 100000
end Nf

set_option Elab.async false
set_option linter.all false
set_option maxRecDepth 100000
set_option maxHeartbeats 4000000
namespace Nf
open PySem PySem.Spec PyProof.Rows L2
/-! ### tables and rounds as data -/
def dT (t : Tbl) : PyData := .tuple (t.map .int)
theorem eqvInts : ∀ {xs ys : List Int}, PyData.eqvAll (xs.map .int) (ys.map .int) = true ↔ xs = ys
  | [], [] => by simp [PyData.eqvAll]
  | [], _ :: _ => by simp [PyData.eqvAll]
  | _ :: _, [] => by simp [PyData.eqvAll]
  | x :: xs, y :: ys => by
    have ih := eqvInts (xs := xs) (ys := ys)
    simp only [List.map_cons, PyData.eqvAll, PyData.eqv, Bool.and_eq_true, ih, beq_iff_eq, List.cons.injEq]
theorem eqvTabs : ∀ {xs ys : List Tbl}, PyData.eqvAll (xs.map dT) (ys.map dT) = true ↔ xs = ys
  | [], [] => by simp [PyData.eqvAll]
  | [], _ :: _ => by simp [PyData.eqvAll]
  | _ :: _, [] => by simp [PyData.eqvAll]
  | x :: xs, y :: ys => by
    have ih := eqvTabs (xs := xs) (ys := ys)
    simp only [List.map_cons, PyData.eqvAll, dT, PyData.eqv, Bool.and_eq_true, eqvInts, List.cons.injEq]
    have ih : PyData.eqvAll (xs.map dT) (ys.map dT) = true ↔ xs = ys := ih
    exact and_congr Iff.rfl ih
theorem eqvRnds : ∀ {xs ys : List Rnd}, PyData.eqvAll (xs.map fun r => .tuple (r.map dT)) (ys.map fun r => .tuple (r.map dT)) = true ↔ xs = ys
  | [], [] => by simp [PyData.eqvAll]
  | [], _ :: _ => by simp [PyData.eqvAll]
  | _ :: _, [] => by simp [PyData.eqvAll]
  | x :: xs, y :: ys => by
    have ih := eqvRnds (xs := xs) (ys := ys)
    simp only [List.map_cons, PyData.eqvAll, PyData.eqv, Bool.and_eq_true, eqvTabs, List.cons.injEq, ih]
theorem layInts : ∀ xs : List Int, PyData.canLayAll0 (xs.map .int) = true
  | [] => rfl
  | x :: xs => by simp [PyData.canLayAll0, PyData.canLay0, layInts xs]
theorem layTabs : ∀ xs : List Tbl, PyData.canLayAll0 (xs.map dT) = true
  | [] => rfl
  | x :: xs => by simp [PyData.canLayAll0, PyData.canLay0, layTabs xs, dT, layInts]
theorem layRnds : ∀ xs : List Rnd, PyData.canLayAll0 (xs.map fun r => .tuple (r.map dT)) = true
  | [] => rfl
  | x :: xs => by simp [PyData.canLayAll0, PyData.canLay0, layRnds xs, layTabs]
theorem depInts (xs : List Int) : PyData.depthAll (xs.map .int) = 0 := PySem.W.depth_ints xs
theorem depT (t : Tbl) : (dT t).depth ≤ 1 := by
  unfold dT
  simp [PyData.depth, depInts]
theorem depTabs : ∀ xs : List Tbl, PyData.depthAll (xs.map dT) ≤ 1
  | [] => by simp [PyData.depthAll]
  | x :: xs => by
    have := depTabs xs
    have := depT x
    simp only [List.map_cons, PyData.depthAll]
    omega
theorem depRnds : ∀ xs : List Rnd, PyData.depthAll (xs.map fun r => .tuple (r.map dT)) ≤ 2
  | [] => by simp [PyData.depthAll]
  | x :: xs => by
    have := depRnds xs
    have := depTabs x
    simp only [List.map_cons, PyData.depthAll, PyData.depth]
    omega
theorem shInts (xs : List Int) : SeqAt.shaped (.list (xs.map .int)) = true := by
  have h := depInts xs
  have l := layInts xs
  unfold SeqAt.shaped
  rw [Bool.and_eq_true]
  refine ⟨by simp [PyData.canLay0, l], decide_eq_true ?_⟩
  simp only [PyData.depth]
  omega
theorem shIntsT (xs : List Int) : SeqAt.shaped (.tuple (xs.map .int)) = true := by
  have h := depInts xs
  have l := layInts xs
  unfold SeqAt.shaped
  rw [Bool.and_eq_true]
  refine ⟨by simp [PyData.canLay0, l], decide_eq_true ?_⟩
  simp only [PyData.depth]
  omega
theorem shTabs (xs : List Tbl) : SeqAt.shaped (.list (xs.map dT)) = true := by
  have h := depTabs xs
  have l := layTabs xs
  unfold SeqAt.shaped
  rw [Bool.and_eq_true]
  refine ⟨by simp [PyData.canLay0, l], decide_eq_true ?_⟩
  simp only [PyData.depth]
  omega
theorem shRnds (xs : List Rnd) : SeqAt.shaped (.list (xs.map fun r => .tuple (r.map dT))) = true := by
  have h := depRnds xs
  have l := layRnds xs
  unfold SeqAt.shaped
  rw [Bool.and_eq_true]
  refine ⟨by simp [PyData.canLay0, l], decide_eq_true ?_⟩
  simp only [PyData.depth]
  omega
section
variable {K : PySem.W.Frag} {H : Hp}
theorem dpAll_ints : ∀ ns : List Int, DpAll K H (ns.map V.int) (ns.map .int)
  | [] => .nil
  | n :: ns => .cons (.int n) (dpAll_ints ns)
theorem dp_tab {x : V} {t : Tbl} (h : TabV H x t) : Dp K H x (dT t) := by
  obtain ⟨a, rfl, e⟩ := h
  exact .tup (SqT.of e) (dpAll_ints t)
theorem dpAll_of {β : Type} {R : V → β → Prop} {enc : β → PyData} (f : ∀ x b, R x b → Dp K H x (enc b)) : ∀ {xs : List V} {bs : List β}, Paired R xs bs → DpAll K H xs (bs.map enc)
  | _, _, .nil => .nil
  | _, _, .cons r t => .cons (f _ _ r) (dpAll_of f t)
theorem dp_rnd {x : V} {r : Rnd} (h : RndV H x r) : Dp K H x (.tuple (r.map dT)) := by
  obtain ⟨a, xs, rfl, e, p⟩ := h
  exact .tup (SqT.of e) (dpAll_of (fun _ _ z => dp_tab z) p)
theorem dp_lst {β : Type} {R : V → β → Prop} {enc : β → PyData} (f : ∀ x b, R x b → Dp K H x (enc b)) {a : Addr} {xs : List V} {bs : List β} (h : SqL K H a xs) (p : Paired R xs bs) : Dp K H (.ref a) (.list (bs.map enc)) := .lst h (dpAll_of f p)
end
/-! ### sorted -/
theorem dataLe_ints : PySem.W.dataLe false (fun i : Int => PyData.int i) = leI := PySem.W.dataLe_int fun i => i
theorem dataLe_tabs : PySem.W.dataLe false dT = leT := by
  funext p q
  show (!PySem.W.dataLt (.tuple (q.map .int)) (.tuple (p.map .int))) = _
  rw [PySem.W.dataLt_tuple]
  show (!PySem.W.rowLt (q.map .int) (p.map .int)) = _
  rw [PySem.W.dataLt_ints]
  unfold leT
  by_cases h : q < p
  · have h' : ¬ p ≤ q := fun z => (List.not_lt.mpr z) h
    simp [h, h']
  · have h' : p ≤ q := List.not_lt.mp h
    simp [h, h']
theorem alikeTabs (rs : List Tbl) : PySem.W.AllAlike (rs.map dT) := PySem.W.AllAlike.of fun b b' => by
  show PySem.W.alike (.tuple _) (.tuple _) = true
  simp [PySem.W.alike, PySem.W.alike_ints]
theorem alikeInts (ns : List Int) : PySem.W.AllAlike (ns.map fun i : Int => PyData.int i) := PySem.W.AllAlike.of fun b b' => by simp [PySem.W.alike]
section
variable {K : PySem.W.Frag} {H : Hp} {Q : VK} {a : Addr}
theorem paired_ints : ∀ ns : List Int, Paired (fun x (n : Int) => x = V.int n) (ns.map V.int) ns
  | [] => .nil
  | n :: ns => .cons rfl (paired_ints ns)
theorem ints_paired : ∀ {xs : List V} {ns : List Int}, Paired (fun x (n : Int) => x = V.int n) xs ns → xs = ns.map V.int
  | _, _, .nil => rfl
  | _, _, .cons r t => by
    rw [r, ints_paired t]
    rfl
theorem sort_ints {ns : List Int} (hl : SqL K H a (ns.map V.int) ∨ SqT K H a (ns.map V.int)) (q : ∀ p, H p = none → Q (.ref p) (upd H p (.lst ((sortI ns).map V.int)))) : rSortD K (fun i : Int => PyData.int i) [.ref a] H Q := by
  refine ⟨a, ns.map V.int, ns, fun x n => x = V.int n, rfl, hl, paired_ints ns, fun x b h => h ▸ .int b, alikeInts ns, PySem.W.Sortable.others fun b => ⟨(fun e => nomatch e), fun xs e => nomatch e⟩, fun b _ => by simp [PyData.depth], fun ys p hy hn => ?_⟩
  rw [dataLe_ints] at hy
  rw [ints_paired hy]
  exact q p hn
theorem sort_tabs {xs : List V} {r : Rnd} (hl : SqL K H a xs ∨ SqT K H a xs) (hp : Paired (TabV H) xs r) (hn : ∀ t ∈ r, t ≠ []) (q : ∀ ys p, H p = none → Paired (TabV H) ys (sortT r) → Q (.ref p) (upd H p (.lst ys))) : rSortD K dT [.ref a] H Q := by
  refine ⟨a, xs, r, TabV H, rfl, hl, hp, fun x b h => dp_tab h, alikeTabs r, .inl fun d hd => ?_, fun b _ => Nat.le_trans (depT b) (by decide), fun ys p hy hn => ?_⟩
  · obtain ⟨t, ht, rfl⟩ := List.mem_map.mp hd
    cases t with
    | nil => exact absurd rfl (hn _ ht)
    | cons x t => exact ⟨_, _, rfl⟩
  · rw [dataLe_tabs] at hy
    exact q ys p hn hy
end
/-! ### what was not there before may change -/
theorem sx_put {r c : Addr} {H H4 : Hp} {o : HO} (s : Sx r H H4) (hc : H c = none) : Sx r H (upd H4 c o) := fun b x n e => by
  rw [upd_ne (ne_of_none e hc)]
  exact s b x n e
theorem row_put {K : PySem.W.Frag} {H H4 : Hp} {r a c : Addr} {ns : List Int} {o : HO} (R0 : RowAt K H r a ns) (hc : H c = none) (R4 : RowAt K H4 r a ns) : RowAt K (upd H4 c o) r a ns := by
  obtain ⟨i, z, x, e, q⟩ := R4.row
  obtain ⟨xr, hxr⟩ := R0.lst
  refine ⟨?_, R4.ne, i, z, x, by rw [upd_ne (ne_of_none hxr hc)]; exact e, q⟩
  have go : a ≠ c → SqL K (upd H4 c o) a (ns.map V.int) := fun n => by
    rcases R4.sc with (h | ⟨ob, h⟩) | h
    · exact .inl (.inl (by rw [upd_ne n]; exact h))
    · exact .inl (.inr ⟨ob, by rw [upd_ne n]; exact h⟩)
    · exact .inr h
  rcases R0.sc with (h | ⟨ob, h⟩) | h
  · exact go (ne_of_none h hc)
  · exact go (ne_of_none h hc)
  · exact .inr h
theorem perm_erase : ∀ {l : List Int} {i : Nat} (h : i < l.length), (l[i] :: l.eraseIdx i).Perm l
  | [], _, h => by simp at h
  | x :: l, 0, _ => .refl _
  | x :: l, i + 1, h => by
    have ih := perm_erase (l := l) (i := i) (by simpa using h)
    show (l[i]'(by simpa using h) :: x :: l.eraseIdx i).Perm (x :: l)
    exact (List.Perm.swap _ _ _).trans (ih.cons x)
end Nf

set_option Elab.async false
set_option linter.all false
set_option maxRecDepth 100000
set_option maxHeartbeats 4000000
namespace Nf
open PySem PySem.Spec PyProof.Rows L2
variable {P : Program} {w : World} {K : PySem.W.Frag} {mg : Str → Option Value} {base : Heap}
theorem scTaken : FnScope ["_law_row", "_law_many_here", "_law_found", "_law_cell"] ["_law_row", "_law_many_here"] (defScope lTaken) := ⟨rfl, rfl, rfl, by decide +kernel, rfl, by decide +kernel, by decide +kernel⟩
def spTaken (K : PySem.W.Frag) : Sp := fun vs H Q _ => ∃ (r a : Addr) (ns : List Int) (n : Int), vs = [.ref r, .int n] ∧ RowAt K H r a ns ∧ 0 < n ∧ n < 1073741824 ∧
  ∀ v H', 0 ≤ v → v < n → RowAt K H' r a ns → Sx r H H' → Q (.int v) H'
theorem ok_taken {f : Addr} {fd : FuncData} (F : Fun K "_law_taken" "_law_taken" lTaken f fd) (B : Blt mg) : FnOk P w K mg base CX0 1 f fd ["_law_row", "_law_many_here"] (spTaken K) := by
  refine F.ok scTaken (fun vs H Q E h => ?_) (fun cdv A outer s H vs Q E hr h => ?_)
  · obtain ⟨r, a, ns, n, rfl, _⟩ := h
    rfl
  · obtain ⟨r, a, ns, n, rfl, hR, hn0, hn1, q⟩ := h
    refine ⟨_, pss_cons (ps_if (pt_cmpR op_gt (pe_ix ix_list (pv 0) pe_int (fun _ _ => rfl)) pe_int (nomark _))
        (pss_cons (ps_set (i := 2) scTaken.nd rfl (.inl rfl) (pe_op op_mod (pe_ix ix_list (pv 0) pe_int (fun _ _ => rfl)) (pv 1)))
        (pss_cons (ps_asg (pe_op op_fdiv (pe_ix ix_list (pv 0) pe_int (fun _ _ => rfl)) (pv 1)) (pg_sub (pv 0) pe_int set_list))
        (pss_one (ps_ret (pv 2))))) pss_nil)
      (pss_cons (ps_asg (pe_op op_add (pe_ix ix_list (pv 0) pe_int (fun _ _ => rfl)) pe_int) (pg_sub (pv 0) pe_int set_list))
      (pss_cons (ps_if (pt_cmpR op_gt (pe_ix ix_list (pv 0) pe_int (fun _ _ => rfl)) (pe_callB call_len_seq (by rfl) B.len PySem.boot_len (pa_cons (pe_ix ix_list (pv 0) pe_int (fun _ _ => rfl)) pa_nil)) (nomark _))
        (pss_cons (ps_asg (pe_op op_mod (pe_op op_add (pe_op op_mul (pe_ix ix_list (pv 0) pe_int (fun _ _ => rfl)) pe_int) pe_int) pe_int) (pg_sub (pv 0) pe_int set_list))
        (pss_one (ps_ret (pe_op op_mod (pe_op op_fdiv (pe_ix ix_list (pv 0) pe_int (fun _ _ => rfl)) pe_int) (pv 1))))) pss_nil)
      (pss_cons (ps_set (i := 3) scTaken.nd rfl (.inl rfl) (pe_ix ix_list (pe_ix ix_list (pv 0) pe_int (fun _ _ => rfl)) (pe_op op_sub (pe_ix ix_list (pv 0) pe_int (fun _ _ => rfl)) pe_int) (fun _ _ => rfl)))
      (pss_cons (ps_asg (pe_op op_mod (pe_op op_add (pe_op op_add (pe_op op_mul (pe_ix ix_list (pv 0) pe_int (fun _ _ => rfl)) pe_int) (pv 3)) pe_int) pe_int) (pg_sub (pv 0) pe_int set_list))
      (pss_cons (ps_asg (pe_ifExp (pt_cmpR op_ge (pv 3) (pe_op op_pow pe_int pe_int) (nomark _)) (pe_op op_fdiv (pv 3) (pv 1)) pe_int) (pg_sub (pv 0) pe_int set_list))
      (pss_one (ps_ret (pe_op op_mod (pv 3) (pv 1))))))))), ?_⟩
    obtain ⟨i, z, c, hrow, hi0, hz0, hz1⟩ := hR.row
    have hS : SqL K H r [.ref a, .int i, .int z, .int c] := SqL.of hrow
    -- row[3] > 0
    refine ⟨.ref r, rfl, r, _, 3, _, rfl, rfl, hS, rfl, _, _, rfl, rfl, _, rfl, ite2 (fun hc => ?_) (fun hc => ?_)⟩
    · refine ⟨.ref r, rfl, r, _, 3, _, rfl, rfl, hS, rfl, .int n, rfl, _, _, rfl, rfl, hn0, ?_⟩
      refine ⟨.ref r, rfl, r, _, 3, _, rfl, rfl, hS, rfl, .int n, rfl, _, _, rfl, rfl, ⟨hn0, hn1⟩, ?_⟩
      refine ⟨.ref r, rfl, r, _, 3, 3, rfl, rfl, hrow, rfl, ?_⟩
      refine ⟨_, rfl, ?_⟩
      exact q _ _ (Int.emod_nonneg _ (by omega)) (Int.emod_lt_of_pos _ hn0) (hR.set hi0 hz0 hz1) Sx.upd
    · -- row[1] = row[1] + 1
      refine ⟨.ref r, rfl, r, _, 1, _, rfl, rfl, hS, rfl, _, _, rfl, rfl, .ref r, rfl, r, _, 1, 1, rfl, rfl, hrow, rfl, ?_⟩
      have R1 : RowAt K (upd H r (.lst [.ref a, .int (i + 1), .int z, .int c])) r a ns := hR.set (by omega) hz0 hz1
      have S1 : SqL K (upd H r (.lst [.ref a, .int (i + 1), .int z, .int c])) r [.ref a, .int (i + 1), .int z, .int c] := SqL.of upd_same
      -- row[1] > len(row[0])
      refine ⟨.ref r, rfl, r, _, 1, _, rfl, rfl, S1, rfl, .ref r, rfl, r, _, 0, _, rfl, rfl, S1, rfl, a, _, rfl, .inl R1.sc, _, _, rfl, rfl, _, rfl, ite2 (fun hl => ?_) (fun hl => ?_)⟩
      · refine ⟨.ref r, rfl, r, _, 2, _, rfl, rfl, S1, rfl, _, _, rfl, rfl, .inl ⟨by omega, by omega⟩, _, _, rfl, rfl, _, _, rfl, rfl, (by show (0 : Int) < 2147483647; decide), ?_⟩
        refine ⟨.ref r, rfl, r, _, 2, 2, rfl, rfl, upd_same, rfl, ?_⟩
        refine ⟨.ref r, rfl, r, _, 2, _, rfl, rfl, SqL.of upd_same, rfl, _, _, rfl, rfl, ⟨by decide, by decide⟩, .int n, rfl, _, _, rfl, rfl, hn0, ?_⟩
        rw [upd_upd]
        exact q _ _ (Int.emod_nonneg _ (by omega)) (Int.emod_lt_of_pos _ hn0) (hR.set (by omega) (Int.emod_nonneg _ (by decide)) (Int.emod_lt_of_pos _ (by decide))) Sx.upd
      · have hlt : i.toNat < ns.length := by
          have h2 : ¬ ((((ns.map V.int).length : Nat) : Int) < i + 1) := fun z => hl (decide_eq_true z)
          rw [List.length_map] at h2
          omega
        refine ⟨.ref r, rfl, r, _, 0, _, rfl, rfl, S1, rfl, .ref r, rfl, r, _, 1, _, rfl, rfl, S1, rfl, _, _, rfl, rfl, a, _, _, .int ns[i.toNat], rfl, rfl, R1.sc, ?_, ?_⟩
        · have e : i + 1 - 1 = ((i.toNat : Nat) : Int) := by omega
          rw [e]
          exact atI_nat (int_getElem? (List.getElem?_eq_getElem hlt))
        -- row[2] = ..
        refine ⟨.ref r, rfl, r, _, 2, _, rfl, rfl, S1, rfl, _, _, rfl, rfl, .inl ⟨by omega, by omega⟩, .int ns[i.toNat], rfl, _, _, rfl, rfl, _, _, rfl, rfl, _, _, rfl, rfl, (by show (0 : Int) < 2147483647; decide), ?_⟩
        refine ⟨.ref r, rfl, r, _, 2, 2, rfl, rfl, upd_same, rfl, ?_⟩
        rw [upd_upd]
        -- row[3] = ..
        refine ⟨.int ns[i.toNat], rfl, _, _, rfl, rfl, ⟨by decide, by decide, by decide⟩, _, _, rfl, rfl, _, rfl, ite2 (fun hb => ?_) (fun hb => ?_)⟩
        · refine ⟨.int ns[i.toNat], rfl, .int n, rfl, _, _, rfl, rfl, ⟨hn0, hn1⟩, .ref r, rfl, r, _, 3, 3, rfl, rfl, upd_same, rfl, ?_⟩
          refine ⟨.int ns[i.toNat], rfl, .int n, rfl, _, _, rfl, rfl, hn0, ?_⟩
          rw [upd_upd]
          exact q _ _ (Int.emod_nonneg _ (by omega)) (Int.emod_lt_of_pos _ hn0) (hR.set (by omega) (Int.emod_nonneg _ (by decide)) (Int.emod_lt_of_pos _ (by decide))) Sx.upd
        · refine ⟨.ref r, rfl, r, _, 3, 3, rfl, rfl, upd_same, rfl, ?_⟩
          refine ⟨.int ns[i.toNat], rfl, .int n, rfl, _, _, rfl, rfl, hn0, ?_⟩
          rw [upd_upd]
          exact q _ _ (Int.emod_nonneg _ (by omega)) (Int.emod_lt_of_pos _ hn0) (hR.set (by omega) (Int.emod_nonneg _ (by decide)) (Int.emod_lt_of_pos _ (by decide))) Sx.upd
end Nf

set_option Elab.async false
set_option linter.all false
set_option maxRecDepth 100000
set_option maxHeartbeats 4000000
namespace Nf
open PySem PySem.Spec PyProof.Rows L2
variable {P : Program} {w : World} {K : PySem.W.Frag} {mg : Str → Option Value} {base : Heap}
/-! ### rises -/
theorem cut1 (xs : List V) : cutV xs (some 1) none = xs.drop 1 := by
  unfold cutV
  rw [show HT.sIx xs.length 0 (some 1) = min 1 xs.length from HT.sIx_nat xs.length 0 1, HT.sIx_none]
  cases xs with
  | nil => rfl
  | cons x r =>
    rw [show min 1 (x :: r).length = 1 by
      rw [List.length_cons]
      omega]
    show (List.take ((x :: r).length - 1) r) = r
    rw [List.length_cons, Nat.add_sub_cancel]
    exact List.take_length
def upB (ns : Tbl) : List Bool := (ns.zip (ns.drop 1)).map fun p => decide (p.1 < p.2)
theorem upB_rises (ns : Tbl) : (upB ns).all id = rises ns := by
  unfold upB rises
  rw [List.all_map]
  rfl
theorem upB_len (ns : Tbl) : (upB ns).length = min (ns.map V.int).length ((ns.map V.int).drop 1).length := by
  simp [upB]
theorem upB_at {ns : Tbl} {i : Nat} {x y : Int} (h1 : ns[i]? = some x) (h2 : (ns.drop 1)[i]? = some y) : (upB ns)[i]? = some (decide (x < y)) := by
  unfold upB
  rw [List.getElem?_map, List.getElem?_zip_eq_some (z := (x, y)) |>.mpr ⟨h1, h2⟩]
  rfl
theorem scRises : FnScope ["numbers", "low", "high"] ["numbers"] (defScope sRises) := ⟨rfl, rfl, rfl, by decide +kernel, rfl, by decide +kernel, by decide +kernel⟩
def spRises (K : PySem.W.Frag) : Sp := fun vs H Q _ => ∃ (a : Addr) (ns : List Int), vs = [.ref a] ∧ (SqL K H a (ns.map V.int) ∨ SqT K H a (ns.map V.int)) ∧ ns.length ≤ 100000 ∧ ∀ H', Same H H' → Q (.bl (rises ns)) H'
theorem ok_rises {f : Addr} {fd : FuncData} (F : Fun K "rises" "rises" sRises f fd) (B : Blt mg) : FnOk P w K mg base CX0 1 f fd ["numbers"] (spRises K) := by
  refine F.ok scRises (fun vs H Q E h => ?_) (fun cdv A outer s H vs Q E hr h => ?_)
  · obtain ⟨a, ns, rfl, _⟩ := h
    rfl
  · obtain ⟨a, ns, rfl, hS, hlen, q⟩ := h
    refine ⟨_, pss_one (ps_ret (pe_callB (cr_all rfl) (by rfl) B.all (by decide +kernel) (pa_cons
      (pe_lc (own := [("low", 1), ("high", 2)]) (g := gTup K 2 (gCons (gName 1) (gCons (gName 2) gNil))) (tt := tYes) (te := tOp (rI0 fun i j => .bl (decide (i < j))) (tVar 1) (tVar 2)) (by rfl) scRises.nd (RZ.pi_zipA (by rfl) B.zip (pa_cons (pv 0) (pa_cons (pe_slice (SlR.or sl_list sl_tupA) (pv 0) (po_some pe_int) po_none) pa_nil)))
        (blkOk_by (N := ["numbers", "low", "high"]) (sc := defScope sRises) (by decide +kernel)) (fun _ _ _ _ _ => pg_tup rfl (pgs_cons (pg_name (i := 1) (x := "low") scRises.nd rfl (.inl rfl) (.inr rfl)) (pgs_cons (pg_name (i := 2) (x := "high") scRises.nd rfl (.inl rfl) (.inr rfl)) pgs_nil)))
        (fun _ _ _ _ _ => pts_nil) (fun _ _ _ _ _ => pe_cmpR op_lt (pv 1) (pv 2) (nomark _))) pa_nil))), ?_⟩
    -- one turn, whatever is walked
    have turn : ∀ (H1 : Hp) (D : Addr) (i : Nat) (x : V) (H2 H3 : Hp), H1 D = none → i < (upB ns).length → (Same H1 H2 ∧ H2 D = some (.lst (((upB ns).take i).map V.bl))) → YPair (fun i => (ns.map V.int)[i]?) (fun i => ((ns.map V.int).drop 1)[i]?) i H2 x H3 →
        gTup K 2 (gCons (gName 1) (gCons (gName 2) gNil)) x (wipe [some (.ref a), none, none] [1, 2]) H3 fun σ2 H2 => wipe σ2 [1, 2] = wipe [some (.ref a), none, none] [1, 2] ∧ tYes σ2 H2 fun b H3 =>
          if b = true then tOp (rI0 fun i j => .bl (decide (i < j))) (tVar 1) (tVar 2) σ2 H3 fun y H4 => ∃ acc, H4 D = some (.lst acc) ∧ acc.length < sizeLine ∧ (Same H1 (upd H4 D (.lst (acc ++ [y]))) ∧ (upd H4 D (.lst (acc ++ [y]))) D = some (.lst (((upB ns).take (i + 1)).map V.bl)))
          else (Same H1 H3 ∧ H3 D = some (.lst (((upB ns).take (i + 1)).map V.bl))) := fun H1 D i x H2 H3 hDn hi p y => by
      obtain ⟨T, y1, y2, rfl, hT, rfl, g1, g2⟩ := y
      obtain ⟨n1, e1, rfl⟩ := getElem?_int g1
      rw [← List.map_drop] at g2
      obtain ⟨n2, e2, rfl⟩ := getElem?_int g2
      obtain ⟨sm, hD⟩ := p
      have nDT : D ≠ T := ne_of_none hD hT
      refine ⟨T, _, rfl, SqT.of upd_same, rfl, _, _, rfl, _, _, rfl, ⟨rfl, rfl, yesT ⟨_, rfl, _, rfl, n1, n2, rfl, rfl, _, (upd_ne nDT).trans hD, ?_, same_put (sm.trans (same_new hT)) hDn, ?_⟩⟩⟩
      · rw [List.length_map, List.length_take]
        have := upB_len ns
        simp only [List.length_map, List.length_drop] at this
        have hz : (100000 : Nat) < sizeLine := by decide
        omega
      · rw [upd_same, takeSucc (upB_at e1 e2), List.map_append]
        rfl
    have fin : ∀ (D : Addr) (H2 : Hp), Same H H2 → H2 D = some (.lst (((upB ns).take (upB ns).length).map V.bl)) → rAll K [.ref D] H2 Q := fun D H2 sm hD => by
      refine ⟨D, upB ns, rfl, SqL.of ?_, ?_⟩
      · rw [List.take_of_length_le (Nat.le_refl _)] at hD
        exact hD
      · rw [upB_rises]
        exact q _ sm
    rcases hS with hS | hS
    · refine ⟨.ref a, rfl, .ref a, rfl, 1, rfl, .inl ⟨a, _, rfl, hS, fun c nc => ?_⟩⟩
      have s1 := same_new (o := .lst (cutV (ns.map V.int) (some 1) none)) nc
      refine ⟨a, c, ns.map V.int, _, rfl, .inl ⟨s1.seq hS, SqL.of upd_same, fun D nD => ?_⟩⟩
      rw [cut1] at *
      exact lc_it (walk_zip (upB_len ns)) (fun i H2 => Same _ H2 ∧ H2 D = some (.lst (((upB ns).take i).map V.bl))) ⟨same_new nD, upd_same⟩ (fun i H2 _ p => ⟨p.1.seq (s1.seq hS), p.1.seq (SqL.of upd_same)⟩) (fun i x H2 H3 hi p y => turn _ D i x H2 H3 nD hi p y) (fun H2 p => fin D H2 (s1.trans p.1) p.2)
    · refine ⟨.ref a, rfl, .ref a, rfl, 1, rfl, .inr ⟨a, _, rfl, hS, fun hw => ?_, fun hw c nc => ?_⟩⟩
      · have e0 : (ns.map V.int).drop 1 = ns.map V.int := by
          have := hw.1
          rw [show HT.sIx (ns.map V.int).length 0 (some 1) = min 1 (ns.map V.int).length from HT.sIx_nat _ 0 1] at this
          cases ns with
          | nil => rfl
          | cons x r =>
            rw [List.length_map, List.length_cons] at this
            omega
        refine ⟨a, a, ns.map V.int, ns.map V.int, rfl, .inr ⟨hS, hS, fun D nD => ?_⟩⟩
        exact lc_it (Nf.walk_zipT (upB_len ns)) (fun i H2 => Same _ H2 ∧ H2 D = some (.lst (((upB ns).take i).map V.bl))) ⟨same_new nD, upd_same⟩ (fun i H2 _ p => ⟨sqt_same hS p.1, by rw [e0]; exact sqt_same hS p.1⟩) (fun i x H2 H3 hi p y => turn _ D i x H2 H3 nD hi p y) (fun H2 p => fin D H2 p.1 p.2)
      · have s1 := same_new (o := .tup (cutV (ns.map V.int) (some 1) none)) nc
        refine ⟨a, c, ns.map V.int, _, rfl, .inr ⟨sqt_same hS s1, SqT.of upd_same, fun D nD => ?_⟩⟩
        rw [cut1] at *
        exact lc_it (Nf.walk_zipT (upB_len ns)) (fun i H2 => Same _ H2 ∧ H2 D = some (.lst (((upB ns).take i).map V.bl))) ⟨same_new nD, upd_same⟩ (fun i H2 _ p => ⟨sqt_same (sqt_same hS s1) p.1, sqt_same (SqT.of upd_same) p.1⟩) (fun i x H2 H3 hi p y => turn _ D i x H2 H3 nD hi p y) (fun H2 p => fin D H2 (s1.trans p.1) p.2)
end Nf

set_option Elab.async false
set_option linter.all false
set_option maxRecDepth 100000
set_option maxHeartbeats 4000000
namespace Nf
open PySem PySem.Spec PyProof.Rows L2
variable {P : Program} {w : World} {K : PySem.W.Frag} {mg : Str → Option Value} {base : Heap}
/-! ### pairs -/
theorem cutFrom (xs : List V) (j : Nat) : cutV xs (some ((j : Nat) : Int)) none = xs.drop j := by
  unfold cutV
  rw [HT.sIx_nat xs.length 0 j, HT.sIx_none]
  by_cases h : j ≤ xs.length
  · rw [Nat.min_eq_left h]
    exact List.take_of_length_le (by simp)
  · rw [Nat.min_eq_right (by omega), List.drop_of_length_le (Nat.le_refl _), List.drop_of_length_le (by omega)]
    simp
/-- so far: the list at D holds ps, the rest is to come -/
def PrI (H : Hp) (D : Addr) (r : Rnd) (H2 : Hp) (rem : List (Int × Int)) : Prop := Same H H2 ∧ ∃ acc ps, H2 D = some (.lst acc) ∧ Paired (PairV H2) acc ps ∧ ps ++ rem = pairsR r
theorem PrI.keep {H H2 H3 : Hp} {D : Addr} {r : Rnd} {rem : List (Int × Int)} (h : PrI H D r H2 rem) (s : Same H2 H3) : PrI H D r H3 rem := by
  obtain ⟨h1, acc, ps, h2, h3, h4⟩ := h
  exact ⟨h1.trans s, acc, ps, s _ _ h2, paired_mono (fun _ _ z => z.mono (same_toT s)) h3, h4⟩
theorem PrI.rem {H H2 : Hp} {D : Addr} {r : Rnd} {rem rem' : List (Int × Int)} (h : PrI H D r H2 rem) (e : rem = rem') : PrI H D r H2 rem' := e ▸ h
theorem dataLe_pairs : PySem.W.dataLe false (fun p : Int × Int => PyData.tuple [.int p.1, .int p.2]) = leP := PySem.W.dataLe_ii (fun p : Int × Int => p.1) (fun p => p.2)
theorem dp_pair {H : Hp} {x : V} {p : Int × Int} (h : PairV H x p) : Dp K H x (.tuple [.int p.1, .int p.2]) := by
  obtain ⟨a, rfl, e⟩ := h
  exact .tup (SqT.of e) (.cons (.int _) (.cons (.int _) .nil))
theorem sort_pairs {H : Hp} {Q : VK} {a : Addr} {acc : List V} {ps : List (Int × Int)} (hl : H a = some (.lst acc)) (hp : Paired (PairV H) acc ps) (q : ∀ ys p, H p = none → Paired (PairV H) ys (sortP ps) → Q (.ref p) (upd H p (.lst ys))) :
    rSortD K (fun p : Int × Int => PyData.tuple [.int p.1, .int p.2]) [.ref a] H Q := by
  refine ⟨a, acc, ps, PairV H, rfl, .inl (SqL.of hl), hp, fun x b h => dp_pair h, PySem.W.AllAlike.of fun b b' => by simp [PySem.W.alike, PySem.W.alikeAll], PySem.W.Sortable.tuples fun b => ⟨_, _, rfl⟩, fun b _ => by simp [PyData.depth, PyData.depthAll], fun ys p hy hn => ?_⟩
  rw [dataLe_pairs] at hy
  exact q ys p hn hy
theorem scPairs : FnScope ["tables", "table", "at", "a", "b"] ["tables"] (defScope sPairs) := ⟨rfl, rfl, rfl, by decide +kernel, rfl, by decide +kernel, by decide +kernel⟩
def spPairs : Sp := fun vs H Q _ => ∃ (x : V) (r : Rnd), vs = [x] ∧ RndV H x r ∧ (pairsR r).length ≤ 100000 ∧
  ∀ H' q ys, Same H H' → H q = none → H' q = some (.lst ys) → Paired (PairV H') ys (sortP (pairsR r)) → Q (.ref q) H'
theorem ok_pairs {f : Addr} {fd : FuncData} (F : Fun K "pairs" "pairs" sPairs f fd) (B : Blt mg) : FnOk P w K mg base CX0 1 f fd ["tables"] spPairs := by
  refine F.ok scPairs (fun vs H Q E h => ?_) (fun cdv A outer s H vs Q E hr h => ?_)
  · obtain ⟨x, r, rfl, _⟩ := h
    rfl
  · obtain ⟨x, r, rfl, ⟨p, xs, rfl, hp, hxs⟩, hlen, q⟩ := h
    refine ⟨_, pss_one (ps_ret (pe_callB (cr_sortD (fun p : Int × Int => PyData.tuple [.int p.1, .int p.2]) hr.units) (by rfl) B.sorted (by decide +kernel) (pa_cons
      (pe_lcN (own := [("table", 1), ("at", 2), ("a", 3), ("b", 4)]) (wi := iTup K (tVar 0))
        (t := tCl (gName 1) tYes [1, 2, 3, 4] (bMid (iEnumT K (tCons (tVar 1) tNil)) (tCl (gTup K 2 (gCons (gName 2) (gCons (gName 3) gNil))) tYes [2, 3, 4]
          (bMid (iTup K (tSl (rSlA K) (tVar 1) (tPart (tOp (rI0 fun i j => .int (i + j)) (tVar 2) (tC (.int 1)))) tNoPart)) (tCl (gName 4) tYes [4] (bLast (tTup (tCons (tVar 3) (tCons (tVar 4) tNil)))))))))
        rfl scPairs.nd (pi_tup (pv 0)) (blkOk_by (N := ["tables", "table", "at", "a", "b"]) (sc := defScope sPairs) (by decide +kernel))
        (fun _ _ _ _ _ => pcl_mid rfl rfl rfl rfl (by decide) (pg_name (i := 1) (x := "table") scPairs.nd rfl (.inl rfl) (.inr rfl)) pts_nil (pi_enumT (by rfl) B.enumerate (pa_cons (pv 1) pa_nil)) (by intro _; rfl)
          (pcl_mid rfl rfl rfl rfl (by decide) (pg_tup rfl (pgs_cons (pg_name (i := 2) (x := "at") scPairs.nd rfl (.inl rfl) (.inr rfl)) (pgs_cons (pg_name (i := 3) (x := "a") scPairs.nd rfl (.inl rfl) (.inr rfl)) pgs_nil))) pts_nil
            (pi_tup (pe_slice sl_tupA (pv 1) (po_some (pe_op op_add (pv 2) pe_int)) po_none)) (by intro _; rfl)
            (pcl_last rfl rfl rfl rfl (pg_name (i := 4) (x := "b") scPairs.nd rfl (.inl rfl) (.inr rfl)) pts_nil (pe_tup (pa_cons (pv 3) (pa_cons (pv 4) pa_nil))))))) pa_nil))), ?_⟩
    refine ⟨.ref p, rfl, p, rfl, ⟨_, SqT.of hp⟩, fun D nD => ?_⟩
    have s0 : Same H (upd H D (.lst [])) := same_new nD
    show tCl (gName 1) tYes [1, 2, 3, 4] _ _ D [some (.ref p), none, none, none, none] _ _
    refine cl_it walk_tup (fun i H2 => PrI H D r H2 (pairsR (r.drop i))) ⟨s0, [], [], upd_same, .nil, by simp⟩ (fun i H2 _ p => SqT.of (p.1 _ _ hp)) (fun i x H2 H3 hi hI y => ?_) (fun H2 hI => ?_)
    · obtain ⟨rfl, hx⟩ := y
      obtain ⟨t, ht, a, rfl, ha⟩ := paired_getL hxs hx
      have hpl : (pairsR r).length < sizeLine := Nat.lt_of_le_of_lt hlen (by decide)
      refine ⟨wipe_put (by decide), yesT ?_⟩
      show bMid _ _ D [some (.ref p), some (.ref a), none, none, none] _ _
      have haT : ∀ {H' : Hp}, Same H H' → SqT K H' a (t.map V.int) := fun sm => SqT.of (sm _ _ ha)
      refine ⟨.ref a, rfl, a, _, rfl, haT hI.1, ?_⟩
      refine cl_it walk_enumT (fun j H2 => PrI H D r H2 (pairsT (t.drop j) ++ pairsR (r.drop (i + 1)))) (hI.rem (by rw [List.drop_zero]; exact pairsR_drop ht)) (fun j H2 _ p => haT p.1) (fun j x H2 H3 hj hJ y => ?_) (fun H2 hJ => hJ.rem (by rw [List.length_map, List.drop_of_length_le (Nat.le_refl _)]; rfl))
      obtain ⟨T, y1, y2, rfl, hT, rfl, g1, g2⟩ := y
      obtain ⟨n, hn, rfl⟩ := getElem?_int g2
      have ej : y1 = .int ((j : Nat) : Int) := (Option.some.inj g1).symm
      subst ej
      have hJ' := hJ.keep (same_new (o := .tup [.int ((j : Nat) : Int), .int n]) hT)
      refine ⟨T, _, rfl, SqT.of upd_same, rfl, _, _, rfl, _, _, rfl, ⟨rfl, wipe_put2 (by decide) (by decide), yesT ?_⟩⟩
      show bMid _ _ D [some (.ref p), some (.ref a), some (.int ((j : Nat) : Int)), some (.int n), none] _ _
      refine ⟨.ref a, rfl, .int ((j : Nat) : Int), rfl, _, _, rfl, rfl, _, rfl, a, _, rfl, haT hJ'.1, fun hw => ?_, fun hw c nc => ?_⟩
      · have hz := hw.1
        have e1 : (j : Int) + 1 = ((j + 1 : Nat) : Int) := by omega
        rw [e1, HT.sIx_nat] at hz
        omega
      have e1 : (j : Int) + 1 = ((j + 1 : Nat) : Int) := by omega
      rw [e1, cutFrom, ← List.map_drop]
      have hJ2 := hJ'.keep (same_new (o := .tup ((t.drop (j + 1)).map V.int)) nc)
      refine ⟨c, rfl, ⟨_, SqT.of upd_same⟩, ?_⟩
      refine cl_it (walk_tup (xs := (t.drop (j + 1)).map V.int)) (fun m H2 => PrI H D r H2 (((t.drop (j + 1)).drop m).map (fun b => (n, b)) ++ (pairsT (t.drop (j + 1)) ++ pairsR (r.drop (i + 1)))) ∧ H2 c = some (.tup ((t.drop (j + 1)).map V.int)))
        ⟨hJ2.rem (by rw [List.drop_zero, pairsT_drop hn, List.append_assoc]), upd_same⟩ (fun m H2 _ p => SqT.of p.2) (fun m x H2 H3 hm hM y => ?_) (fun H2 hM => hM.1.rem (by rw [List.length_map, List.drop_of_length_le (Nat.le_refl _)]; rfl))
      obtain ⟨rfl, hx⟩ := y
      obtain ⟨b, hb, rfl⟩ := getElem?_int hx
      obtain ⟨⟨sm, acc, ps, hD, hps, e⟩, hc⟩ := hM
      refine ⟨wipe_put (by decide), yesT ?_⟩
      show bLast _ D [some (.ref p), some (.ref a), some (.int ((j : Nat) : Int)), some (.int n), some (.int b)] _ _
      refine ⟨.int n, rfl, .int b, rfl, two_le, fun T2 nT2 => ?_⟩
      have nDT : D ≠ T2 := ne_of_none hD nT2
      rw [dropCons hb, List.map_cons, List.cons_append] at e
      have s3 : Same H3 (upd H3 T2 (.tup [.int n, .int b])) := same_new nT2
      refine ⟨acc, (upd_ne nDT).trans hD, ?_, ⟨same_put (sm.trans s3) nD, acc ++ [.ref T2], ps ++ [(n, b)], upd_same, ?_, ?_⟩, ?_⟩
      · have hl : ps.length ≤ (pairsR r).length := by
          rw [← e, List.length_append]
          omega
        have := paired_len hps
        omega
      · have keepT : ∀ {z : V} {pr : Int × Int}, PairV (upd H3 T2 (.tup [.int n, .int b])) z pr → PairV (upd (upd H3 T2 (.tup [.int n, .int b])) D (.lst (acc ++ [.ref T2]))) z pr := fun {z pr} h => by
          obtain ⟨u, rfl, hu⟩ := h
          refine ⟨u, rfl, ?_⟩
          rw [upd_ne (ne_of hu ((upd_ne nDT).trans hD) (by intro z; cases z))]
          exact hu
        refine paired_snoc (paired_mono (fun z pr h => keepT (h.mono (same_toT s3))) hps) (keepT ⟨T2, rfl, upd_same⟩)
      · rw [List.append_assoc]
        exact e
      · have ncD : c ≠ D := ne_of hc hD (by intro z; cases z)
        rw [upd_ne ncD]
        exact s3 _ _ hc
    · obtain ⟨sm, acc, ps, hD, hps, e⟩ := hI
      rw [paired_len hxs, List.drop_of_length_le (Nat.le_refl _)] at e
      have e2 : ps = pairsR r := by simpa [pairsR] using e
      subst e2
      refine sort_pairs hD hps fun ys p2 np hys => ?_
      have s4 := same_new (o := .lst ys) np
      exact q _ p2 ys (sm.trans s4) (sm.free np) upd_same (paired_mono (fun _ _ z => z.mono (same_toT s4)) hys)
end Nf

set_option Elab.async false
set_option linter.all false
set_option maxRecDepth 100000
set_option maxHeartbeats 4000000
namespace Nf
open PySem PySem.Spec PyProof.Rows L2
variable {P : Program} {w : World} {K : PySem.W.Frag} {mg : Str → Option Value} {base : Heap}
/-! ### the class of parties -/
theorem ms_ : ¬ (("many" : Str) = "seats") := by decide +kernel
def pf (g s : Int) : List (Str × V) := putF "seats" (.int s) (putF "many" (.int g) [])
theorem pf_many (g s : Int) : (pf g s).lookup ("many" : Str) = some (.int g) := by
  unfold pf
  rw [lookup_putF, if_neg ms_, lookup_putF, if_pos rfl]
theorem pf_seats (g s : Int) : (pf g s).lookup ("seats" : Str) = some (.int s) := by
  unfold pf
  rw [lookup_putF, if_pos rfl]
theorem pf_no (g s : Int) {m : Str} (h1 : ¬ m = "seats") (h2 : ¬ m = "many") : (pf g s).lookup m = none := by
  unfold pf
  rw [lookup_putF, if_neg h1, lookup_putF, if_neg h2]
  all_goals rfl
def PartyV (C : Addr) (H : Hp) (p : Addr) (g s : Int) : Prop := ∃ dx, H p = some (.ins C dx (pf g s))
theorem PartyV.same {C : Addr} {H H' : Hp} {p : Addr} {g s : Int} (h : PartyV C H p g s) (z : Same H H') : PartyV C H' p g s := by
  obtain ⟨dx, e⟩ := h
  exact ⟨dx, z _ _ e⟩
structure Txt (K : PySem.W.Frag) (mg : Str → Option Value) (C : Addr) : Prop where
  cl : Cls K C
  nM : NoAttr K C "many"
  nS : NoAttr K C "seats"
  mgC : mg "Party" = some (.ref C)
  fg : ∃ t, mg "FEWEST_GUESTS" = some (.int 2 t)
  mo : ∃ t, mg "MOST_GUESTS" = some (.int 64 t)
  ss : ∃ t, mg "SMALLEST_SIZE" = some (.int 2 t)
  ls : ∃ t, mg "LARGEST_SIZE" = some (.int 8 t)
theorem scGuests : FnScope ["self"] ["self"] (defScope sGuests) := ⟨rfl, rfl, rfl, by decide +kernel, rfl, by decide +kernel, by decide +kernel⟩
def spGuests (C : Addr) : Sp := fun vs H Q _ => ∃ (p : Addr) (g s : Int), vs = [.ref p] ∧ PartyV C H p g s ∧ Q (.int g) H
theorem ok_guests {f C : Addr} {fd : FuncData} (F : Fun K "guests" "Party.guests" sGuests f fd) (T : Txt K mg C) : FnOk P w K mg base CX0 1 f fd ["self"] (spGuests C) := by
  refine F.ok scGuests (fun vs H Q E h => ?_) (fun cdv A outer s H vs Q E hr h => ?_)
  · obtain ⟨p, g, s, rfl, _⟩ := h
    rfl
  · obtain ⟨p, g, s, rfl, ⟨dx, hp⟩, q⟩ := h
    exact ⟨_, pss_one (ps_ret (pe_fld (pv 0) rfl)), _, rfl, p, C, dx, _, _, rfl, hp, T.cl, T.nM, pf_many _ _, q⟩
theorem scSize : FnScope ["self"] ["self"] (defScope sSize) := ⟨rfl, rfl, rfl, by decide +kernel, rfl, by decide +kernel, by decide +kernel⟩
def spSize (C : Addr) : Sp := fun vs H Q _ => ∃ (p : Addr) (g s : Int), vs = [.ref p] ∧ PartyV C H p g s ∧ Q (.int s) H
theorem ok_size {f C : Addr} {fd : FuncData} (F : Fun K "size" "Party.size" sSize f fd) (T : Txt K mg C) : FnOk P w K mg base CX0 1 f fd ["self"] (spSize C) := by
  refine F.ok scSize (fun vs H Q E h => ?_) (fun cdv A outer s H vs Q E hr h => ?_)
  · obtain ⟨p, g, s, rfl, _⟩ := h
    rfl
  · obtain ⟨p, g, s, rfl, ⟨dx, hp⟩, q⟩ := h
    exact ⟨_, pss_one (ps_ret (pe_fld (pv 0) rfl)), _, rfl, p, C, dx, _, _, rfl, hp, T.cl, T.nS, pf_seats _ _, q⟩
theorem scTables : FnScope ["self"] ["self"] (defScope sTables) := ⟨rfl, rfl, rfl, by decide +kernel, rfl, by decide +kernel, by decide +kernel⟩
def spTables (C : Addr) : Sp := fun vs H Q _ => ∃ (p : Addr) (g s : Int), vs = [.ref p] ∧ PartyV C H p g s ∧ 0 < s ∧ s < 1073741824 ∧ Q (.int (g / s)) H
theorem ok_tables {f C : Addr} {fd : FuncData} (F : Fun K "tables" "Party.tables" sTables f fd) (T : Txt K mg C) : FnOk P w K mg base CX0 1 f fd ["self"] (spTables C) := by
  refine F.ok scTables (fun vs H Q E h => ?_) (fun cdv A outer s H vs Q E hr h => ?_)
  · obtain ⟨p, g, s, rfl, _⟩ := h
    rfl
  · obtain ⟨p, g, s, rfl, ⟨dx, hp⟩, h0, h1, q⟩ := h
    exact ⟨_, pss_one (ps_ret (pe_op op_fdiv (pe_fld (pv 0) rfl) (pe_fld (pv 0) rfl))), _, rfl, p, C, dx, _, _, rfl, hp, T.cl, T.nM, pf_many _ _, _, rfl, p, C, dx, _, _, rfl, hp, T.cl, T.nS, pf_seats _ _, _, _, rfl, rfl, ⟨h0, h1⟩, q⟩
/-- a party's bounds -/
structure IsParty (g s : Int) : Prop where
  g2 : 2 ≤ g
  g64 : g ≤ 64
  s2 : 2 ≤ s
  s8 : s ≤ 8
  dv : g % s = 0
theorem scIsParty : FnScope ["guests", "size"] ["guests", "size"] (defScope sIsParty) := ⟨rfl, rfl, rfl, by decide +kernel, rfl, by decide +kernel, by decide +kernel⟩
def spIsParty : Sp := fun vs H Q _ => ∃ (g s : Int), vs = [.int g, .int s] ∧ ∀ b, (b = true ↔ IsParty g s) → Q (.bl b) H
theorem ok_isParty {f C : Addr} {fd : FuncData} (F : Fun K "is_party" "is_party" sIsParty f fd) (T : Txt K mg C) : FnOk P w K mg base CX0 1 f fd ["guests", "size"] spIsParty := by
  obtain ⟨t1, m1⟩ := T.fg
  obtain ⟨t2, m2⟩ := T.mo
  obtain ⟨t3, m3⟩ := T.ss
  obtain ⟨t4, m4⟩ := T.ls
  refine F.ok scIsParty (fun vs H Q E h => ?_) (fun cdv A outer s H vs Q E hr h => ?_)
  · obtain ⟨g, s, rfl, _⟩ := h
    rfl
  · obtain ⟨g, z, rfl, q⟩ := h
    refine ⟨_, pss_cons (ps_if (pt_not (pt_chain op_le op_le (pe_glob (v := .int 2) (by rfl) m1 ⟨_, rfl⟩) (pv 0) (pe_glob (v := .int 64) (by rfl) m2 ⟨_, rfl⟩))) (pss_one (ps_ret pe_bl)) pss_nil)
      (pss_cons (ps_if (pt_not (pt_chain op_le op_le (pe_glob (v := .int 2) (by rfl) m3 ⟨_, rfl⟩) (pv 1) (pe_glob (v := .int 8) (by rfl) m4 ⟨_, rfl⟩))) (pss_one (ps_ret pe_bl)) pss_nil)
      (pss_one (ps_ret (pe_cmpR op_eq (pe_op op_mod (pv 0) (pv 1)) pe_int (nomark _))))), ?_⟩
    have no : ¬ IsParty g z → Q (.bl false) H := fun h => q false ⟨(fun e => by cases e), fun e => absurd e h⟩
    refine ⟨.int g, rfl, 2, g, rfl, rfl, _, rfl, ite2 (fun h1 => ?_) (fun h1 => ?_)⟩
    · have h1 := of_decide_eq_true h1
      refine ⟨g, 64, rfl, rfl, _, rfl, ite2 (fun h2 => ?_) (fun h2 => ?_)⟩
      · exact no fun z => by
          have := z.g64
          simp [this] at h2
      · have h2 : g ≤ 64 := by simpa using h2
        refine ⟨.int z, rfl, 2, z, rfl, rfl, _, rfl, ite2 (fun h3 => ?_) (fun h3 => ?_)⟩
        · have h3 := of_decide_eq_true h3
          refine ⟨z, 8, rfl, rfl, _, rfl, ite2 (fun h4 => ?_) (fun h4 => ?_)⟩
          · exact no fun y => by
              have := y.s8
              simp [this] at h4
          · have h4 : z ≤ 8 := by simpa using h4
            refine ⟨.int g, rfl, .int z, rfl, g, z, rfl, rfl, (by omega : (0 : Int) < z), rfl, ?_⟩
            refine q _ ⟨fun e => ?_, fun e => ?_⟩
            · have e' := V.int.inj (of_decide_eq_true e)
              exact ⟨h1, h2, h3, h4, e'⟩
            · exact decide_eq_true (congrArg V.int e.dv)
        · refine ⟨_, rfl, iteT ?_⟩
          exact no fun y => h3 (decide_eq_true y.s2)
    · refine ⟨_, rfl, iteT ?_⟩
      exact no fun y => h1 (decide_eq_true y.g2)
theorem scInit : FnScope ["self", "guests", "size"] ["self", "guests", "size"] (defScope sInit) := ⟨rfl, rfl, rfl, by decide +kernel, rfl, by decide +kernel, by decide +kernel⟩
def spInit (C : Addr) : Sp := fun vs H Q _ => ∃ (p dx : Addr) (g s : Int), vs = [.ref p, .int g, .int s] ∧ H p = some (.ins C dx []) ∧ IsParty g s ∧ Q .non (upd H p (.ins C dx (pf g s)))
theorem ok_init {f fP C : Addr} {fd fdP : FuncData} (F : Fun K "__init__" "Party.__init__" sInit f fd) (T : Txt K mg C) (FP : Fun K "is_party" "is_party" sIsParty fP fdP) (bP : Binds K fdP ["guests", "size"] []) (gP : mg "is_party" = some (.ref fP)) :
    FnOk P w K mg base CX0 2 f fd ["self", "guests", "size"] (spInit C) := by
  have GP : FnOk P w K mg base CX0 1 fP fdP ["guests", "size"] spIsParty := ok_isParty FP T
  refine F.ok scInit (fun vs H Q E h => ?_) (fun cdv A outer s H vs Q E hr h => ?_)
  · obtain ⟨p, dx, g, s, rfl, _⟩ := h
    rfl
  · obtain ⟨p, dx, g, z, rfl, hp, hI, q⟩ := h
    refine ⟨_, pss_cons (ps_if (pt_not (pt_val (pe_call GP hr (by rfl) gP FP.kp bP .nil pass0 (pa_cons (pv 1) (pa_cons (pv 2) pa_nil))))) pss_never pss_nil)
      (pss_cons (ps_fld (pv 0) (pv 1) rfl) (pss_one (ps_fld (pv 0) (pv 2) rfl))), ?_⟩
    refine ⟨.int g, rfl, .int z, rfl, g, z, rfl, fun b hb => ?_⟩
    have eb : b = true := hb.mpr hI
    subst eb
    refine ⟨_, rfl, iteF ?_⟩
    refine ⟨.int g, rfl, _, rfl, p, C, dx, [], rfl, hp, T.cl, T.nM, (by show 0 < 1000; decide), ?_⟩
    refine ⟨.int z, rfl, _, rfl, p, C, dx, _, rfl, upd_same, T.cl, T.nS, (by show 1 < 1000; decide), ?_⟩
    rw [upd_upd]
    exact q
end Nf

set_option Elab.async false
set_option linter.all false
set_option maxRecDepth 100000
set_option maxHeartbeats 4000000
namespace Nf
open PySem PySem.Spec PyProof.Rows L2
variable {P : Program} {w : World} {K : PySem.W.Frag} {mg : Str → Option Value} {base : Heap}
/-! ### is_table, is_round -/
theorem atI_head {t : Tbl} (h : 1 ≤ t.length) : atI (t.map V.int) 0 = some (.int (t.headD 0)) := by
  cases t with
  | nil => simp at h
  | cons a t => exact atI_nat (j := 0) rfl
theorem atI_end {t : Tbl} (h : 1 ≤ t.length) : atI (t.map V.int) (-1) = some (.int (t.getLastD 0)) := by
  have hn : t ≠ [] := by
    intro e
    subst e
    simp at h
  have e : t.map V.int = t.dropLast.map V.int ++ [.int (t.getLast hn)] := by
    rw [← List.map_singleton, ← List.map_append, List.dropLast_concat_getLast]
  rw [e, atI_last]
  rw [List.getLastD_eq_getLast?, List.getLast?_eq_getLast hn]
  rfl
theorem scIsTable : FnScope ["party", "table"] ["party", "table"] (defScope sIsTable) := ⟨rfl, rfl, rfl, by decide +kernel, rfl, by decide +kernel, by decide +kernel⟩
def spIsTable (C : Addr) : Sp := fun vs H Q _ => ∃ (p : Addr) (g s : Int) (x : V) (t : Tbl), vs = [.ref p, x] ∧ PartyV C H p g s ∧ TabV H x t ∧ t.length ≤ 100000 ∧ ∀ b H', Same H H' → (b = true ↔ IsTable g s t) → Q (.bl b) H'
theorem ok_isTable {f fR fG fS C : Addr} {fd fdR fdG fdS : FuncData} (F : Fun K "is_table" "is_table" sIsTable f fd) (B : Blt mg) (T : Txt K mg C) (FR : Fun K "rises" "rises" sRises fR fdR) (bR : Binds K fdR ["numbers"] []) (gR : mg "rises" = some (.ref fR))
    (FG : Fun K "guests" "Party.guests" sGuests fG fdG) (bG : Binds K fdG ["self"] []) (mG : Meth K C "guests" fG) (FS : Fun K "size" "Party.size" sSize fS fdS) (bS : Binds K fdS ["self"] []) (mS : Meth K C "size" fS) : FnOk P w K mg base CX0 2 f fd ["party", "table"] (spIsTable C) := by
  have GR : FnOk P w K mg base CX0 1 fR fdR ["numbers"] (spRises K) := ok_rises FR B
  have GG : FnOk P w K mg base CX0 1 fG fdG ["self"] (spGuests C) := ok_guests FG T
  have GS : FnOk P w K mg base CX0 1 fS fdS ["self"] (spSize C) := ok_size FS T
  have ng : ∀ g s, (pf g s).lookup ("guests" : Str) = none := fun g s => pf_no _ _ (by decide +kernel) (by decide +kernel)
  have ns : ∀ g s, (pf g s).lookup ("size" : Str) = none := fun g s => pf_no _ _ (by decide +kernel) (by decide +kernel)
  refine F.ok scIsTable (fun vs H Q E h => ?_) (fun cdv A outer s H vs Q E hr h => ?_)
  · obtain ⟨p, g, s, x, t, rfl, _⟩ := h
    rfl
  · obtain ⟨p, g, z, x, t, rfl, hP, ⟨a, rfl, ha⟩, hlen, q⟩ := h
    refine ⟨_, pss_cons (ps_if (pt_not (pt_chain op_le op_le pe_int (pe_callB call_len_seq (by rfl) B.len PySem.boot_len (pa_cons (pv 1) pa_nil)) (pe_meth0 (pv 0) T.cl mS GS hr bS .nil pass0))) (pss_one (ps_ret pe_bl)) pss_nil)
      (pss_one (ps_ret (pe_and (pe_call GR hr (by rfl) gR FR.kp bR .nil pass0 (pa_cons (pv 1) pa_nil)) (pe_and (pe_cmpR op_ge (pe_ix ix_tup (pv 1) pe_int (fun _ _ => rfl)) pe_int (nomark _))
        (pe_one (pe_cmpR op_lt (pe_ix ix_tup (pv 1) (pe_un un_neg pe_int) (fun _ _ => rfl)) (pe_meth0 (pv 0) T.cl mG GG hr bG .nil pass0) (nomark _))))))), ?_⟩
    have no : ∀ H', Same H H' → ¬ IsTable g z t → Q (.bl false) H' := fun H' sm h => q false H' sm ⟨(fun e => by cases e), fun e => absurd e h⟩
    obtain ⟨dx, hp⟩ := id hP
    refine ⟨.ref a, rfl, a, _, rfl, .inr (SqT.of ha), 1, _, rfl, rfl, _, rfl, ite2 (fun h1 => ?_) (fun h1 => ?_)⟩
    · have h1 : 1 ≤ t.length := by
        have := of_decide_eq_true h1
        rw [List.length_map] at this
        omega
      refine ⟨_, rfl, p, dx, _, rfl, hp, ns _ _, p, g, z, rfl, hP, _, _, rfl, rfl, _, rfl, ite2 (fun h2 => ?_) (fun h2 => ?_)⟩
      · exact no _ (Same.refl _) fun y => by
          have := y.sz.2
          rw [List.length_map] at h2
          simp [this] at h2
      · have h2 : (t.length : Int) ≤ z := by
          rw [List.length_map] at h2
          simpa using h2
        refine ⟨.ref a, rfl, a, t, rfl, .inr (SqT.of ha), hlen, fun H1 s1 => ?_⟩
        have ha1 := s1 _ _ ha
        refine ⟨_, rfl, ite2 (fun h3 => ?_) (fun h3 => ?_)⟩
        · refine ⟨.ref a, rfl, a, _, 0, _, rfl, rfl, SqT.of ha1, atI_head h1, _, _, rfl, rfl, _, rfl, ite2 (fun h4 => ?_) (fun h4 => ?_)⟩
          · have h4 := of_decide_eq_true h4
            obtain ⟨dx1, hp1⟩ := hP.same s1
            refine ⟨.ref a, rfl, 1, rfl, a, _, -1, _, rfl, rfl, SqT.of ha1, atI_end h1, _, rfl, p, dx1, _, rfl, hp1, ng _ _, p, g, z, rfl, ⟨dx1, hp1⟩, _, _, rfl, rfl, ?_⟩
            refine q _ H1 s1 ⟨fun e => ⟨⟨h1, h2⟩, (rises_iff t).mp h3, h4, of_decide_eq_true e⟩, fun e => decide_eq_true e.hi⟩
          · exact no H1 s1 fun y => h4 (decide_eq_true y.lo)
        · exact no H1 s1 fun y => h3 ((rises_iff t).mpr y.up)
    · refine ⟨_, rfl, iteT ?_⟩
      exact no _ (Same.refl _) fun y => h1 (decide_eq_true (by rw [List.length_map]; have := y.sz.1; omega))
theorem scIsRound : FnScope ["party", "thing", "sitting", "table", "guest"] ["party", "thing"] (defScope sIsRound) := ⟨rfl, rfl, rfl, by decide +kernel, rfl, by decide +kernel, by decide +kernel⟩
def spIsRound (C : Addr) : Sp := fun vs H Q _ => ∃ (p : Addr) (g s : Int) (x : V) (r : Rnd), vs = [.ref p, x] ∧ PartyV C H p g s ∧ IsParty g s ∧ RndV H x r ∧ r.length ≤ 100000 ∧ (∀ t ∈ r, t.length ≤ 100000) ∧ ∀ b H', Same H H' → (b = true ↔ IsRound g s r) → Q (.bl b) H'
theorem ok_isRound {f fT fR fB C : Addr} {fd fdT fdR fdB : FuncData} (F : Fun K "is_round" "is_round" sIsRound f fd) (B : Blt mg) (T : Txt K mg C) (GT : FnOk P w K mg base CX0 2 fT fdT ["party", "table"] (spIsTable C)) (FT : Fun K "is_table" "is_table" sIsTable fT fdT) (bT : Binds K fdT ["party", "table"] []) (gT : mg "is_table" = some (.ref fT))
    (FR : Fun K "rises" "rises" sRises fR fdR) (bR : Binds K fdR ["numbers"] []) (gR : mg "rises" = some (.ref fR)) (FB : Fun K "tables" "Party.tables" sTables fB fdB) (bB : Binds K fdB ["self"] []) (mB : Meth K C "tables" fB) : FnOk P w K mg base CX0 3 f fd ["party", "thing"] (spIsRound C) := by
  have GR : FnOk P w K mg base CX0 1 fR fdR ["numbers"] (spRises K) := ok_rises FR B
  have GB : FnOk P w K mg base CX0 1 fB fdB ["self"] (spTables C) := ok_tables FB T
  have nt : ∀ g s, (pf g s).lookup ("tables" : Str) = none := fun g s => pf_no _ _ (by decide +kernel) (by decide +kernel)
  refine F.ok scIsRound (fun vs H Q E h => ?_) (fun cdv A outer s H vs Q E hr h => ?_)
  · obtain ⟨p, g, s, x, r, rfl, _⟩ := h
    rfl
  · obtain ⟨p, g, z, x, r, rfl, hP, hI, ⟨a, xs, rfl, ha, hxs⟩, hlen, hlt, q⟩ := h
    have hr1 : Room 1 _ := hr.mono (by decide)
    refine ⟨_, pss_cons (ps_if (pt_cmpR op_gt (pe_callB call_len_seq (by rfl) B.len PySem.boot_len (pa_cons (pv 1) pa_nil)) (pe_meth0 (pv 0) T.cl mB GB hr1 bB .nil pass0) (nomark _)) (pss_one (ps_ret pe_bl)) pss_nil)
      (pss_cons (ps_if (pt_not (pt_val (pe_callB (cr_all rfl) (by rfl) B.all (by decide +kernel) (pa_cons
          (pe_lc (own := [("table", 3)]) (g := gName 3) (tt := tYes) (te := tCall (spIsTable C) [] E0 (tCons (tVar 0) (tCons (tVar 3) tNil))) (by rfl) scIsRound.nd (pi_tup (pv 1)) (blkOk_by (N := ["party", "thing", "sitting", "table", "guest"]) (sc := defScope sIsRound) (by decide +kernel))
            (fun _ _ _ _ _ => pg_name (i := 3) (x := "table") scIsRound.nd rfl (.inl rfl) (.inr rfl)) (fun _ _ _ _ _ => pts_nil) (fun _ _ _ _ _ => pe_call GT hr (by rfl) gT FT.kp bT .nil pass0 (pa_cons (pv 0) (pa_cons (pv 3) pa_nil)))) pa_nil)))) (pss_one (ps_ret pe_bl)) pss_nil)
      (pss_cons (ps_setLcN (i := 2) (own := [("table", 3), ("guest", 4)]) (wi := iTup K (tVar 1)) (t := tCl (gName 3) tYes [3, 4] (bMid (iTup K (tVar 3)) (tCl (gName 4) tYes [4] (bLast (tVar 4)))))
          (by rfl) scIsRound.nd rfl rfl (sw_true rfl rfl rfl (by decide +kernel)) (pi_tup (pv 1)) (blkOk_by (N := ["party", "thing", "sitting", "table", "guest"]) (sc := defScope sIsRound) (by decide +kernel))
          (fun _ _ _ _ _ => pcl_mid rfl rfl rfl rfl (by decide) (pg_name (i := 3) (x := "table") scIsRound.nd rfl (.inl rfl) (.inr rfl)) pts_nil (pi_tup (pv 3)) (by intro _; rfl) (pcl_last rfl rfl rfl rfl (pg_name (i := 4) (x := "guest") scIsRound.nd rfl (.inl rfl) (.inr rfl)) pts_nil (pv 4))))
      (pss_cons (ps_if (pt_cmpR op_lt (pe_lenSet (by rfl) B.len (by rfl) B.set (pv 2)) (pe_callB call_len_seq (by rfl) B.len PySem.boot_len (pa_cons (pv 2) pa_nil)) (nomark _)) (pss_one (ps_ret pe_bl)) pss_nil)
      (pss_one (ps_ret (pe_call GR hr1 (by rfl) gR FR.kp bR .nil pass0 (pa_cons
        (pe_lc (own := [("table", 3)]) (g := gName 3) (tt := tYes) (te := tOp (rIxT K) (tVar 3) (tC (.int 0))) (by rfl) scIsRound.nd (pi_tup (pv 1)) (blkOk_by (N := ["party", "thing", "sitting", "table", "guest"]) (sc := defScope sIsRound) (by decide +kernel))
            (fun _ _ _ _ _ => pg_name (i := 3) (x := "table") scIsRound.nd rfl (.inl rfl) (.inr rfl)) (fun _ _ _ _ _ => pts_nil) (fun _ _ _ _ _ => pe_ix ix_tup (pv 3) pe_int (fun _ _ => rfl))) pa_nil))))))), ?_⟩
    have no : ∀ H', Same H H' → ¬ IsRound g z r → Q (.bl false) H' := fun H' sm h => q false H' sm ⟨(fun e => by cases e), fun e => absurd e h⟩
    obtain ⟨dx, hp⟩ := id hP
    have hxl := paired_len hxs
    have big : (100000 : Nat) < sizeLine := by decide
    have haT : ∀ {H' : Hp}, Same H H' → SqT K H' a xs := fun sm => SqT.of (sm _ _ ha)
    -- len(thing) > party.tables()
    refine ⟨.ref a, rfl, a, _, rfl, .inr (SqT.of ha), _, rfl, p, dx, _, rfl, hp, nt _ _, p, g, z, rfl, hP, by have := hI.s2; omega, by have := hI.s8; omega, _, _, rfl, rfl, _, rfl, ite2 (fun h1 => ?_) (fun h1 => ?_)⟩
    · have h1 := of_decide_eq_true h1
      exact no _ (Same.refl _) fun y => by
        have := y.ct
        omega
    have h1 : (r.length : Int) ≤ g / z := by
      have h2 : ¬ (g / z < ((xs.length : Nat) : Int)) := fun y => h1 (decide_eq_true y)
      omega
    -- all([is_table(..)])
    refine ⟨.ref a, rfl, a, rfl, ⟨_, SqT.of ha⟩, fun D nD => ?_⟩
    have s0 : Same H (upd H D (.lst [])) := same_new nD
    refine lc_it walk_tup (fun i H2 => Same H H2 ∧ ∃ bs : List Bool, H2 D = some (.lst (bs.map V.bl)) ∧ bs.length = i ∧ (bs.all id = true ↔ ∀ t ∈ r.take i, IsTable g z t)) ⟨s0, [], upd_same, rfl, by simp⟩ (fun i H2 _ p => haT p.1) (fun i x H2 H3 hi hI2 y => ?_) (fun H2 hI2 => ?_)
    · obtain ⟨rfl, hx⟩ := y
      obtain ⟨t, ht, b, rfl, hb⟩ := paired_getL hxs hx
      obtain ⟨sm, bs, hD, hbl, hba⟩ := hI2
      refine ⟨wipe_put (by decide), yesT ?_⟩
      show tCall (spIsTable C) [] E0 _ [some (.ref p), some (.ref a), none, some (.ref b), none] _ _
      refine ⟨.ref p, rfl, .ref b, rfl, p, g, z, .ref b, t, rfl, hP.same sm, ⟨b, rfl, sm _ _ hb⟩, hlt t (List.mem_of_getElem? ht), fun c H4 s4 hc => ?_⟩
      refine ⟨_, s4 _ _ hD, by rw [List.length_map]; omega, same_put (sm.trans s4) nD, bs ++ [c], ?_, by simp [hbl], ?_⟩
      · rw [upd_same, List.map_append]
        rfl
      · rw [takeSucc ht, List.all_append]
        simp only [List.all_cons, List.all_nil, Bool.and_true, Bool.and_eq_true, id]
        rw [hba, hc]
        constructor
        · rintro ⟨u1, u2⟩ y hy
          rcases List.mem_append.mp hy with hy | hy
          · exact u1 y hy
          · rw [List.mem_singleton.mp hy]
            exact u2
        · exact fun u => ⟨fun y hy => u y (List.mem_append_left _ hy), u t (by simp)⟩
    obtain ⟨sm2, bs, hD, _, hba⟩ := hI2
    rw [hxl, List.take_of_length_le (Nat.le_refl _)] at hba
    refine ⟨D, bs, rfl, SqL.of hD, _, rfl, ite2 (fun h2 => ?_) (fun h2 => ?_)⟩
    · refine no _ sm2 fun y => ?_
      have := hba.mpr (isRound_iff.mp y).2.1
      rw [this] at h2
      cases h2
    have hall : ∀ t ∈ r, IsTable g z t := hba.mp (by simpa using h2)
    -- sitting
    refine ⟨.ref a, rfl, a, rfl, ⟨_, haT sm2⟩, fun D2 nD2 => ?_⟩
    show tCl (gName 3) tYes [3, 4] _ _ D2 [some (.ref p), some (.ref a), none, none, none] _ _
    have s3 : Same H2 (upd H2 D2 (.lst [])) := same_new nD2
    have nD20 : H D2 = none := sm2.free nD2
    have hfl : r.flatten.length ≤ 64 := by
      have e1 := sum_le (fun t ht => (hall t ht).sz.2)
      have hz : 0 < z := by have := hI.s2; omega
      have e2 : (r.length : Int) * z ≤ g / z * z := Int.mul_le_mul_of_nonneg_right h1 (by omega)
      have e3 : g / z * z ≤ g := Int.ediv_mul_le g (by omega)
      have := hI.g64
      omega
    refine cl_it walk_tup (fun i H5 => Same H H5 ∧ ∃ ms : List Int, H5 D2 = some (.lst (ms.map V.int)) ∧ ms ++ (r.drop i).flatten = r.flatten) ⟨sm2.trans s3, [], upd_same, by simp⟩ (fun i H5 _ p => haT p.1) (fun i x H5 H6 hi hI5 y => ?_) (fun H5 hI5 => ?_)
    · obtain ⟨rfl, hx⟩ := y
      obtain ⟨t, ht, b, rfl, hb⟩ := paired_getL hxs hx
      obtain ⟨sm, ms, hD2, e⟩ := hI5
      rw [dropCons ht, List.flatten_cons] at e
      refine ⟨wipe_put (by decide), yesT ?_⟩
      show bMid _ _ D2 [some (.ref p), some (.ref a), none, some (.ref b), none] _ _
      refine ⟨.ref b, rfl, b, rfl, ⟨_, SqT.of (sm _ _ hb)⟩, ?_⟩
      refine cl_it (walk_tup (xs := t.map V.int)) (fun j H7 => Same H H7 ∧ ∃ ms : List Int, H7 D2 = some (.lst (ms.map V.int)) ∧ ms ++ (t.drop j ++ (r.drop (i + 1)).flatten) = r.flatten) ⟨sm, ms, hD2, by rw [List.drop_zero]; exact e⟩ (fun j H7 _ p => SqT.of (p.1 _ _ hb)) (fun j x H7 H8 hj hJ y => ?_)
        (fun H7 hJ => ?_)
      · obtain ⟨rfl, hx⟩ := y
        obtain ⟨n, hn, rfl⟩ := getElem?_int hx
        obtain ⟨sm7, ms7, hD7, e7⟩ := hJ
        rw [dropCons hn, List.cons_append] at e7
        refine ⟨wipe_put (by decide), yesT ?_⟩
        show bLast _ D2 [some (.ref p), some (.ref a), none, some (.ref b), some (.int n)] _ _
        refine ⟨.int n, rfl, _, hD7, ?_, same_put sm7 nD20, ms7 ++ [n], ?_, ?_⟩
        · have : ms7.length ≤ r.flatten.length := by
            rw [← e7, List.length_append]
            omega
          rw [List.length_map]
          omega
        · rw [upd_same, List.map_append]
          rfl
        · rw [List.append_assoc]
          exact e7
      · obtain ⟨sm7, ms7, hD7, e7⟩ := hJ
        refine ⟨sm7, ms7, hD7, ?_⟩
        rw [List.length_map, List.drop_of_length_le (Nat.le_refl _)] at e7
        exact e7
    obtain ⟨sm5, ms, hD2, e⟩ := hI5
    rw [hxl, List.drop_of_length_le (Nat.le_refl _), List.flatten_nil, List.append_nil] at e
    subst e
    -- len(set(sitting)) < len(sitting)
    refine ⟨.ref D2, rfl, D2, r.flatten, rfl, SqL.of hD2, by omega, .ref D2, rfl, D2, _, rfl, .inl (SqL.of hD2), _, _, rfl, rfl, _, rfl, ite2 (fun h3 => ?_) (fun h3 => ?_)⟩
    · have h3 := of_decide_eq_true h3
      refine no _ sm5 fun y => ?_
      have := (metN_iff _).mpr y.nd
      rw [List.length_map] at h3
      omega
    have hnd : r.flatten.Nodup := by
      refine (metN_iff _).mp ?_
      have h4 : ¬ (((metN r.flatten : Nat) : Int) < (((r.flatten.map V.int).length : Nat) : Int)) := fun y => h3 (decide_eq_true y)
      rw [List.length_map] at h4
      have := metN_le r.flatten
      omega
    -- rises([table[0] ..])
    refine ⟨.ref a, rfl, a, rfl, ⟨_, haT sm5⟩, fun D3 nD3 => ?_⟩
    have nD30 : H D3 = none := sm5.free nD3
    refine lc_it walk_tup (fun i H6 => Same H H6 ∧ H6 D3 = some (.lst (((r.take i).map (·.headD 0)).map V.int))) ⟨sm5.trans (same_new nD3), upd_same⟩ (fun i H6 _ p => haT p.1) (fun i x H6 H7 hi hI6 y => ?_) (fun H6 hI6 => ?_)
    · obtain ⟨rfl, hx⟩ := y
      obtain ⟨t, ht, b, rfl, hb⟩ := paired_getL hxs hx
      obtain ⟨sm, hD3⟩ := hI6
      refine ⟨wipe_put (by decide), yesT ?_⟩
      show tOp _ _ _ [some (.ref p), some (.ref a), some (.ref D2), some (.ref b), none] _ _
      refine ⟨.ref b, rfl, b, _, 0, _, rfl, rfl, SqT.of (sm _ _ hb), atI_head (hall t (List.mem_of_getElem? ht)).sz.1, _, hD3, ?_, same_put sm nD30, ?_⟩
      · rw [List.length_map, List.length_map, List.length_take]
        omega
      · rw [upd_same, takeSucc ht, List.map_append, List.map_append]
        rfl
    obtain ⟨sm6, hD3⟩ := hI6
    rw [hxl, List.take_of_length_le (Nat.le_refl _)] at hD3
    refine ⟨D3, r.map (·.headD 0), rfl, .inl (SqL.of hD3), by rw [List.length_map]; exact hlen, fun H7 s7 => ?_⟩
    refine q _ H7 (sm6.trans s7) ?_
    rw [rises_iff, isRound_iff]
    exact ⟨fun y => ⟨h1, hall, hnd, y⟩, fun y => y.2.2.2⟩
end Nf

set_option Elab.async false
set_option linter.all false
set_option maxRecDepth 100000
set_option maxHeartbeats 4000000
namespace Nf
open PySem PySem.Spec PyProof.Rows L2
variable {P : Program} {w : World} {K : PySem.W.Frag} {mg : Str → Option Value} {base : Heap}
/-! ### few, many -/
/-- a display's row of written pairs -/
def pairsA : List (Int × Int) → TA
  | [] => tNil
  | p :: ps => tCons (tTup (tCons (tC (.int p.1)) (tCons (tC (.int p.2)) tNil))) (pairsA ps)
theorem pairsA_ok {σ : L2.St} : ∀ (ps : List (Int × Int)) {H : Hp} {Q : List V → Hp → Prop}, (∀ vs H', Same H H' → Paired (PairV H') vs ps → Q vs H') → pairsA ps σ H Q
  | [], H, Q, h => h [] H (Same.refl H) .nil
  | p :: ps, H, Q, h => by
    refine ⟨two_le, fun T nT => ?_⟩
    refine pairsA_ok ps fun vs H' s hv => ?_
    exact h _ H' ((same_new nT).trans s) (.cons ⟨T, rfl, s _ _ upd_same⟩ hv)
theorem lst_pairs {σ : L2.St} (ps : List (Int × Int)) {H : Hp} {Q : VK} (hl : ps.length ≤ sizeLine) (h : ∀ vs H' l, Same H H' → Paired (PairV H') vs ps → H' l = none → Q (.ref l) (upd H' l (.lst vs))) : tLst (pairsA ps) σ H Q := by
  refine pairsA_ok ps fun vs H' s hv => ⟨?_, fun l nl => h vs H' l s hv nl⟩
  rw [paired_len hv]
  exact hl
def fewL : List (Int × Int) := [(6, 2), (8, 2), (9, 3), (4, 2), (6, 3), (8, 4), (8, 2), (9, 3), (2, 2), (3, 3), (4, 4), (7, 7)]
theorem few_ok : ∀ p ∈ fewL, IsParty p.1 p.2 ∧ p.1 ≤ 9 := by
  intro p hp
  simp only [fewL, List.mem_cons, List.not_mem_nil, or_false] at hp
  rcases hp with h | h | h | h | h | h | h | h | h | h | h | h <;> (subst h; exact ⟨⟨by decide, by decide, by decide, by decide, by decide⟩, by decide⟩)
theorem scFew : FnScope ["_law_row", "_law_some"] ["_law_row"] (defScope lFew) := ⟨rfl, rfl, rfl, by decide +kernel, rfl, by decide +kernel, by decide +kernel⟩
def spFew (K : PySem.W.Frag) : Sp := fun vs H Q _ => ∃ (r a : Addr) (ns : List Int), vs = [.ref r] ∧ RowAt K H r a ns ∧ ∀ x H' g s, RowAt K H' r a ns → Sx r H H' → PairV H' x (g, s) → IsParty g s → g ≤ 9 → Q x H'
theorem ok_few {f fT : Addr} {fd fdT : FuncData} (F : Fun K "_law_few" "_law_few" lFew f fd) (B : Blt mg) (FT : Fun K "_law_taken" "_law_taken" lTaken fT fdT) (bT : Binds K fdT ["_law_row", "_law_many_here"] []) (gT : mg "_law_taken" = some (.ref fT)) : FnOk P w K mg base CX0 2 f fd ["_law_row"] (spFew K) := by
  have GT : FnOk P w K mg base CX0 1 fT fdT ["_law_row", "_law_many_here"] (spTaken K) := ok_taken FT B
  refine F.ok scFew (fun vs H Q E h => ?_) (fun cdv A outer s H vs Q E hr h => ?_)
  · obtain ⟨r, a, ns, rfl, _⟩ := h
    rfl
  · obtain ⟨r, a, ns, rfl, hR, q⟩ := h
    have pp : ∀ {X : Cx} {i j k l m n pos pos'}, PE X (.Tuple [.Constant (.int i) k pos, .Constant (.int j) l pos'] m n) (tTup (tCons (tC (.int i)) (tCons (tC (.int j)) tNil))) := pe_tup (pa_cons pe_int (pa_cons pe_int pa_nil))
    refine ⟨_, pss_cons (ps_set (i := 1) (te := tLst (pairsA fewL)) scFew.nd rfl (.inl rfl) (pe_lst (pa_cons pp (pa_cons pp (pa_cons pp (pa_cons pp (pa_cons pp (pa_cons pp (pa_cons pp (pa_cons pp (pa_cons pp (pa_cons pp (pa_cons pp (pa_cons pp pa_nil))))))))))))))
      (pss_one (ps_ret (pe_ix ix_list (pv 1) (pe_call GT hr (by rfl) gT FT.kp bT .nil pass0 (pa_cons (pv 0) (pa_cons pe_int pa_nil))) (fun _ _ => rfl)))), ?_⟩
    dsimp only [tSeq, tAsg]
    refine lst_pairs fewL (by decide) fun vs H1 l s1 hv nl => ?_
    have hvl := paired_len hv
    have h12 : vs.length = 12 := hvl
    have s2 : Same H1 (upd H1 l (.lst vs)) := same_new nl
    refine ⟨.ref l, rfl, .ref r, rfl, r, a, ns, 12, rfl, (hR.keep s1).keep s2, by decide, by decide, fun v H3 v0 v1 hR3 s3 => ?_⟩
    obtain ⟨xr, hxr⟩ := hR.lst
    have nlr : l ≠ r := fun e => by
      rw [e, s1 _ _ hxr] at nl
      cases nl
    have hlt : v.toNat < vs.length := by omega
    have hat : vs[v.toNat]? = some vs[v.toNat] := List.getElem?_eq_getElem hlt
    obtain ⟨p, hp, hx⟩ := paired_getL hv hat
    refine ⟨l, vs, v, vs[v.toNat], rfl, rfl, SqL.of (s3 _ _ nlr upd_same), ?_, ?_⟩
    · exact at_of (show v = ((v.toNat : Nat) : Int) by omega) hat
    · obtain ⟨h1, h2⟩ := few_ok p (List.mem_of_getElem? hp)
      have hT : SameT (upd H1 l (.lst vs)) H3 := Sx.toT s3 (s2 _ _ (s1 _ _ hxr))
      exact q _ H3 p.1 p.2 hR3 ((same_sx (s1.trans s2)).trans s3) ((hx.mono (same_toT s2)).mono hT) h1 h2
theorem scMany : FnScope ["_law_row", "_law_size", "_law_guests"] ["_law_row"] (defScope lMany) := ⟨rfl, rfl, rfl, by decide +kernel, rfl, by decide +kernel, by decide +kernel⟩
def spMany (K : PySem.W.Frag) : Sp := fun vs H Q _ => ∃ (r a : Addr) (ns : List Int), vs = [.ref r] ∧ RowAt K H r a ns ∧ ∀ x H' g s, RowAt K H' r a ns → Sx r H H' → PairV H' x (g, s) → IsParty g s → Q x H'
theorem many_party {s t : Int} (h0 : 2 ≤ s) (h1 : s ≤ 8) (t0 : 0 ≤ t) (t1 : t < 64 / s) : IsParty (s * (1 + t)) s := by
  have e : s * (64 / s) ≤ 64 := Int.mul_ediv_self_le (by omega)
  have m : s * (1 + t) ≤ s * (64 / s) := Int.mul_le_mul_of_nonneg_left (by omega) (by omega)
  have l : s * 1 ≤ s * (1 + t) := Int.mul_le_mul_of_nonneg_left (by omega) (by omega)
  exact ⟨by omega, by omega, h0, h1, Int.mul_emod_right _ _⟩
theorem ok_many {f fT fF : Addr} {fd fdT fdF : FuncData} (F : Fun K "_law_many" "_law_many" lMany f fd) (B : Blt mg) (FT : Fun K "_law_taken" "_law_taken" lTaken fT fdT) (bT : Binds K fdT ["_law_row", "_law_many_here"] []) (gT : mg "_law_taken" = some (.ref fT))
    (FF : Fun K "_law_few" "_law_few" lFew fF fdF) (bF : Binds K fdF ["_law_row"] []) (gF : mg "_law_few" = some (.ref fF)) : FnOk P w K mg base CX0 3 f fd ["_law_row"] (spMany K) := by
  have GT : FnOk P w K mg base CX0 1 fT fdT ["_law_row", "_law_many_here"] (spTaken K) := ok_taken FT B
  have GF : FnOk P w K mg base CX0 2 fF fdF ["_law_row"] (spFew K) := ok_few FF B FT bT gT
  refine F.ok scMany (fun vs H Q E h => ?_) (fun cdv A outer s H vs Q E hr h => ?_)
  · obtain ⟨r, a, ns, rfl, _⟩ := h
    rfl
  · obtain ⟨r, a, ns, rfl, hR, q⟩ := h
    have hr1 : Room 1 _ := hr.mono (by decide)
    refine ⟨_, pss_cons (ps_set (i := 1) scMany.nd rfl (.inl rfl) (pe_op op_add pe_int (pe_call GT hr1 (by rfl) gT FT.kp bT .nil pass0 (pa_cons (pv 0) (pa_cons pe_int pa_nil)))))
      (pss_cons (ps_set (i := 2) scMany.nd rfl (.inl rfl) (pe_op op_mul (pv 1) (pe_op op_add pe_int (pe_call GT hr1 (by rfl) gT FT.kp bT .nil pass0 (pa_cons (pv 0) (pa_cons (pe_op op_fdiv pe_int (pv 1)) pa_nil))))))
      (pss_one (ps_ret (pe_ix ix_list (pe_lst (pa_cons (pe_call GF hr (by rfl) gF FF.kp bF .nil pass0 (pa_cons (pv 0) pa_nil)) (pa_cons (pe_tup (pa_cons (pv 2) (pa_cons (pv 1) pa_nil))) pa_nil)))
        (pe_call GT hr1 (by rfl) gT FT.kp bT .nil pass0 (pa_cons (pv 0) (pa_cons pe_int pa_nil))) (fun _ _ => rfl))))), ?_⟩
    refine ⟨.ref r, rfl, r, a, ns, 7, rfl, hR, by decide, by decide, fun v H1 v0 v1 R1 s1 => ⟨2, v, rfl, rfl, ?_⟩⟩
    refine ⟨.int (2 + v), rfl, .ref r, rfl, .int (2 + v), rfl, 64, 2 + v, rfl, rfl, ⟨by omega, by omega⟩, r, a, ns, 64 / (2 + v), rfl, R1, ?_, ?_, fun t H2 t0 t1 R2 s2 => ⟨1, t, rfl, rfl, 2 + v, 1 + t, rfl, rfl, .inl ⟨by omega, by omega⟩, ?_⟩⟩
    · have : 1 ≤ 64 / (2 + v) := Int.le_ediv_of_mul_le (by omega) (by omega)
      omega
    · have : 64 / (2 + v) ≤ 64 := Int.ediv_le_self _ (by omega)
      omega
    refine ⟨.ref r, rfl, r, a, ns, rfl, R2, fun x H3 g z R3 s3 hx hI _ => ?_⟩
    refine ⟨.int ((2 + v) * (1 + t)), rfl, .int (2 + v), rfl, two_le, fun T nT => ?_⟩
    have s4 : Same H3 (upd H3 T (.tup [.int ((2 + v) * (1 + t)), .int (2 + v)])) := same_new nT
    refine ⟨two_le, fun l nl => ?_⟩
    have s5 := s4.trans (same_new (o := .lst [x, .ref T]) nl)
    refine ⟨.ref r, rfl, r, a, ns, 2, rfl, R3.keep s5, by decide, by decide, fun u H6 u0 u1 R6 s6 => ?_⟩
    obtain ⟨xr, hxr⟩ := R3.lst
    have hT5 : SameT (upd (upd H3 T (.tup [.int ((2 + v) * (1 + t)), .int (2 + v)])) l (.lst [x, .ref T])) H6 := Sx.toT s6 (s5 _ _ hxr)
    have sx := ((s1.trans s2).trans s3).trans ((same_sx s5).trans s6)
    have nlr : l ≠ r := fun e => by
      rw [e, s4 _ _ hxr] at nl
      cases nl
    have hl6 := s6 _ _ nlr upd_same
    by_cases hu : u = 0
    · subst hu
      exact ⟨l, _, 0, x, rfl, rfl, SqL.of hl6, rfl, q x H6 g z R6 sx ((hx.mono (same_toT s5)).mono hT5) hI⟩
    · have e1 : u = 1 := by omega
      subst e1
      refine ⟨l, _, 1, .ref T, rfl, rfl, SqL.of hl6, rfl, q _ H6 ((2 + v) * (1 + t)) (2 + v) R6 sx ⟨T, rfl, hT5 _ _ ?_⟩ (many_party (by omega) (by omega) t0 t1)⟩
      rw [upd_ne (ne_of_none upd_same nl)]
      exact upd_same
end Nf

set_option Elab.async false
set_option linter.all false
set_option maxRecDepth 100000
set_option maxHeartbeats 4000000
namespace Nf
open PySem PySem.Spec PyProof.Rows L2
variable {P : Program} {w : World} {K : PySem.W.Frag} {mg : Str → Option Value} {base : Heap}
/-! ### mixed -/
theorem scMixed : FnScope ["_law_row", "_law_some", "_law_left", "_law_found"] ["_law_row", "_law_some"] (defScope lMixed) := ⟨rfl, rfl, rfl, by decide +kernel, rfl, by decide +kernel, by decide +kernel⟩
def spMixed (K : PySem.W.Frag) : Sp := fun vs H Q _ => ∃ (r a b : Addr) (ns l : List Int), vs = [.ref r, .ref b] ∧ RowAt K H r a ns ∧ SqL K H b (l.map V.int) ∧ l.length ≤ 100000 ∧
  ∀ (q : Addr) (H' : Hp) (l' : List Int), RowAt K H' r a ns → Sx r H H' → H q = none → H' q = some (.lst (l'.map V.int)) → l'.Perm l → Q (.ref q) H'
theorem eqv_nil (l : List Int) : PyData.eqv (.list (l.map .int)) (.list []) = l.isEmpty := by
  cases l <;> simp [PyData.eqv, PyData.eqvAll]
theorem shNil : SeqAt.shaped (.list []) = true := by decide +kernel
theorem erase_map : ∀ (l : List Int) (j : Nat), (l.map V.int).eraseIdx j = (l.eraseIdx j).map V.int
  | [], _ => rfl
  | _ :: _, 0 => rfl
  | x :: l, j + 1 => by
    simp only [List.map_cons, List.eraseIdx_cons_succ, erase_map l j]
theorem seqIx {l : List Int} {v : Int} (h0 : 0 ≤ v) (h1 : v < l.length) : seqIndex? v (l.map V.int).length = some v.toNat := by
  unfold seqIndex?
  rw [List.length_map]
  have h2 : ¬ v < 0 := by omega
  simp [h2]
  omega
theorem ok_mixed {f fT : Addr} {fd fdT : FuncData} (F : Fun K "_law_mixed" "_law_mixed" lMixed f fd) (B : Blt mg) (FT : Fun K "_law_taken" "_law_taken" lTaken fT fdT) (bT : Binds K fdT ["_law_row", "_law_many_here"] []) (gT : mg "_law_taken" = some (.ref fT)) : FnOk P w K mg base CX0 2 f fd ["_law_row", "_law_some"] (spMixed K) := by
  have GT : FnOk P w K mg base CX0 1 fT fdT ["_law_row", "_law_many_here"] (spTaken K) := ok_taken FT B
  refine F.ok scMixed (fun vs H Q E h => ?_) (fun cdv A outer s H vs Q E hr h => ?_)
  · obtain ⟨r, a, b, ns, l, rfl, _⟩ := h
    rfl
  · obtain ⟨r, a, b, ns, l, rfl, hR, hS, hlen, q⟩ := h
    refine ⟨_, pss_cons (ps_set (i := 2) scMixed.nd rfl (.inl rfl) (pe_callTy call_list_of (by rfl) B.list (by decide +kernel) (pa_cons (pv 1) pa_nil)))
      (pss_cons (ps_set (i := 3) scMixed.nd rfl (.inl rfl) (pe_lst pa_nil))
      (pss_cons (ps_while PassesOwn.never (pt_cmpR (op_neD hr.units) (pv 2) (pe_lst pa_nil) (nomark _))
        (pss_one (ps_expr (pe_bm PySem.F.plainAttrs_list PySem.F.slot_list_append PySem.F.type_list_append mt_append (pv 3) (pa_cons
          (pe_bm PySem.F.plainAttrs_list PySem.F.slot_list_pop PySem.F.type_list_pop mt_popAt (pv 2) (pa_cons (pe_call GT hr (by rfl) gT FT.kp bT .nil pass0 (pa_cons (pv 0) (pa_cons (pe_callB call_len_seq (by rfl) B.len PySem.boot_len (pa_cons (pv 2) pa_nil)) pa_nil))) pa_nil)) pa_nil)))))
      (pss_one (ps_ret (pv 3))))), ?_⟩
    have big : (100000 : Nat) < sizeLine := by decide
    refine ⟨.ref b, rfl, b, _, rfl, .inl hS, fun c nc => ?_⟩
    have s1 : Same H (upd H c (.lst (l.map V.int))) := same_new nc
    refine ⟨Nat.zero_le _, fun d nd => ?_⟩
    have s2 := s1.trans (same_new (o := .lst []) nd)
    have hcd : c ≠ d := ne_of_none upd_same nd
    have nd0 : H d = none := s1.free nd
    obtain ⟨xr0, hxr0⟩ := hR.lst
    have ncr : c ≠ r := fun e => by
      rw [e, hxr0] at nc
      cases nc
    have ndr : d ≠ r := fun e => by
      rw [e, hxr0] at nd0
      cases nd0
    refine while_by (fun σ H2 => ∃ (m k : List Int), σ = [some (.ref r), some (.ref b), some (.ref c), some (.ref d)] ∧ RowAt K H2 r a ns ∧ Sx r H H2 ∧ H2 c = some (.lst (m.map V.int)) ∧ H2 d = some (.lst (k.map V.int)) ∧ (k ++ m).Perm l)
      (fun σ H2 => match H2 c with | some (.lst xs) => xs.length | _ => 0) ⟨l, [], rfl, hR.keep s2, same_sx s2, ?_, upd_same, by simp⟩ (fun σ H2 h => ?_) (fun σ H2 Q1 Q2 hq h => ?_)
    · rw [upd_ne hcd]
      exact upd_same
    · obtain ⟨m, k, rfl, R2, sx, hc, hd, hp⟩ := h
      obtain ⟨xr, hxr⟩ := R2.lst
      have hml : k.length + m.length = l.length := by
        rw [← hp.length_eq, List.length_append]
      refine ⟨.ref c, rfl, Nat.zero_le _, fun e ne => ?_⟩
      have s3 : Same H2 (upd H2 e (.lst [])) := same_new ne
      refine ⟨.list (m.map .int), .list [], .lst (SqL.of (s3 _ _ hc)) (dpAll_ints m), .lst (SqL.of upd_same) .nil, shInts m, shNil, _, rfl, ?_⟩
      rw [eqv_nil]
      cases m with
      | nil =>
        refine iteF ?_
        have hkp : k.Perm l := by simpa using hp
        exact ⟨.ref d, rfl, q d _ k (R2.keep s3) (sx.trans (same_sx s3)) nd0 (s3 _ _ hd) hkp⟩
      | cons m0 m' =>
        refine iteT ?_
        refine ⟨.ref d, rfl, .inl ⟨rfl, _, SqL.of (s3 _ _ hd)⟩, .ref c, rfl, .inl ⟨rfl, _, SqL.of (s3 _ _ hc)⟩, .ref r, rfl, .ref c, rfl, c, _, rfl, .inl (SqL.of (s3 _ _ hc)), r, a, ns, _, rfl, R2.keep s3, ?_, ?_, fun v H4 v0 v1 R4 s4 => ?_⟩
        · rw [List.length_map, List.length_cons]
          omega
        · rw [List.length_map]
          omega
        rw [List.length_map] at v1
        have hc4 := s4 _ _ ncr (s3 _ _ hc)
        have hd4 := s4 _ _ ndr (s3 _ _ hd)
        have hlt : v.toNat < (m0 :: m').length := by omega
        refine ⟨c, _, v, v.toNat, .int (m0 :: m')[v.toNat], rfl, rfl, hc4, by omega, ?_, seqIx v0 v1, int_getElem? (List.getElem?_eq_getElem hlt), ?_⟩
        · rw [List.length_cons] at *
          omega
        have hd5 : (upd H4 c (.lst (((m0 :: m').map V.int).eraseIdx v.toNat))) d = some (.lst (k.map V.int)) := by
          rw [upd_ne hcd.symm]
          exact hd4
        refine ⟨d, _, _, rfl, rfl, hd5, ?_, ?_⟩
        · rw [List.length_map]
          rw [List.length_cons] at hml
          omega
        refine ⟨⟨(m0 :: m').eraseIdx v.toNat, k ++ [(m0 :: m')[v.toNat]], rfl, ?_, ?_, ?_, ?_, ?_⟩, ?_⟩
        · exact row_put hR nd0 (row_put hR nc R4)
        · exact sx_put (sx_put ((sx.trans (same_sx s3)).trans s4) nc) nd0
        · rw [upd_ne hcd, upd_same, erase_map]
        · rw [upd_same, List.map_append]
          rfl
        · refine List.Perm.trans ?_ hp
          rw [List.append_assoc]
          exact List.Perm.append_left _ (perm_erase hlt)
        · show (match (upd (upd H4 c _) d _) c with | some (.lst xs) => xs.length | _ => 0) < (match H2 c with | some (.lst xs) => xs.length | _ => 0)
          rw [upd_ne hcd, upd_same, hc]
          show (((m0 :: m').map V.int).eraseIdx v.toNat).length < ((m0 :: m').map V.int).length
          rw [erase_map, List.length_map, List.length_map, List.length_eraseIdx_of_lt hlt]
          simp
    · obtain ⟨v, e, z, h⟩ := h
      exact ⟨v, e, z, fun p np => by
        obtain ⟨d1, e1, h1, h2, h3, h4, k1, ek, hk⟩ := h p np
        exact ⟨d1, e1, h1, h2, h3, h4, k1, ek, hq _ _ hk⟩⟩
end Nf

set_option Elab.async false
set_option linter.all false
set_option maxRecDepth 100000
set_option maxHeartbeats 4000000
namespace Nf
open PySem PySem.Spec PyProof.Rows L2
variable {P : Program} {w : World} {K : PySem.W.Frag} {mg : Str → Option Value} {base : Heap}
/-! ### seated -/
theorem cutMid (xs : List V) (i j : Nat) : cutV xs (some ((i : Nat) : Int)) (some ((i + j : Nat) : Int)) = (xs.drop i).take j := by
  unfold cutV
  rw [HT.sIx_nat xs.length 0 i, HT.sIx_nat xs.length xs.length (i + j)]
  refine List.ext_getElem? fun k => ?_
  rw [List.getElem?_take, List.getElem?_take, List.getElem?_drop, List.getElem?_drop]
  by_cases h1 : i ≤ xs.length
  · rw [Nat.min_eq_left h1]
    by_cases h2 : k < j
    · rw [if_pos h2]
      by_cases h3 : k < min (i + j) xs.length - i
      · rw [if_pos h3]
      · rw [if_neg h3, List.getElem?_eq_none (by omega)]
    · rw [if_neg h2, if_neg (by omega)]
  · rw [Nat.min_eq_right (by omega)]
    rw [List.getElem?_eq_none (by omega), List.getElem?_eq_none (by omega)]
    simp
theorem size_chunks {n z : Nat} (hs : 1 ≤ z) : Builtin.Range.rangeSize 0 ((n * z : Nat) : Int) (z : Nat) = n := by
  unfold Builtin.Range.rangeSize
  rw [if_pos (by omega)]
  cases n with
  | zero => simp
  | succ m =>
    have e0 : (((m + 1) * z : Nat) : Int) = (z : Int) * m + z := by
      rw [Nat.add_mul, Nat.one_mul, Int.natCast_add, Int.natCast_mul, Int.mul_comm]
    have hm : (0 : Int) ≤ (z : Int) * m := Int.mul_nonneg (by omega) (by omega)
    rw [if_pos (by omega)]
    have e : (((m + 1) * z : Nat) : Int) - 0 - 1 = ((z : Int) - 1) + (z : Int) * m := by omega
    rw [e, Int.add_mul_ediv_left _ _ (by omega), Int.ediv_eq_zero_of_lt (by omega) (by omega)]
    omega
theorem rgc_chunks {n z : Nat} (hs : 1 ≤ z) (hs8 : z ≤ 1000) (hn : n * z ≤ 100000) : RgC 0 ((n * z : Nat) : Int) (z : Nat) n := by
  refine ⟨by omega, by omega, ?_, size_chunks hs⟩
  have hnn : n ≤ 100000 := Nat.le_trans (Nat.le_mul_of_pos_right n hs) hn
  unfold Builtin.Range.small
  rw [size_chunks hs]
  generalize n * z = N at *
  have hz : ((z : Nat) : Int) > 0 := by omega
  simp only [Builtin.Range.rangeFitsLong, Bool.and_eq_true, Bool.or_eq_true, decide_eq_true_eq, beq_iff_eq, hz, if_true]
  first | omega | (split <;> omega)
theorem scSeated : FnScope ["_law_guests", "_law_size", "_law_some", "_law_k"] ["_law_guests", "_law_size"] (defScope lSeated) := ⟨rfl, rfl, rfl, by decide +kernel, rfl, by decide +kernel, by decide +kernel⟩
def spSeated (K : PySem.W.Frag) : Sp := fun vs H Q _ => ∃ (b : Addr) (l : List Int) (s n : Nat), vs = [.ref b, .int (s : Nat)] ∧ SqL K H b (l.map V.int) ∧ 1 ≤ s ∧ s ≤ 1000 ∧ l.length = n * s ∧ n * s ≤ 100000 ∧
  ∀ x H', Same H H' → RndV H' x (seatedM l s n) → Q x H'
theorem ok_seated {f : Addr} {fd : FuncData} (F : Fun K "_law_seated" "_law_seated" lSeated f fd) (B : Blt mg) : FnOk P w K mg base CX0 1 f fd ["_law_guests", "_law_size"] (spSeated K) := by
  refine F.ok scSeated (fun vs H Q E h => ?_) (fun cdv A outer s H vs Q E hr h => ?_)
  · obtain ⟨b, l, s, n, rfl, _⟩ := h
    rfl
  · obtain ⟨b, l, z, n, rfl, hS, hz1, hz2, hl, hn, q⟩ := h
    have hll : l.length ≤ 100000 := by omega
    have big : (100000 : Nat) < sizeLine := by decide
    refine ⟨_, pss_cons (ps_setLcN (i := 2) (own := [("_law_k", 3)]) (wi := iRng3 (tCons (tC (.int 0)) (tCons (tCB (fun xs H Q => ∃ p ys, xs = [.ref p] ∧ (SqL K H p ys ∨ SqT K H p ys) ∧ Q (.int ys.length) H) (tCons (tVar 0) tNil)) (tCons (tVar 1) tNil))))
        (t := tCl (gName 3) tYes [3] (bLast (tCB (fun xs H Q => ∃ p ys, xs = [.ref p] ∧ ((SqL K H p ys ∧ ∀ l, H l = none → Q (.ref l) (upd H l (.tup ys))) ∨ (SqT K H p ys ∧ Q (.ref p) H))) (tCons (tCB (rSortD K (fun i : Int => PyData.int i)) (tCons (tSl (rSlL K) (tVar 0) (tPart (tVar 3)) (tPart (tOp (rI0 fun i j => .int (i + j)) (tVar 3) (tVar 1)))) tNil)) tNil))))
        (by rfl) scSeated.nd rfl rfl (sw_true rfl rfl rfl (by decide +kernel)) (pi_range3 (by rfl) B.range (pa_cons pe_int (pa_cons (pe_callB call_len_seq (by rfl) B.len PySem.boot_len (pa_cons (pv 0) pa_nil)) (pa_cons (pv 1) pa_nil))))
        (blkOk_by (N := ["_law_guests", "_law_size", "_law_some", "_law_k"]) (sc := defScope lSeated) (by decide +kernel))
        (fun _ _ _ _ _ => pcl_last rfl rfl rfl rfl (pg_name (i := 3) (x := "_law_k") scSeated.nd rfl (.inl rfl) (.inr rfl)) pts_nil (pe_callTy call_tuple_of (by rfl) B.tuple (by decide +kernel) (pa_cons (pe_callB (cr_sortD (fun i : Int => PyData.int i) hr.units) (by rfl) B.sorted (by decide +kernel)
          (pa_cons (pe_slice sl_list (pv 0) (po_some (pv 3)) (po_some (pe_op op_add (pv 3) (pv 1)))) pa_nil)) pa_nil))))
      (pss_one (ps_ret (pe_callTy call_tuple_of (by rfl) B.tuple (by decide +kernel) (pa_cons (pe_callB (cr_sortD dT hr.units) (by rfl) B.sorted (by decide +kernel) (pa_cons (pv 2) pa_nil)) pa_nil)))), ?_⟩
    refine ⟨.ref b, rfl, b, _, rfl, .inl hS, .int (z : Nat), rfl, 0, _, _, n, rfl, ?_, fun D nD => ?_⟩
    · rw [List.length_map, hl]
      exact rgc_chunks hz1 hz2 hn
    have s0 : Same H (upd H D (.lst [])) := same_new nD
    show tCl (gName 3) tYes [3] _ _ D [some (.ref b), some (.int ((z : Nat) : Int)), none, none] _ _
    refine cl_it walk_rangeC (fun i H2 => Same H H2 ∧ ∃ acc, H2 D = some (.lst acc) ∧ Paired (TabV H2) acc ((List.range i).map fun i => sortI ((l.drop (i * z)).take z))) ⟨s0, [], upd_same, .nil⟩ (fun _ _ _ _ => trivial) (fun i x H2 H3 hi hI y => ?_) (fun H2 hI => ?_)
    · obtain ⟨rfl, rfl⟩ := y
      obtain ⟨sm, acc, hD, hp⟩ := hI
      refine ⟨wipe_put (by decide), yesT ?_⟩
      show bLast _ D [some (.ref b), some (.int ((z : Nat) : Int)), none, some (.int (0 + (i : Nat) * ((z : Nat) : Int)))] _ _
      refine ⟨.ref b, rfl, .int (0 + (i : Nat) * ((z : Nat) : Int)), rfl, _, rfl, .int (0 + (i : Nat) * ((z : Nat) : Int)), rfl, .int ((z : Nat) : Int), rfl, _, _, rfl, rfl, _, rfl, b, _, rfl, sm.seq hS, fun c nc => ?_⟩
      have e1 : (0 : Int) + (i : Nat) * ((z : Nat) : Int) = ((i * z : Nat) : Int) := by
        rw [Int.natCast_mul]
        omega
      have e2 : (0 : Int) + (i : Nat) * ((z : Nat) : Int) + ((z : Nat) : Int) = ((i * z + z : Nat) : Int) := by
        rw [Int.natCast_add, Int.natCast_mul]
        omega
      have ec : cutV (l.map V.int) (some (0 + (i : Nat) * ((z : Nat) : Int))) (some (0 + (i : Nat) * ((z : Nat) : Int) + ((z : Nat) : Int))) = ((l.drop (i * z)).take z).map V.int := by
        rw [e2, e1, cutMid, List.map_take, List.map_drop]
      rw [ec]
      have s1 : Same H3 (upd H3 c (.lst (((l.drop (i * z)).take z).map V.int))) := same_new nc
      dsimp only [tNil]
      refine sort_ints (.inl (SqL.of upd_same)) fun p np => ?_
      have s2 := s1.trans (same_new (o := .lst ((sortI ((l.drop (i * z)).take z)).map V.int)) np)
      refine ⟨p, _, rfl, .inl ⟨SqL.of upd_same, fun t nt => ?_⟩⟩
      have s3 := s2.trans (same_new (o := .tup ((sortI ((l.drop (i * z)).take z)).map V.int)) nt)
      have hD3 := s3 _ _ hD
      refine ⟨acc, hD3, ?_, same_put (sm.trans s3) nD, acc ++ [.ref t], upd_same, ?_⟩
      · have := paired_len hp
        simp only [List.length_map, List.length_range] at this
        have : i ≤ n * z := Nat.le_trans (Nat.le_of_lt hi) (Nat.le_mul_of_pos_right n hz1)
        omega
      · have keepT : ∀ {v : V} {u : Tbl}, TabV _ v u → TabV (upd _ D (.lst (acc ++ [.ref t]))) v u := fun {v u} h => by
          obtain ⟨a, rfl, ha⟩ := h
          exact ⟨a, rfl, by rw [upd_ne (ne_of ha hD3 (by intro e; cases e))]; exact ha⟩
        rw [List.range_succ, List.map_append]
        exact paired_snoc (paired_mono (fun v u h => keepT (h.mono (same_toT s3))) hp) (keepT ⟨t, rfl, upd_same⟩)
    · obtain ⟨sm, acc, hD, hp⟩ := hI
      refine ⟨.ref D, rfl, ?_⟩
      dsimp only [tNil]
      refine sort_tabs (.inl (SqL.of hD)) hp (fun t ht => ?_) fun ys p np hys => ?_
      · obtain ⟨i, hi, rfl⟩ := List.mem_map.mp ht
        have hi := List.mem_range.mp hi
        intro e
        have e2 : (sortI ((l.drop (i * z)).take z)).length = 0 := by rw [e]; rfl
        rw [(sortI_perm _).length_eq, List.length_take, List.length_drop, hl] at e2
        have h3 : (i + 1) * z ≤ n * z := Nat.mul_le_mul_right z hi
        rw [Nat.add_mul, Nat.one_mul] at h3
        omega
      · have s1 : Same H2 (upd H2 p (.lst ys)) := same_new np
        refine ⟨p, _, rfl, .inl ⟨SqL.of upd_same, fun t nt => ?_⟩⟩
        have s2 := s1.trans (same_new (o := .tup ys) nt)
        exact q _ _ (sm.trans s2) ⟨t, ys, rfl, upd_same, paired_mono (fun _ _ h => h.mono (same_toT s2)) hys⟩
end Nf

set_option Elab.async false
set_option linter.all false
set_option maxRecDepth 100000
set_option maxHeartbeats 4000000
namespace Nf
open PySem PySem.Spec PyProof.Rows L2
variable {P : Program} {w : World} {K : PySem.W.Frag} {mg : Str → Option Value} {base : Heap}
/-! ### the law's pairs, known, new -/
theorem scLPairs : FnScope ["_law_tables", "_law_found", "_law_table", "_law_k", "_law_other"] ["_law_tables"] (defScope lPairs) := ⟨rfl, rfl, rfl, by decide +kernel, rfl, by decide +kernel, by decide +kernel⟩
def spLPairs : Sp := fun vs H Q _ => ∃ (x : V) (r : Rnd), vs = [x] ∧ RndV H x r ∧ (pairsR r).length ≤ 100000 ∧ (∀ t ∈ r, t.length ≤ 100000) ∧
  ∀ H' q ys, Same H H' → H q = none → H' q = some (.lst ys) → Paired (PairV H') ys (pairsR r) → Q (.ref q) H'
theorem ok_lpairs {f : Addr} {fd : FuncData} (F : Fun K "_law_pairs" "_law_pairs" lPairs f fd) (B : Blt mg) : FnOk P w K mg base CX0 1 f fd ["_law_tables"] spLPairs := by
  refine F.ok scLPairs (fun vs H Q E h => ?_) (fun cdv A outer s H vs Q E hr h => ?_)
  · obtain ⟨x, r, rfl, _⟩ := h
    rfl
  · obtain ⟨x, r, rfl, ⟨p, xs, rfl, hp, hxs⟩, hlen, htl, q⟩ := h
    refine ⟨_, pss_cons (ps_set (i := 1) scLPairs.nd rfl (.inl rfl) (pe_lst pa_nil))
      (pss_cons (ps_for PassesOwn.never rfl (pi_tup (pv 0)) (pg_name (i := 2) scLPairs.nd rfl (.inl rfl))
        (pss_one (ps_for PassesOwn.never rfl (pi_range1 (by rfl) B.range (pa_cons (pe_callB call_len_seq (by rfl) B.len PySem.boot_len (pa_cons (pv 2) pa_nil)) pa_nil)) (pg_name (i := 3) scLPairs.nd rfl (.inl rfl))
          (pss_one (ps_for PassesOwn.never rfl (pi_tup (pe_slice sl_tupA (pv 2) (po_some (pe_op op_add (pv 3) pe_int)) po_none)) (pg_name (i := 4) scLPairs.nd rfl (.inl rfl))
            (pss_one (ps_expr (pe_bm PySem.F.plainAttrs_list PySem.F.slot_list_append PySem.F.type_list_append mt_append (pv 1) (pa_cons (pe_tup (pa_cons (pe_ix ix_tup (pv 2) (pv 3) (fun _ _ => rfl)) (pa_cons (pv 4) pa_nil))) pa_nil)))))))))
      (pss_one (ps_ret (pv 1)))), ?_⟩
    have hxl := paired_len hxs
    have hpl : (pairsR r).length < sizeLine := Nat.lt_of_le_of_lt hlen (by decide)
    refine ⟨Nat.zero_le _, fun D nD => ?_⟩
    have s0 : Same H (upd H D (.lst [])) := same_new nD
    refine ⟨.ref p, rfl, p, rfl, ⟨_, SqT.of (s0 _ _ hp)⟩, ?_⟩
    refine for_it (walk_tup (xs := xs)) (fun i σ H2 => ∃ (y2 y3 y4 : Option V), σ = [some (.ref p), some (.ref D), y2, y3, y4] ∧ PrI H D r H2 (pairsR (r.drop i))) ⟨none, none, none, rfl, s0, [], [], upd_same, .nil, by simp⟩ (fun i σ H2 _ h => ?_) (fun i x σ H2 H3 hi hI y => ?_) (fun σ H2 hI => ?_)
    · obtain ⟨_, _, _, _, h⟩ := h
      exact SqT.of (h.1 _ _ hp)
    · obtain ⟨y2, y3, y4, rfl, hI⟩ := hI
      obtain ⟨rfl, hx⟩ := y
      obtain ⟨t, ht, a, rfl, ha⟩ := paired_getL hxs hx
      have haT : ∀ {H' : Hp}, Same H H' → SqT K H' a (t.map V.int) := fun sm => SqT.of (sm _ _ ha)
      have ht5 := htl t (List.mem_of_getElem? ht)
      refine ⟨.ref a, rfl, a, _, rfl, .inr (haT hI.1), _, rfl, by omega, by rw [List.length_map]; omega, ?_⟩
      refine for_it walk_range (fun j σ H2 => ∃ (y3 y4 : Option V), σ = [some (.ref p), some (.ref D), some (.ref a), y3, y4] ∧ PrI H D r H2 (pairsT (t.drop j) ++ pairsR (r.drop (i + 1)))) ⟨y3, y4, rfl, hI.rem (by rw [List.drop_zero]; exact pairsR_drop ht)⟩ (fun _ _ _ _ _ => trivial) (fun j x σ H2 H3 hj hJ y => ?_) (fun σ H2 hJ => ?_)
      · obtain ⟨y3, y4, rfl, hJ⟩ := hJ
        obtain ⟨rfl, rfl⟩ := y
        have hjt : j < t.length := by
          rw [List.length_map] at hj
          omega
        have hn : t[j]? = some t[j] := List.getElem?_eq_getElem hjt
        generalize t[j] = n at hn
        have ej : (0 : Int) + (j : Nat) = ((j : Nat) : Int) := by omega
        have e1 : (0 : Int) + (j : Nat) + 1 = ((j + 1 : Nat) : Int) := by omega
        refine ⟨.ref a, rfl, .int (0 + (j : Nat)), rfl, _, _, rfl, rfl, _, rfl, a, _, rfl, haT hJ.1, fun hw => ?_, fun hw c nc => ?_⟩
        · have hz := hw.1
          rw [e1, HT.sIx_nat] at hz
          rw [List.length_map] at hz
          omega
        rw [e1, cutFrom, ← List.map_drop]
        have hJ2 := hJ.keep (same_new (o := .tup ((t.drop (j + 1)).map V.int)) nc)
        refine ⟨c, rfl, ⟨_, SqT.of upd_same⟩, ?_⟩
        refine for_it (walk_tup (xs := (t.drop (j + 1)).map V.int)) (fun m σ H2 => ∃ y4 : Option V, σ = [some (.ref p), some (.ref D), some (.ref a), some (.int (0 + (j : Nat))), y4] ∧ PrI H D r H2 (((t.drop (j + 1)).drop m).map (fun b => (n, b)) ++ (pairsT (t.drop (j + 1)) ++ pairsR (r.drop (i + 1)))) ∧ H2 c = some (.tup ((t.drop (j + 1)).map V.int)))
          ⟨y4, rfl, hJ2.rem (by rw [List.drop_zero, pairsT_drop hn, List.append_assoc]), upd_same⟩ (fun m σ H2 _ h => ?_) (fun m x σ H2 H3 hm hM y => ?_) (fun σ H2 hM => ?_)
        · obtain ⟨_, _, _, h⟩ := h
          exact SqT.of h
        · obtain ⟨y4, rfl, ⟨sm, acc, ps, hD, hps, e⟩, hc⟩ := hM
          obtain ⟨rfl, hx⟩ := y
          obtain ⟨b, hb, rfl⟩ := getElem?_int hx
          refine ⟨.ref D, rfl, .inl ⟨rfl, _, SqL.of hD⟩, .ref a, rfl, .int (0 + (j : Nat)), rfl, a, _, _, .int n, rfl, rfl, haT sm, ?_, .int b, rfl, two_le, fun T2 nT2 => ?_⟩
          · rw [ej]
            exact atI_nat (int_getElem? hn)
          have nDT : D ≠ T2 := ne_of_none hD nT2
          rw [dropCons hb, List.map_cons, List.cons_append] at e
          have s3 : Same H3 (upd H3 T2 (.tup [.int n, .int b])) := same_new nT2
          refine ⟨D, acc, _, rfl, rfl, (upd_ne nDT).trans hD, ?_, ⟨_, rfl, ⟨same_put (sm.trans s3) nD, acc ++ [.ref T2], ps ++ [(n, b)], upd_same, ?_, ?_⟩, ?_⟩⟩
          · have hl : ps.length ≤ (pairsR r).length := by
              rw [← e, List.length_append]
              omega
            have := paired_len hps
            omega
          · have keepT : ∀ {z : V} {pr : Int × Int}, PairV (upd H3 T2 (.tup [.int n, .int b])) z pr → PairV (upd (upd H3 T2 (.tup [.int n, .int b])) D (.lst (acc ++ [.ref T2]))) z pr := fun {z pr} h => by
              obtain ⟨u, rfl, hu⟩ := h
              refine ⟨u, rfl, ?_⟩
              rw [upd_ne (ne_of hu ((upd_ne nDT).trans hD) (by intro z; cases z))]
              exact hu
            exact paired_snoc (paired_mono (fun z pr h => keepT (h.mono (same_toT s3))) hps) (keepT ⟨T2, rfl, upd_same⟩)
          · rw [List.append_assoc]
            exact e
          · have ncD : c ≠ D := ne_of hc hD (by intro z; cases z)
            rw [upd_ne ncD]
            exact s3 _ _ hc
        · obtain ⟨y4, rfl, hM, _⟩ := hM
          exact ⟨_, _, rfl, hM.rem (by rw [List.length_map, List.drop_of_length_le (Nat.le_refl _)]; rfl)⟩
      · obtain ⟨y3, y4, rfl, hJ⟩ := hJ
        refine ⟨_, _, _, rfl, hJ.rem ?_⟩
        rw [List.length_map, show (((t.length : Nat) : Int)).toNat = t.length by omega, List.drop_of_length_le (Nat.le_refl _)]
        rfl
    · obtain ⟨y2, y3, y4, rfl, sm, acc, ps, hD, hps, e⟩ := hI
      rw [hxl, List.drop_of_length_le (Nat.le_refl _)] at e
      have e2 : ps = pairsR r := by simpa [pairsR] using e
      subst e2
      exact ⟨.ref D, rfl, q H2 D acc sm nD hD hps⟩
/-- the pairs that a dict knows -/
def key2 (p : Int × Int) : List Key := [Sum.inl p.1, Sum.inl p.2]
theorem key2_inj {p q : Int × Int} (h : key2 p = key2 q) : p = q := by
  obtain ⟨a, b⟩ := p
  obtain ⟨x, y⟩ := q
  obtain ⟨h1, h2⟩ := key2_ne.mp h
  exact Prod.ext h1 h2
theorem mem_key2 {ks : List (Int × Int)} {p : Int × Int} : key2 p ∈ ks.map key2 ↔ p ∈ ks := by
  constructor
  · intro h
    obtain ⟨q, hq, e⟩ := List.mem_map.mp h
    rw [← key2_inj e]
    exact hq
  · exact fun h => List.mem_map.mpr ⟨p, h, rfl⟩
theorem anyKey {κ : Type} [DecidableEq κ] (kvs : List (κ × V)) (k : κ) : ((kvs.any fun kv => decide (kv.1 = k)) = true) ↔ k ∈ kvs.map (·.1) := by
  simp only [List.any_eq_true, decide_eq_true_eq, List.mem_map]
theorem keysPut_old {κ : Type} [DecidableEq κ] {kvs : List (κ × V)} {k : κ} (v : V) (h : k ∈ kvs.map (·.1)) : (putK kvs k v).map (·.1) = kvs.map (·.1) := by
  unfold putK
  rw [if_pos ((anyKey kvs k).mpr h), List.map_map]
  refine List.map_congr_left fun kv _ => ?_
  show (if kv.1 = k then (kv.1, v) else kv).1 = kv.1
  split <;> rfl
theorem keysPut_new {κ : Type} [DecidableEq κ] {kvs : List (κ × V)} {k : κ} (v : V) (h : k ∉ kvs.map (·.1)) : (putK kvs k v).map (·.1) = kvs.map (·.1) ++ [k] := by
  unfold putK
  rw [if_neg (fun z => h ((anyKey kvs k).mp z))]
  simp
def KnS (H : Hp) (d : Addr) (ps : List (Int × Int)) (N : Nat) : Prop := ∃ kvs : List (List Key × V), H d = some (.dT kvs) ∧ kvs.length ≤ N ∧ (∀ a b : Int, (valV kvs [Sum.inl a, Sum.inl b]).isSome = true ↔ (a, b) ∈ ps) ∧ ∃ ks : List (Int × Int), kvs.map (·.1) = ks.map key2 ∧ ks.Nodup
/-- its keys: each pair once -/
theorem KnS.keys {H : Hp} {d : Addr} {ps : List (Int × Int)} {N : Nat} (h : KnS H d ps N) : ∃ (kvs : List (List Key × V)) (ks : List (Int × Int)), H d = some (.dT kvs) ∧ kvs.length ≤ N ∧ kvs.map (·.1) = ks.map key2 ∧ ks.Nodup ∧ ∀ p, p ∈ ks ↔ p ∈ ps := by
  obtain ⟨kvs, e, hl, hv, ks, hk, hn⟩ := h
  refine ⟨kvs, ks, e, hl, hk, hn, fun ⟨a, b⟩ => ?_⟩
  rw [← hv a b, ← valV_any, anyKey, hk]
  exact mem_key2.symm
theorem knS_same {H H' : Hp} {d : Addr} {ps : List (Int × Int)} {N : Nat} (h : KnS H d ps N) (s : Same H H') : KnS H' d ps N := by
  obtain ⟨kvs, e, q⟩ := h
  exact ⟨kvs, s _ _ e, q⟩
theorem knS_put {H : Hp} {d T : Addr} {N : Nat} {x y : Int} {ps : List (Int × Int)} {v : V} (h : KnS H d ps N) (hT : H T = some (.tup [.int x, .int y])) (hN : N < sizeLine) :
    ∃ kvs', DPut H d (.ref T) v (upd H d (.dT kvs')) ∧ KnS (upd H d (.dT kvs')) d (ps ++ [(x, y)]) (N + 1) := by
  obtain ⟨kvs, e, hl, hv, ks, hk, hn⟩ := h
  refine ⟨putK kvs [Sum.inl x, Sum.inl y] v, DPut.t (k := [Sum.inl x, Sum.inl y]) e hT (by omega), _, upd_same, ?_, fun a b => ?_, ?_⟩
  · have := length_putK kvs [Sum.inl x, Sum.inl y] v
    omega
  · rw [valV_put]
    by_cases h : a = x ∧ b = y
    · obtain ⟨rfl, rfl⟩ := h
      rw [if_pos rfl]
      simp
    · rw [if_neg (fun z => h (key2_ne.mp z)), hv]
      simp only [List.mem_append, List.mem_singleton, Prod.mk.injEq]
      exact ⟨fun z => .inl z, fun z => z.elim id fun z => absurd z h⟩
  · by_cases m : (x, y) ∈ ks
    · exact ⟨ks, by rw [keysPut_old v (by rw [hk]; exact mem_key2.mpr m), hk], hn⟩
    · refine ⟨ks ++ [(x, y)], by rw [keysPut_new v (by rw [hk]; exact fun z => m (mem_key2 (p := (x, y)) |>.mp z)), hk, List.map_append]; rfl, ?_⟩
      refine List.nodup_append.mpr ⟨hn, by simp, fun a ha b hb => ?_⟩
      rw [List.mem_singleton.mp hb]
      rintro rfl
      exact m ha
theorem scLKnown : FnScope ["_law_plan_here", "_law_found", "_law_tables", "_law_pair"] ["_law_plan_here"] (defScope lKnown) := ⟨rfl, rfl, rfl, by decide +kernel, rfl, by decide +kernel, by decide +kernel⟩
def spLKnown (K : PySem.W.Frag) : Sp := fun vs H Q _ => ∃ (l : Addr) (rs : List Rnd), vs = [.ref l] ∧ PlanV K H l rs ∧ rs.length ≤ 1000 ∧ (∀ r ∈ rs, (pairsR r).length ≤ 4096 ∧ ∀ t ∈ r, t.length ≤ 100000) ∧
  ∀ H' d, Same H H' → H d = none → KnS H' d (rs.flatMap pairsR) 5000000 → Q (.ref d) H'
theorem ok_lknown {f fP : Addr} {fd fdP : FuncData} (F : Fun K "_law_known" "_law_known" lKnown f fd) (B : Blt mg) (FP : Fun K "_law_pairs" "_law_pairs" lPairs fP fdP) (bP : Binds K fdP ["_law_tables"] []) (gP : mg "_law_pairs" = some (.ref fP)) : FnOk P w K mg base CX0 2 f fd ["_law_plan_here"] (spLKnown K) := by
  have GP : FnOk P w K mg base CX0 1 fP fdP ["_law_tables"] spLPairs := ok_lpairs FP B
  refine F.ok scLKnown (fun vs H Q E h => ?_) (fun cdv A outer s H vs Q E hr h => ?_)
  · obtain ⟨l, rs, rfl, _⟩ := h
    rfl
  · obtain ⟨l, rs, rfl, ⟨xs, hl, hxs⟩, hn, hS, q⟩ := h
    have hu := hu_of hr
    refine ⟨_, pss_cons (ps_set (i := 1) scLKnown.nd rfl (.inl rfl) pe_dnewT)
      (pss_cons (ps_for PassesOwn.never rfl (pi_list (pv 0)) (pg_name (i := 2) scLKnown.nd rfl (.inl rfl))
        (pss_one (ps_for PassesOwn.never rfl (pi_list (pe_call GP hr (by rfl) gP FP.kp bP .nil pass0 (pa_cons (pv 2) pa_nil))) (pg_name (i := 3) scLKnown.nd rfl (.inl rfl))
          (pss_one (ps_dput hu (pv 1) (pv 3) pe_bl rfl)))))
      (pss_one (ps_ret (pv 1)))), ?_⟩
    have hxl := paired_len hxs
    have big : (5000000 : Nat) < sizeLine := by decide
    intro d nd
    have s0 : Same H (upd H d (.dT [])) := same_new nd
    refine ⟨.ref l, rfl, l, rfl, ⟨_, s0.seq hl⟩, ?_⟩
    refine for_it (walk_list (xs := xs)) (fun i σ H2 => ∃ (y2 y3 : Option V), σ = [some (.ref l), some (.ref d), y2, y3] ∧ Same H H2 ∧ KnS H2 d ((rs.take i).flatMap pairsR) (i * 4096)) ⟨none, none, rfl, s0, [], upd_same, Nat.le_refl _, fun a b => by simp [valV], [], rfl, .nil⟩ (fun i σ H2 _ h => ?_) (fun i x σ H2 H3 hi hI y => ?_) (fun σ H2 hI => ?_)
    · obtain ⟨_, _, _, sm, _⟩ := h
      exact sm.seq hl
    · obtain ⟨y2, y3, rfl, sm, hK⟩ := hI
      obtain ⟨rfl, hx⟩ := y
      obtain ⟨r, hr0, hrx⟩ := paired_getL hxs hx
      obtain ⟨hp1, hp2⟩ := hS r (List.mem_of_getElem? hr0)
      refine ⟨x, rfl, x, r, rfl, hrx.mono (same_toT sm), by omega, hp2, fun H4 u ys s4 nu hu4 hys => ?_⟩
      refine ⟨u, rfl, ⟨_, SqL.of hu4⟩, ?_⟩
      have hyl := paired_len hys
      refine for_it (walk_list (xs := ys)) (fun m σ H5 => ∃ y3 : Option V, σ = [some (.ref l), some (.ref d), some x, y3] ∧ Same H H5 ∧ H5 u = some (.lst ys) ∧ Paired (PairV H5) ys (pairsR r) ∧ KnS H5 d ((rs.take i).flatMap pairsR ++ (pairsR r).take m) (i * 4096 + m))
        ⟨y3, rfl, sm.trans s4, hu4, hys, by rw [List.take_zero, List.append_nil]; exact knS_same hK s4⟩ (fun m σ H5 _ h => ?_) (fun m z σ H5 H6 hm hM y => ?_) (fun σ H5 hM => ?_)
      · obtain ⟨_, _, _, h, _⟩ := h
        exact SqL.of h
      · obtain ⟨y3, rfl, s5, hu5, hy5, hK5⟩ := hM
        obtain ⟨rfl, hz⟩ := y
        obtain ⟨⟨a, b⟩, hab, T, rfl, hT⟩ := paired_getL hy5 hz
        obtain ⟨kvs', hput, hK6⟩ := knS_put (v := .bl true) hK5 hT (by omega)
        obtain ⟨kv0, hd0, _⟩ := id hK5
        have nud : u ≠ d := ne_of hu5 hd0 (by intro e; cases e)
        refine ⟨.ref d, rfl, .ref T, rfl, d, _, rfl, hput, _, rfl, same_put s5 nd, by rw [upd_ne nud]; exact hu5, paired_mono (fun v pr h => ?_) hy5, ?_⟩
        · obtain ⟨w1, rfl, hw⟩ := h
          exact ⟨w1, rfl, by rw [upd_ne (ne_of hw hd0 (by intro e; cases e))]; exact hw⟩
        · rw [takeSucc hab, ← List.append_assoc]
          exact hK6
      · obtain ⟨y3, rfl, s5, hu5, hy5, hK5⟩ := hM
        rw [hyl, List.take_of_length_le (Nat.le_refl _)] at hK5
        refine ⟨_, _, rfl, s5, ?_⟩
        rw [takeSucc hr0, List.flatMap_append]
        obtain ⟨kvs, e, h1, h2⟩ := hK5
        exact ⟨kvs, e, by omega, by simpa using h2.1, h2.2⟩
    · obtain ⟨y2, y3, rfl, sm, hK⟩ := hI
      rw [hxl, List.take_of_length_le (Nat.le_refl _)] at hK
      obtain ⟨kvs, e, h1, h2⟩ := hK
      exact ⟨.ref d, rfl, q H2 d sm nd ⟨kvs, e, by omega, h2⟩⟩
theorem scLNew : FnScope ["_law_tables", "_law_plan_here", "_law_known_here", "_law_pair"] ["_law_tables", "_law_plan_here"] (defScope lNew) := ⟨rfl, rfl, rfl, by decide +kernel, rfl, by decide +kernel, by decide +kernel⟩
def spLNew (K : PySem.W.Frag) : Sp := fun vs H Q _ => ∃ (x : V) (l : Addr) (r : Rnd) (rs : List Rnd), vs = [x, .ref l] ∧ RndV H x r ∧ (pairsR r).length ≤ 100000 ∧ (∀ t ∈ r, t.length ≤ 100000) ∧ PlanV K H l rs ∧ rs.length ≤ 1000 ∧ (∀ r ∈ rs, (pairsR r).length ≤ 4096 ∧ ∀ t ∈ r, t.length ≤ 100000) ∧
  ∀ b H', Same H H' → (b = true ↔ ∀ p ∈ pairsR r, p ∉ rs.flatMap pairsR) → Q (.bl b) H'
def dP (p : Int × Int) : PyData := .tuple [.int p.1, .int p.2]
theorem shPairs (ps : List (Int × Int)) : SeqAt.shaped (.list (ps.map dP)) = true := by
  have l : ∀ ps : List (Int × Int), PyData.canLayAll0 (ps.map dP) = true := fun ps => by
    induction ps with
    | nil => rfl
    | cons x ps ih => simp [PyData.canLayAll0, PyData.canLay0, dP, ih]
  have h : ∀ ps : List (Int × Int), PyData.depthAll (ps.map dP) ≤ 1 := fun ps => by
    induction ps with
    | nil => simp [PyData.depthAll]
    | cons x ps ih =>
      have e : (dP x).depth ≤ 1 := by simp [dP, PyData.depth, PyData.depthAll]
      simp only [List.map_cons, PyData.depthAll]
      omega
  have h := h ps
  unfold SeqAt.shaped
  rw [Bool.and_eq_true]
  refine ⟨by simp [PyData.canLay0, l], decide_eq_true ?_⟩
  simp only [PyData.depth]
  omega
theorem eqv_nilP (ps : List (Int × Int)) : PyData.eqv (.list (ps.map dP)) (.list []) = ps.isEmpty := by
  cases ps <;> simp [PyData.eqv, PyData.eqvAll]
theorem ok_lnew {f fP fK : Addr} {fd fdP fdK : FuncData} (F : Fun K "_law_new" "_law_new" lNew f fd) (B : Blt mg) (FP : Fun K "_law_pairs" "_law_pairs" lPairs fP fdP) (bP : Binds K fdP ["_law_tables"] []) (gP : mg "_law_pairs" = some (.ref fP))
    (FK : Fun K "_law_known" "_law_known" lKnown fK fdK) (bK : Binds K fdK ["_law_plan_here"] []) (gK : mg "_law_known" = some (.ref fK)) : FnOk P w K mg base CX0 3 f fd ["_law_tables", "_law_plan_here"] (spLNew K) := by
  have GP : FnOk P w K mg base CX0 1 fP fdP ["_law_tables"] spLPairs := ok_lpairs FP B
  have GK : FnOk P w K mg base CX0 2 fK fdK ["_law_plan_here"] (spLKnown K) := ok_lknown FK B FP bP gP
  refine F.ok scLNew (fun vs H Q E h => ?_) (fun cdv A outer s H vs Q E hr h => ?_)
  · obtain ⟨x, l, r, rs, rfl, _⟩ := h
    rfl
  · obtain ⟨x, l, r, rs, rfl, hx, hpl, htl, hPl, hn, hS, q⟩ := h
    have hr1 : Room 1 _ := hr.mono (by decide)
    have hu := hu_of hr
    refine ⟨_, pss_cons (ps_set (i := 2) scLNew.nd rfl (.inr rfl) (pe_call GK hr (by rfl) gK FK.kp bK .nil pass0 (pa_cons (pv 1) pa_nil)))
      (pss_one (ps_ret (pe_cmpR (op_eqD hr.units) (pe_lc (own := [("_law_pair", 3)]) (g := gName 3) (tt := tB (tDIn (tVar 3) (tVar 2))) (te := tVar 3) (by rfl) scLNew.nd (pi_list (pe_call GP hr1 (by rfl) gP FP.kp bP .nil pass0 (pa_cons (pv 0) pa_nil)))
        (blkOk_by (N := ["_law_tables", "_law_plan_here", "_law_known_here", "_law_pair"]) (sc := defScope lNew) (by decide +kernel)) (fun _ _ _ _ _ => pg_name (i := 3) (x := "_law_pair") scLNew.nd rfl (.inl rfl) (.inr rfl))
        (fun _ _ _ _ _ => pts_one (pt_cmp (pc_din hu (pv 3) (pv 2)))) (fun _ _ _ _ _ => pv 3)) (pe_lst pa_nil) (nomark _)))), ?_⟩
    refine ⟨.ref l, rfl, l, rs, rfl, hPl, hn, hS, fun H1 d s1 nd hK => ?_⟩
    refine ⟨x, rfl, x, r, rfl, hx.mono (same_toT s1), hpl, htl, fun H2 u ys s2 nu hu2 hys => ?_⟩
    have hK2 := knS_same hK s2
    refine ⟨u, rfl, ⟨_, SqL.of hu2⟩, fun D nD => ?_⟩
    have s3 : Same H2 (upd H2 D (.lst [])) := same_new nD
    have hpl' : (pairsR r).length < sizeLine := Nat.lt_of_le_of_lt hpl (by decide)
    have hyl := paired_len hys
    refine lc_it (walk_list (xs := ys)) (fun i H5 => Same H2 H5 ∧ ∃ acc ps, H5 D = some (.lst acc) ∧ Paired (PairV H5) acc ps ∧ ps.length ≤ i ∧ (ps = [] ↔ ∀ p ∈ (pairsR r).take i, p ∉ rs.flatMap pairsR)) ⟨s3, [], [], upd_same, .nil, Nat.le_refl _, by simp⟩ (fun i H5 _ p => SqL.of (p.1 _ _ hu2)) (fun i z H5 H6 hi hI y => ?_) (fun H5 hI => ?_)
    · obtain ⟨rfl, hz⟩ := y
      obtain ⟨sm, acc, ps, hD, hps, hle, he⟩ := hI
      obtain ⟨⟨a, b⟩, hab, T, rfl, hT⟩ := paired_getL hys hz
      have hT6 := sm _ _ hT
      obtain ⟨kvs, hd, hkl, hkv, _⟩ := knS_same hK2 sm
      refine ⟨wipe_put (by decide), ?_⟩
      refine ⟨.ref T, rfl, .ref d, rfl, d, _, rfl, DGet.t (k := [Sum.inl a, Sum.inl b]) hd hT6, _, rfl, ite2 (fun hc => ?_) (fun hc => ?_)⟩
      · refine ⟨.ref T, rfl, acc, hD, ?_, same_put sm nD, acc ++ [.ref T], ps ++ [(a, b)], upd_same, ?_, ?_, ?_⟩
        · have := paired_len hps
          omega
        · have keepT : ∀ {z : V} {pr : Int × Int}, PairV H6 z pr → PairV (upd H6 D (.lst (acc ++ [.ref T]))) z pr := fun {z pr} h => by
            obtain ⟨u, rfl, hu⟩ := h
            exact ⟨u, rfl, by rw [upd_ne (ne_of hu hD (by intro z; cases z))]; exact hu⟩
          exact paired_snoc (paired_mono (fun z pr h => keepT h) hps) (keepT ⟨T, rfl, hT6⟩)
        · simp only [List.length_append, List.length_singleton]
          omega
        · constructor
          · intro z
            simp at z
          · intro z
            exact absurd ((hkv a b).mp hc) (z (a, b) (by rw [takeSucc hab]; simp))
      · refine ⟨sm, acc, ps, hD, hps, by omega, ?_⟩
        rw [he, takeSucc hab]
        constructor
        · intro z p hp
          rcases List.mem_append.mp hp with hp | hp
          · exact z p hp
          · rw [List.mem_singleton.mp hp]
            exact fun m => hc ((hkv a b).mpr m)
        · exact fun z p hp => z p (List.mem_append_left _ hp)
    · obtain ⟨sm, acc, ps, hD, hps, hle, he⟩ := hI
      rw [hyl, List.take_of_length_le (Nat.le_refl _)] at he
      refine ⟨Nat.zero_le _, fun e ne => ?_⟩
      have s6 : Same H5 (upd H5 e (.lst [])) := same_new ne
      refine ⟨.list (ps.map dP), .list [], dp_lst (fun _ _ h => dp_pair h) (SqL.of (s6 _ _ hD)) (paired_mono (fun _ _ h => h.mono (same_toT s6)) hps), .lst (SqL.of upd_same) .nil, shPairs ps, shNil, ?_⟩
      rw [eqv_nilP]
      refine q _ _ (((s1.trans s2).trans sm).trans s6) ?_
      rw [← he]
      cases ps <;> simp
end Nf

set_option Elab.async false
set_option linter.all false
set_option maxRecDepth 100000
set_option maxHeartbeats 4000000
namespace Nf
open PySem PySem.Spec PyProof.Rows L2
variable {P : Program} {w : World} {K : PySem.W.Frag} {mg : Str → Option Value} {base : Heap}
/-! ### thin -/
theorem eqv_nilT (l : List Int) : PyData.eqv (.tuple (l.map .int)) (.tuple []) = l.isEmpty := by
  cases l <;> simp [PyData.eqv, PyData.eqvAll]
theorem shNilT : SeqAt.shaped (.tuple []) = true := by decide +kernel
theorem scThin : FnScope ["_law_row", "_law_tables", "_law_found", "_law_table", "_law_rest", "_law_guest"] ["_law_row", "_law_tables"] (defScope lThin) := ⟨rfl, rfl, rfl, by decide +kernel, rfl, by decide +kernel, by decide +kernel⟩
def spThin (K : PySem.W.Frag) : Sp := fun vs H Q _ => ∃ (r a : Addr) (ns : List Int) (x : V) (rd : Rnd), vs = [.ref r, x] ∧ RowAt K H r a ns ∧ RndV H x rd ∧ rd.length ≤ 100000 ∧ (∀ t ∈ rd, t.length ≤ 100000) ∧
  ∀ y H' f, RowAt K H' r a ns → Sx r H H' → RndV H' y (sortT f) → Thin rd f rd.length → Q y H'
theorem ok_thin {f fT : Addr} {fd fdT : FuncData} (F : Fun K "_law_thin" "_law_thin" lThin f fd) (B : Blt mg) (FT : Fun K "_law_taken" "_law_taken" lTaken fT fdT) (bT : Binds K fdT ["_law_row", "_law_many_here"] []) (gT : mg "_law_taken" = some (.ref fT)) : FnOk P w K mg base CX0 2 f fd ["_law_row", "_law_tables"] (spThin K) := by
  have GT : FnOk P w K mg base CX0 1 fT fdT ["_law_row", "_law_many_here"] (spTaken K) := ok_taken FT B
  refine F.ok scThin (fun vs H Q E h => ?_) (fun cdv A outer s H vs Q E hr h => ?_)
  · obtain ⟨r, a, ns, x, rd, rfl, _⟩ := h
    rfl
  · obtain ⟨r, a, ns, x, rd, rfl, hR, ⟨p, xs, rfl, hp, hxs⟩, hlen, htl, q⟩ := h
    refine ⟨_, pss_cons (ps_set (i := 2) scThin.nd rfl (.inl rfl) (pe_lst pa_nil))
      (pss_cons (ps_for PassesOwn.never rfl (pi_tup (pv 1)) (pg_name (i := 3) scThin.nd rfl (.inl rfl))
        (pss_cons (ps_set (i := 4) scThin.nd rfl (.inl rfl) (pe_callTy call_tuple_of (by rfl) B.tuple (by decide +kernel) (pa_cons
            (pe_lc (own := [("_law_guest", 5)]) (g := gName 5) (te := tVar 5) (by rfl) scThin.nd (pi_tup (pv 3)) (blkOk_by (N := ["_law_row", "_law_tables", "_law_found", "_law_table", "_law_rest", "_law_guest"]) (sc := defScope lThin) (by decide +kernel))
              (fun _ _ _ _ _ => pg_name (i := 5) (x := "_law_guest") scThin.nd rfl (.inl rfl) (.inr rfl)) (fun _ _ _ _ _ => pts_one (pt_cmpR op_gt (pe_call GT hr (by rfl) gT FT.kp bT .nil pass0 (pa_cons (pv 0) (pa_cons pe_int pa_nil))) pe_int (nomark _))) (fun _ _ _ _ _ => pv 5)) pa_nil)))
        (pss_one (ps_if (pt_cmpR (op_neD hr.units) (pv 4) (pe_tup pa_nil) (nomark _))
          (pss_one (ps_expr (pe_bm PySem.F.plainAttrs_list PySem.F.slot_list_append PySem.F.type_list_append mt_append (pv 2) (pa_cons (pv 4) pa_nil)))) pss_nil))))
      (pss_one (ps_ret (pe_callTy call_tuple_of (by rfl) B.tuple (by decide +kernel) (pa_cons (pe_callB (cr_sortD dT hr.units) (by rfl) B.sorted (by decide +kernel) (pa_cons (pv 2) pa_nil)) pa_nil))))), ?_⟩
    have hxl := paired_len hxs
    have big : (100000 : Nat) < sizeLine := by decide
    obtain ⟨xr0, hxr0⟩ := hR.lst
    refine ⟨Nat.zero_le _, fun d nd => ?_⟩
    have ndr : d ≠ r := fun e => by
      rw [e, hxr0] at nd
      cases nd
    have s0 : Same H (upd H d (.lst [])) := same_new nd
    refine ⟨.ref p, rfl, p, rfl, ⟨_, SqT.of (s0 _ _ hp)⟩, ?_⟩
    refine for_it (walk_tup (xs := xs)) (fun i σ H2 => ∃ (y3 y4 y5 : Option V), σ = [some (.ref r), some (.ref p), some (.ref d), y3, y4, y5] ∧ RowAt K H2 r a ns ∧ Sx r H H2 ∧ ∃ acc f, H2 d = some (.lst acc) ∧ Paired (TabV H2) acc f ∧ Thin rd f i)
      ⟨none, none, none, rfl, hR.keep s0, same_sx s0, [], [], upd_same, .nil, Thin.zero rd⟩ (fun i σ H2 _ h => ?_) (fun i x σ H2 H3 hi hI y => ?_) (fun σ H2 hI => ?_)
    · obtain ⟨_, _, _, _, _, sx, _⟩ := h
      exact SqT.of ((sx.toT hxr0) _ _ hp)
    · obtain ⟨y3, y4, y5, rfl, R2, sx, acc, ff, hd, hac, hth⟩ := hI
      obtain ⟨rfl, hx⟩ := y
      obtain ⟨t, ht, b, rfl, hb⟩ := paired_getL hxs hx
      have hb2 := (sx.toT hxr0) _ _ hb
      have htl2 := htl t (List.mem_of_getElem? ht)
      obtain ⟨xr3, hxr3⟩ := R2.lst
      refine ⟨.ref b, rfl, b, rfl, ⟨_, SqT.of hb2⟩, fun D nD => ?_⟩
      have nDr : D ≠ r := fun e => by
        rw [e, hxr3] at nD
        cases nD
      have s1 : Same H3 (upd H3 D (.lst [])) := same_new nD
      refine lc_it (walk_tup (xs := t.map V.int)) (fun j H5 => RowAt K H5 r a ns ∧ Sx r H3 H5 ∧ ∃ ms : List Int, H5 D = some (.lst (ms.map V.int)) ∧ ms.Sublist (t.take j)) ⟨R2.keep s1, same_sx s1, [], upd_same, by simp⟩ (fun j H5 _ p => SqT.of ((p.2.1.toT hxr3) _ _ hb2)) (fun j z H5 H6 hj hJ y => ?_) (fun H5 hJ => ?_)
      · obtain ⟨R5, s5, ms, hD5, hsub⟩ := hJ
        obtain ⟨rfl, hz⟩ := y
        obtain ⟨n, hn, rfl⟩ := getElem?_int hz
        refine ⟨wipe_put (by decide), ?_⟩
        refine ⟨.ref r, rfl, r, a, ns, 4, rfl, R5, by decide, by decide, fun v H7 v0 v1 R7 s7 => ⟨v, 0, rfl, rfl, _, rfl, ?_⟩⟩
        have hD7 := s7 _ _ nDr hD5
        have hsl := hsub.length_le
        rw [List.length_take] at hsl
        refine ite2 (fun _ => ?_) (fun _ => ?_)
        · refine ⟨.int n, rfl, _, hD7, by rw [List.length_map]; omega, row_put (R2.keep (Same.refl _)) nD R7, sx_put (s5.trans s7) nD, ms ++ [n], ?_, ?_⟩
          · rw [upd_same, List.map_append]
            rfl
          · rw [takeSucc hn]
            exact hsub.append (List.Sublist.refl _)
        · refine ⟨R7, s5.trans s7, ms, hD7, ?_⟩
          rw [takeSucc hn]
          exact hsub.trans (List.sublist_append_left _ _)
      · obtain ⟨R5, s5, ms, hD5, hsub⟩ := hJ
        rw [List.length_map, List.take_of_length_le (Nat.le_refl _)] at hsub
        refine ⟨D, _, rfl, .inl ⟨SqL.of hD5, fun u nu => ?_⟩⟩
        have s6 : Same H5 (upd H5 u (.tup (ms.map V.int))) := same_new nu
        have hd3 : H3 d = some (.lst acc) := hd
        have hd6 := s6 _ _ (s5 _ _ ndr hd3)
        have hT36 : SameT H3 (upd H5 u (.tup (ms.map V.int))) := (s5.toT hxr3).trans (same_toT s6)
        have sx6 := (sx.trans s5).trans (same_sx s6)
        have R6 := R5.keep s6
        refine ⟨.ref u, rfl, Nat.zero_le _, fun e ne => ?_⟩
        have s7 : Same (upd H5 u (.tup (ms.map V.int))) (upd (upd H5 u (.tup (ms.map V.int))) e (.tup [])) := same_new ne
        have hu7 := s7 _ _ (upd_same : (upd H5 u (.tup (ms.map V.int))) u = _)
        refine ⟨.tuple (ms.map .int), .tuple [], .tup (SqT.of hu7) (dpAll_ints ms), .tup (SqT.of upd_same) .nil, shIntsT ms, shNilT, _, rfl, ?_⟩
        rw [eqv_nilT]
        have hT37 := hT36.trans (same_toT s7)
        cases ms with
        | nil =>
          refine iteF ?_
          exact ⟨_, _, _, rfl, R6.keep s7, sx6.trans (same_sx s7), acc, ff, s7 _ _ hd6, paired_mono (fun _ _ h => h.mono hT37) hac, hth.skip⟩
        | cons m0 ms =>
          refine iteT ?_
          have hd7 := s7 _ _ hd6
          refine ⟨.ref d, rfl, .inl ⟨rfl, _, SqL.of hd7⟩, .ref u, rfl, d, acc, _, rfl, rfl, hd7, ?_, ⟨_, _, _, rfl, row_put hR nd (R6.keep s7), sx_put (sx6.trans (same_sx s7)) nd, acc ++ [.ref u], ff ++ [m0 :: ms], upd_same, ?_, hth.add ht hsub (by simp)⟩⟩
          · have := paired_len hac
            have := hth.ct
            omega
          · have keepT : ∀ {v : V} {t : Tbl}, TabV (upd (upd H5 u (.tup ((m0 :: ms).map V.int))) e (.tup [])) v t → TabV (upd (upd (upd H5 u (.tup ((m0 :: ms).map V.int))) e (.tup [])) d (.lst (acc ++ [.ref u]))) v t := fun {v t} h => by
              obtain ⟨a2, rfl, ha2⟩ := h
              exact ⟨a2, rfl, by rw [upd_ne (ne_of ha2 hd7 (by intro z; cases z))]; exact ha2⟩
            exact paired_snoc (paired_mono (fun v t h => keepT (h.mono hT37)) hac) (keepT ⟨u, rfl, hu7⟩)
    · obtain ⟨y3, y4, y5, rfl, R2, sx, acc, ff, hd, hac, hth⟩ := hI
      rw [hxl] at hth
      refine ⟨.ref d, rfl, ?_⟩
      dsimp only [tNil]
      refine sort_tabs (.inl (SqL.of hd)) hac (fun t ht => (hth.each t ht).1) fun ys u nu hys => ?_
      have s1 : Same H2 (upd H2 u (.lst ys)) := same_new nu
      refine ⟨u, _, rfl, .inl ⟨SqL.of upd_same, fun t nt => ?_⟩⟩
      have s2 := s1.trans (same_new (o := .tup ys) nt)
      exact q _ _ ff (R2.keep s2) (sx.trans (same_sx s2)) ⟨t, ys, rfl, upd_same, paired_mono (fun _ _ h => h.mono (same_toT s2)) hys⟩ hth
end Nf

set_option Elab.async false
set_option linter.all false
set_option maxRecDepth 100000
set_option maxHeartbeats 4000000
namespace Nf
open PySem PySem.Spec PyProof.Rows L2
variable {P : Program} {w : World} {K : PySem.W.Frag} {mg : Str → Option Value} {base : Heap}
/-! ### plan -/
theorem party_nat {g s : Int} (h : IsParty g s) : ∃ n z : Nat, s = ((z : Nat) : Int) ∧ g = ((n * z : Nat) : Int) ∧ 1 ≤ z ∧ z ≤ 8 ∧ n * z ≤ 64 := by
  have h1 := h.s2
  have h2 := h.s8
  have h3 := h.g2
  have h4 := h.g64
  refine ⟨(g / s).toNat, s.toNat, by omega, ?_, by omega, by omega, ?_⟩
  · rw [Int.natCast_mul, Int.toNat_of_nonneg (Int.ediv_nonneg (by omega) (by omega)), Int.toNat_of_nonneg (by omega)]
    exact (Int.ediv_mul_cancel (Int.dvd_of_emod_eq_zero h.dv)).symm
  · have e : (((g / s).toNat * s.toNat : Nat) : Int) = g := by
      rw [Int.natCast_mul, Int.toNat_of_nonneg (Int.ediv_nonneg (by omega) (by omega)), Int.toNat_of_nonneg (by omega)]
      exact Int.ediv_mul_cancel (Int.dvd_of_emod_eq_zero h.dv)
    omega
theorem rgV_range (g : Nat) : rgV 0 ((g : Nat) : Int) = (rangeI g).map V.int := by
  unfold rgV rangeI
  rw [List.map_map]
  have e : (((g : Nat) : Int) - 0).toNat = g := by omega
  rw [e]
  refine List.map_congr_left fun i _ => ?_
  show V.int (0 + (i : Nat)) = V.int ((i : Nat) : Int)
  rw [Int.zero_add]
/-- a drawn full round: of the guests in an order -/
theorem drawn_round {g s : Int} (h : IsParty g s) {n z : Nat} (ez : s = ((z : Nat) : Int)) (eg : g = ((n * z : Nat) : Int)) (hz : 1 ≤ z) {l : List Int} (hp : l.Perm (rangeI (n * z))) : IsRound g s (seatedM l z n) := by
  rw [eg, ez]
  exact seated_round hp hz
theorem scPlan : FnScope ["_law_row", "_law_guests", "_law_size", "_law_most", "_law_found", "_law_k", "_law_turn", "_law_tables"] ["_law_row", "_law_guests", "_law_size", "_law_most"] (defScope lPlan) := ⟨rfl, rfl, rfl, by decide +kernel, rfl, by decide +kernel, by decide +kernel⟩
def PlanM (H : Hp) (l : Addr) (rs : List Rnd) : Prop := ∃ xs, H l = some (.lst xs) ∧ Paired (RndV H) xs rs
def spPlan (K : PySem.W.Frag) : Sp := fun vs H Q _ => ∃ (r a : Addr) (ns : List Int) (g s m : Int), vs = [.ref r, .int g, .int s, .int m] ∧ RowAt K H r a ns ∧ IsParty g s ∧ 0 ≤ m ∧ m ≤ 100 ∧
  ∀ l H' rs, RowAt K H' r a ns → Sx r H H' → H l = none → PlanM H' l rs → GoodP g s rs → (rs.length : Int) ≤ m → Q (.ref l) H'
theorem good_small {g s : Int} (hI : IsParty g s) {r : Rnd} (h : IsRound g s r) : (pairsR r).length ≤ 4096 ∧ r.length ≤ 100000 ∧ ∀ t ∈ r, t.length ≤ 100000 := by
  have h1 := hI.s2
  have h2 := hI.s8
  refine ⟨h.pairs_le (by omega) hI.g64, ?_, fun t ht => ?_⟩
  · have e : g / s ≤ g := Int.ediv_le_self _ (by have := hI.g2; omega)
    have := h.ct
    have := hI.g64
    omega
  · have := (h.sz t ht).2
    omega
theorem ok_plan {f fT fM fS fH fN fP fK : Addr} {fd fdT fdM fdS fdH fdN fdP fdK : FuncData} (F : Fun K "_law_plan" "_law_plan" lPlan f fd) (B : Blt mg) (FT : Fun K "_law_taken" "_law_taken" lTaken fT fdT) (bT : Binds K fdT ["_law_row", "_law_many_here"] []) (gT : mg "_law_taken" = some (.ref fT))
    (FM : Fun K "_law_mixed" "_law_mixed" lMixed fM fdM) (bM : Binds K fdM ["_law_row", "_law_some"] []) (gM : mg "_law_mixed" = some (.ref fM)) (FS : Fun K "_law_seated" "_law_seated" lSeated fS fdS) (bS : Binds K fdS ["_law_guests", "_law_size"] []) (gS : mg "_law_seated" = some (.ref fS))
    (FH : Fun K "_law_thin" "_law_thin" lThin fH fdH) (bH : Binds K fdH ["_law_row", "_law_tables"] []) (gH : mg "_law_thin" = some (.ref fH)) (FN : Fun K "_law_new" "_law_new" lNew fN fdN) (bN : Binds K fdN ["_law_tables", "_law_plan_here"] []) (gN : mg "_law_new" = some (.ref fN))
    (FP : Fun K "_law_pairs" "_law_pairs" lPairs fP fdP) (bP : Binds K fdP ["_law_tables"] []) (gP : mg "_law_pairs" = some (.ref fP)) (FK : Fun K "_law_known" "_law_known" lKnown fK fdK) (bK : Binds K fdK ["_law_plan_here"] []) (gK : mg "_law_known" = some (.ref fK)) :
    FnOk P w K mg base CX0 4 f fd ["_law_row", "_law_guests", "_law_size", "_law_most"] (spPlan K) := by
  have GT : FnOk P w K mg base CX0 1 fT fdT ["_law_row", "_law_many_here"] (spTaken K) := ok_taken FT B
  have GM : FnOk P w K mg base CX0 2 fM fdM ["_law_row", "_law_some"] (spMixed K) := ok_mixed FM B FT bT gT
  have GS : FnOk P w K mg base CX0 1 fS fdS ["_law_guests", "_law_size"] (spSeated K) := ok_seated FS B
  have GH : FnOk P w K mg base CX0 2 fH fdH ["_law_row", "_law_tables"] (spThin K) := ok_thin FH B FT bT gT
  have GN : FnOk P w K mg base CX0 3 fN fdN ["_law_tables", "_law_plan_here"] (spLNew K) := ok_lnew FN B FP bP gP FK bK gK
  refine F.ok scPlan (fun vs H Q E h => ?_) (fun cdv A outer s H vs Q E hr h => ?_)
  · obtain ⟨r, a, ns, g, s, m, rfl, _⟩ := h
    rfl
  · obtain ⟨r, a, ns, g, z, m, rfl, hR, hI, hm0, hm1, q⟩ := h
    have hr1 : Room 1 _ := hr.mono (by decide)
    have hr2 : Room 2 _ := hr.mono (by decide)
    refine ⟨_, pss_cons (ps_set (i := 4) scPlan.nd rfl (.inl rfl) (pe_lst pa_nil))
      (pss_cons (ps_for PassesOwn.never rfl (pi_range1 (by rfl) B.range (pa_cons (pe_call GT hr1 (by rfl) gT FT.kp bT .nil pass0 (pa_cons (pv 0) (pa_cons (pe_op op_add (pv 3) pe_int) pa_nil))) pa_nil)) (pg_name (i := 5) scPlan.nd rfl (.inl rfl))
        (pss_cons (ps_for PassesOwn.never rfl (pi_range1 (by rfl) B.range (pa_cons pe_int pa_nil)) (pg_name (i := 6) scPlan.nd rfl (.inl rfl))
          (pss_cons (ps_set (i := 7) scPlan.nd rfl (.inl rfl) (pe_call GS hr1 (by rfl) gS FS.kp bS .nil pass0 (pa_cons (pe_call GM hr2 (by rfl) gM FM.kp bM .nil pass0 (pa_cons (pv 0) (pa_cons (pe_listRg rfl (by rfl) B.list (prg_1 (by rfl) B.range (pv 1))) pa_nil))) (pa_cons (pv 2) pa_nil))))
          (pss_cons (ps_if (pt_cmpR op_eq (pe_call GT hr1 (by rfl) gT FT.kp bT .nil pass0 (pa_cons (pv 0) (pa_cons pe_int pa_nil))) pe_int (nomark _))
            (pss_one (ps_set (i := 7) scPlan.nd rfl (.inl rfl) (pe_call GH hr2 (by rfl) gH FH.kp bH .nil pass0 (pa_cons (pv 0) (pa_cons (pv 7) pa_nil))))) pss_nil)
          (pss_one (ps_if (PW.pt (pw_and (pt_cmpR op_eq (pe_callB call_len_seq (by rfl) B.len PySem.boot_len (pa_cons (pv 4) pa_nil)) (pv 5) (nomark _)) (pw_and1 (pt_val (pe_call GN hr (by rfl) gN FN.kp bN .nil pass0 (pa_cons (pv 7) (pa_cons (pv 4) pa_nil)))))))
            (pss_one (ps_expr (pe_bm PySem.F.plainAttrs_list PySem.F.slot_list_append PySem.F.type_list_append mt_append (pv 4) (pa_cons (pv 7) pa_nil)))) pss_nil)))))
        (pss_one (ps_if (pt_cmpR op_eq (pe_callB call_len_seq (by rfl) B.len PySem.boot_len (pa_cons (pv 4) pa_nil)) (pv 5) (nomark _)) (pss_one (ps_ret (pv 4))) pss_nil))))
      (pss_one (ps_ret (pv 4)))), ?_⟩
    have big : (100000 : Nat) < sizeLine := by decide
    obtain ⟨xr0, hxr0⟩ := hR.lst
    obtain ⟨n, zn, ez, eg, hz1, hz8, hn64⟩ := party_nat hI
    refine ⟨Nat.zero_le _, fun l nl => ?_⟩
    have nlr : l ≠ r := fun e => by
      rw [e, hxr0] at nl
      cases nl
    have s0 : Same H (upd H l (.lst [])) := same_new nl
    refine ⟨.ref r, rfl, .int m, rfl, m, 1, rfl, rfl, r, a, ns, m + 1, rfl, hR.keep s0, by omega, by omega, fun v H1 v0 v1 R1 s1 => ?_⟩
    refine ⟨v, rfl, by omega, by omega, ?_⟩
    -- what holds of the list so far
    let Inv0 : Hp → Nat → Nat → Prop := fun H2 lo hi => RowAt K H2 r a ns ∧ Sx r H H2 ∧ ∃ rs : List Rnd, PlanM H2 l rs ∧ GoodP g z rs ∧ lo ≤ rs.length ∧ rs.length ≤ hi
    refine for_it walk_range (fun k σ H2 => ∃ (y5 y6 y7 : Option V), σ = [some (.ref r), some (.int g), some (.int z), some (.int m), some (.ref l), y5, y6, y7] ∧ Inv0 H2 k k)
      ⟨none, none, none, rfl, R1, (same_sx s0).trans s1, [], ⟨[], s1 _ _ nlr upd_same, .nil⟩, GoodP.nil, Nat.le_refl _, Nat.le_refl _⟩ (fun _ _ _ _ _ => trivial) (fun k x σ H2 H3 hk hI2 y => ?_) (fun σ H2 hI2 => ?_)
    · obtain ⟨y5, y6, y7, rfl, hI2⟩ := hI2
      obtain ⟨rfl, rfl⟩ := y
      refine ⟨6, rfl, by decide, by decide, ?_⟩
      refine for_it walk_range (fun j σ H4 => ∃ (y6 y7 : Option V), σ = [some (.ref r), some (.int g), some (.int z), some (.int m), some (.ref l), some (.int (0 + (k : Nat))), y6, y7] ∧ Inv0 H4 k (k + 1))
        ⟨y6, y7, rfl, hI2.1, hI2.2.1, hI2.2.2.imp fun rs h => ⟨h.1, h.2.1, h.2.2.1, Nat.le_succ_of_le h.2.2.2⟩⟩ (fun _ _ _ _ _ => trivial) (fun j x σ H4 H5 hj hJ y => ?_) (fun σ H4 hJ => ?_)
      · obtain ⟨y6, y7, rfl, R4, sx4, rs, ⟨xs, hl4, hxs⟩, hG, hlo, hhi⟩ := hJ
        obtain ⟨rfl, rfl⟩ := y
        -- seated(mixed(row, list(range(guests))), size)
        refine ⟨.ref r, rfl, .int g, rfl, g, rfl, ?_, fun b nb => ?_⟩
        · exact RgOk.of_le (by decide) (by have := hI.g64; omega) (by decide) (by have := hI.g2; omega)
        have er : rgV 0 g = (rangeI (n * zn)).map V.int := by
          rw [eg]
          exact rgV_range _
        rw [er]
        have s5 : Same H5 (upd H5 b (.lst ((rangeI (n * zn)).map V.int))) := same_new nb
        refine ⟨r, a, b, ns, rangeI (n * zn), rfl, R4.keep s5, SqL.of upd_same, by rw [rangeI_len]; omega, fun c H6 l' R6 s6 nc hc hp => ?_⟩
        refine ⟨.int z, rfl, c, l', zn, n, by rw [ez]; rfl, SqL.of hc, hz1, by omega, by rw [hp.length_eq, rangeI_len], by omega, fun x H7 s7 hx => ?_⟩
        have hRd : IsRound g z (seatedM l' zn n) := drawn_round hI ez eg hz1 hp
        have R7 := R6.keep s7
        obtain ⟨xr5, hxr5⟩ := R4.lst
        have T6 : SameT H5 H6 := (same_toT s5).trans (s6.toT (s5 _ _ hxr5))
        have T7 : SameT H5 H7 := T6.trans (same_toT s7)
        have sx7 : Sx r H H7 := ((sx4.trans (same_sx s5)).trans s6).trans (same_sx s7)
        have hl7 : H7 l = some (.lst xs) := s7 _ _ (s6 _ _ nlr (s5 _ _ hl4))
        have hxs7 : Paired (RndV H7) xs rs := paired_mono (fun _ _ h => h.mono T7) hxs
        -- one turn's end, the round known
        have fin : ∀ (y : V) (rd : Rnd) (H8 : Hp), RowAt K H8 r a ns → Sx r H H8 → RndV H8 y rd → IsRound g z rd → H8 l = some (.lst xs) → Paired (RndV H8) xs rs →
            tIfS (tAnd (tTest (tOp rEq (tCB (fun xs H Q => ∃ p ys, xs = [V.ref p] ∧ (SqL K H p ys ∨ SqT K H p ys) ∧ Q (V.int ys.length) H) (tCons (tVar 4) tNil)) (tVar 5))) (tB (tCall (spLNew K) [] E0 (tCons (tVar 7) (tCons (tVar 4) tNil)))))
              (tDrop (tBM K "list" rAppend (tVar 4) (tCons (tVar 7) tNil))) tNext
              { nx := fun σ H4 => ∃ (y6 y7 : Option V), σ = [some (.ref r), some (.int g), some (.int z), some (.int m), some (.ref l), some (.int (0 + (k : Nat))), y6, y7] ∧ Inv0 H4 k (k + 1), rt := Q }
              [some (.ref r), some (.int g), some (.int z), some (.int m), some (.ref l), some (.int (0 + (k : Nat))), some (.int (0 + (j : Nat))), some y] H8 := fun y rd H8 R8 sx8 hy hrd hl8 hxs8 => by
          have hxl := paired_len hxs8
          obtain ⟨hp1, hp2, hp3⟩ := good_small hI hrd
          refine ⟨.ref l, rfl, l, xs, rfl, .inl (SqL.of hl8), .int (0 + (k : Nat)), rfl, rfl, _, rfl, ite2 (fun hc1 => ?_) (fun hc1 => ?_)⟩
          · have hk1 : xs.length = k := by
              have := V.int.inj (of_decide_eq_true hc1)
              omega
            refine ⟨y, rfl, .ref l, rfl, y, l, rd, rs, rfl, hy, by omega, hp3, ⟨xs, SqL.of hl8, hxs8⟩, by omega, fun q hq => ?_, fun b H9 s9 hb => ⟨_, rfl, ite2 (fun hc2 => ?_) (fun hc2 => ?_)⟩⟩
            · obtain ⟨h1, _, h3⟩ := good_small hI (hG.rd q hq)
              exact ⟨h1, h3⟩
            · have hnew := hb.mp hc2
              have hl9 := s9 _ _ hl8
              refine ⟨.ref l, rfl, .inl ⟨rfl, _, SqL.of hl9⟩, y, rfl, l, xs, y, rfl, rfl, hl9, by omega, ⟨_, _, rfl, row_put hR nl (R8.keep s9), sx_put (sx8.trans (same_sx s9)) nl, rs ++ [rd], ⟨xs ++ [y], upd_same, ?_⟩, hG.snoc hrd (fun p hp q hq hm => hnew p hp (List.mem_flatMap.mpr ⟨q, hq, hm⟩)), by rw [List.length_append, List.length_singleton]; omega, by rw [List.length_append, List.length_singleton]; omega⟩⟩
              have keepT : SameT H8 (upd H9 l (.lst (xs ++ [y]))) := fun a2 ys e2 => by
                have e3 := s9 _ _ e2
                rw [upd_ne (ne_of e3 hl9 (by intro z; cases z))]
                exact e3
              exact paired_snoc (paired_mono (fun _ _ h => h.mono keepT) hxs8) (hy.mono keepT)
            · exact ⟨_, _, rfl, R8.keep s9, sx8.trans (same_sx s9), rs, ⟨xs, s9 _ _ hl8, paired_mono (fun _ _ h => h.mono (same_toT s9)) hxs8⟩, hG, hlo, hhi⟩
          · exact ⟨_, _, rfl, R8, sx8, rs, ⟨xs, hl8, hxs8⟩, hG, hlo, hhi⟩
        -- if taken(row, 4) == 3
        refine ⟨.ref r, rfl, r, a, ns, 4, rfl, R7, by decide, by decide, fun u H8 u0 u1 R8 s8 => ⟨rfl, _, rfl, ite2 (fun hc => ?_) (fun hc => ?_)⟩⟩
        · obtain ⟨xr7, hxr7⟩ := R7.lst
          obtain ⟨hp1, hp2, hp3⟩ := good_small hI hRd
          have T8 := s8.toT hxr7
          refine ⟨.ref r, rfl, x, rfl, r, a, ns, x, _, rfl, R8, hx.mono T8, hp2, hp3, fun y H9 ff R9 s9 hy hth => ?_⟩
          obtain ⟨xr8, hxr8⟩ := R8.lst
          have T9 := T8.trans (s9.toT hxr8)
          exact fin y _ H9 R9 ((sx7.trans s8).trans s9) hy (hth.round hRd) (s9 _ _ nlr (s8 _ _ nlr hl7)) (paired_mono (fun _ _ h => h.mono T9) hxs7)
        · obtain ⟨xr7, hxr7⟩ := R7.lst
          have T8 := s8.toT hxr7
          exact fin x _ H8 R8 (sx7.trans s8) (hx.mono T8) hRd (s8 _ _ nlr hl7) (paired_mono (fun _ _ h => h.mono T8) hxs7)
      · obtain ⟨y6, y7, rfl, R4, sx4, rs, ⟨xs, hl4, hxs⟩, hG, hlo, hhi⟩ := hJ
        have hxl := paired_len hxs
        refine ⟨.ref l, rfl, l, xs, rfl, .inl (SqL.of hl4), .int (0 + (k : Nat)), rfl, rfl, _, rfl, ite2 (fun hc => ?_) (fun hc => ?_)⟩
        · exact ⟨.ref l, rfl, q l H4 rs R4 sx4 nl ⟨xs, hl4, hxs⟩ hG (by omega)⟩
        · have hk1 : xs.length ≠ k := fun e => hc (decide_eq_true (congrArg V.int (by omega)))
          exact ⟨_, _, _, rfl, R4, sx4, rs, ⟨xs, hl4, hxs⟩, hG, by omega, by omega⟩
    · obtain ⟨y5, y6, y7, rfl, R2, sx, rs, hP, hG, _, hhi⟩ := hI2
      exact ⟨.ref l, rfl, q l H2 rs R2 sx nl hP hG (by omega)⟩
end Nf

set_option Elab.async false
set_option linter.all false
set_option maxRecDepth 100000
set_option maxHeartbeats 4000000
namespace Nf
open PySem PySem.Spec PyProof.Rows L2
variable {P : Program} {w : World} {K : PySem.W.Frag} {mg : Str → Option Value} {base : Heap}
/-! ### what all laws share -/
structure Has (P : Program) (w : World) (K : PySem.W.Frag) (mg : Str → Option Value) (base : Heap) (n : Nat) (x : Str) (f : Addr) (fd : FuncData) (ps : List Str) (sp : Sp) : Prop where
  ok : FnOk P w K mg base CX0 n f fd ps sp
  kp : PySem.W.keepIn K (.ref f) = true
  b : Binds K fd ps []
  g : mg x = some (.ref f)
theorem paired_set {α β : Type} {R : α → β → Prop} {x : α} {y : β} : ∀ {xs : List α} {ys : List β} (i : Nat), Paired R xs ys → R x y → Paired R (xs.set i x) (ys.set i y)
  | _, _, _, .nil, _ => .nil
  | _, _, 0, .cons _ t, h => .cons h t
  | _, _, i + 1, .cons r t, h => .cons r (paired_set i t h)
theorem paired_ins {α β : Type} {R : α → β → Prop} {x : α} {y : β} : ∀ {xs : List α} {ys : List β} (i : Nat), Paired R xs ys → R x y → Paired R (xs.take i ++ [x] ++ xs.drop i) (ys.take i ++ [y] ++ ys.drop i)
  | _, _, i, .nil, h => by simpa using Paired.cons h .nil
  | _, _, 0, .cons r t, h => .cons h (.cons r t)
  | _, _, i + 1, .cons r t, h => .cons r (paired_ins i t h)
/-- what stands in one turn of the law: the row, the party, the plan so far -/
structure LawI (K : PySem.W.Frag) (C : Addr) (H : Hp) (r a p dx l : Addr) (ns : List Int) (g z : Int) (rs : List Rnd) (m n L : Nat) : Prop where
  row : RowAt K H r a ns
  pa : H p = some (.ins C dx (pf g z))
  pl : ∃ xs, H l = some (.lst xs) ∧ Paired (RndV H) xs rs
  nlr : l ≠ r
  cnt : rs.length ≤ m
  bd : ∀ rd ∈ rs, rd.length ≤ n ∧ ∀ t ∈ rd, t.length ≤ L
  put : ∀ (H' : Hp) (o : HO), RowAt K H' r a ns → RowAt K (upd H' l o) r a ns
section
variable {C : Addr} {H H' : Hp} {r a p dx l : Addr} {ns : List Int} {g z : Int} {rs : List Rnd} {m n L : Nat}
theorem LawI.keep (h : LawI K C H r a p dx l ns g z rs m n L) (R : RowAt K H' r a ns) (s : Sx r H H') : LawI K C H' r a p dx l ns g z rs m n L := by
  obtain ⟨xr, hxr⟩ := h.row.lst
  obtain ⟨xs, hl, hp⟩ := h.pl
  exact ⟨R, s _ _ (ne_of h.pa hxr (by intro e; cases e)) h.pa, ⟨xs, s _ _ h.nlr hl, paired_mono (fun _ _ z => z.mono (s.toT hxr)) hp⟩, h.nlr, h.cnt, h.bd, h.put⟩
theorem LawI.same (h : LawI K C H r a p dx l ns g z rs m n L) (s : Same H H') : LawI K C H' r a p dx l ns g z rs m n L := h.keep (h.row.keep s) (same_sx s)
theorem LawI.toT (h : LawI K C H r a p dx l ns g z rs m n L) (s : Sx r H H') : SameT H H' := by
  obtain ⟨xr, hxr⟩ := h.row.lst
  exact s.toT hxr
theorem LawI.putL (h : LawI K C H r a p dx l ns g z rs m n L) {ys : List V} {qs : List Rnd} {m' n' L' : Nat} (hq : Paired (RndV H) ys qs) (hm : qs.length ≤ m') (hb : ∀ rd ∈ qs, rd.length ≤ n' ∧ ∀ t ∈ rd, t.length ≤ L') : LawI K C (upd H l (.lst ys)) r a p dx l ns g z qs m' n' L' := by
  obtain ⟨xs, hl, hp⟩ := h.pl
  have T : SameT H (upd H l (.lst ys)) := fun a2 us e2 => by
    rw [upd_ne (ne_of e2 hl (by intro z; cases z))]
    exact e2
  refine ⟨h.put _ _ h.row, ?_, ⟨ys, upd_same, paired_mono (fun _ _ z => z.mono T) hq⟩, h.nlr, hm, hb, h.put⟩
  rw [upd_ne (ne_of h.pa hl (by intro e; cases e))]
  exact h.pa
theorem LawI.wide (h : LawI K C H r a p dx l ns g z rs m n L) {m' n' L' : Nat} (e1 : m ≤ m') (e2 : n ≤ n') (e3 : L ≤ L') : LawI K C H r a p dx l ns g z rs m' n' L' :=
  ⟨h.row, h.pa, h.pl, h.nlr, Nat.le_trans h.cnt e1, fun rd hr => ⟨Nat.le_trans (h.bd rd hr).1 e2, fun t ht => Nat.le_trans ((h.bd rd hr).2 t ht) e3⟩, h.put⟩
end
theorem round_bd {g z : Int} (hI : IsParty g z) {rd : Rnd} (h : IsRound g z rd) : rd.length ≤ 32 ∧ ∀ t ∈ rd, t.length ≤ 8 := by
  have h2 := hI.s2
  have h8 := hI.s8
  have h64 := hI.g64
  refine ⟨?_, fun t ht => ?_⟩
  · have e : g / z * z ≤ g := Int.ediv_mul_le g (by omega)
    have e2 : g / z ≤ 32 := by
      refine Int.le_of_lt_add_one ((Int.ediv_lt_iff_lt_mul (by omega)).mpr ?_)
      omega
    have := h.ct
    omega
  · have := (h.sz t ht).2
    omega
theorem four_le : 4 ≤ sizeLine := by decide
end Nf

set_option Elab.async false
set_option linter.all false
set_option maxRecDepth 100000
set_option maxHeartbeats 4000000
namespace Nf
open PySem PySem.Spec PyProof.Rows L2
variable {P : Program} {w : World} {K : PySem.W.Frag} {mg : Str → Option Value} {base : Heap}
/-! ### the law's own look at a round -/
theorem scLIsRound : FnScope ["_law_guests", "_law_size", "_law_tables", "_law_everyone", "_law_table"] ["_law_guests", "_law_size", "_law_tables"] (defScope lIsRound) := ⟨rfl, rfl, rfl, by decide +kernel, rfl, by decide +kernel, by decide +kernel⟩
def spLIsRound : Sp := fun vs H Q _ => ∃ (g s : Int) (x : V) (r : Rnd), vs = [.int g, .int s, x] ∧ IsParty g s ∧ RndV H x r ∧ r.length ≤ 400 ∧ (∀ t ∈ r, t.length ≤ 100000) ∧ ∀ b H', Same H H' → (b = true ↔ IsRound g s r) → Q (.bl b) H'
theorem eqv_ints (xs ys : List Int) : (PyData.eqv (.list (xs.map .int)) (.list (ys.map .int)) = true) ↔ xs = ys := by
  simp only [PyData.eqv]
  exact eqvInts
theorem eqv_tabs (xs ys : List Tbl) : (PyData.eqv (.list (xs.map dT)) (.list (ys.map dT)) = true) ↔ xs = ys := by
  simp only [PyData.eqv]
  exact eqvTabs
theorem ok_lisRound {f : Addr} {fd : FuncData} (F : Fun K "_law_is_round" "_law_is_round" lIsRound f fd) (B : Blt mg) : FnOk P w K mg base CX0 1 f fd ["_law_guests", "_law_size", "_law_tables"] spLIsRound := by
  refine F.ok scLIsRound (fun vs H Q E h => ?_) (fun cdv A outer s H vs Q E hr h => ?_)
  · obtain ⟨g, s, x, r, rfl, _⟩ := h
    rfl
  · obtain ⟨g, z, x, r, rfl, hI, ⟨p, xs, rfl, hp, hxs⟩, hlen, htl, q⟩ := h
    refine ⟨_, pss_cons (ps_set (i := 3) scLIsRound.nd rfl (.inl rfl) (pe_lst pa_nil))
      (pss_cons (ps_for PassesOwn.never rfl (pi_tup (pv 2)) (pg_name (i := 4) scLIsRound.nd rfl (.inl rfl))
        (pss_cons (ps_if (PW.pt (pw_or (pt_not (pt_chain op_le op_le pe_int (pe_callB call_len_seq (by rfl) B.len PySem.boot_len (pa_cons (pv 4) pa_nil)) (pv 1)))
            (pw_or1 (pt_cmpR (op_neD hr.units) (pe_callTy call_list_of (by rfl) B.list (by decide +kernel) (pa_cons (pv 4) pa_nil)) (pe_callB (cr_sortD (fun i : Int => PyData.int i) hr.units) (by rfl) B.sorted (by decide +kernel) (pa_cons (pv 4) pa_nil)) (nomark _)))))
          (pss_one (ps_ret pe_bl)) pss_nil)
        (pss_one (ps_expr (pe_bm PySem.F.plainAttrs_list PySem.F.slot_list_extend PySem.F.type_list_extend mt_extendT (pv 3) (pa_cons (pv 4) pa_nil))))))
      (pss_cons (ps_if (PW.pt (pw_or (PW.pt (pw_and (pt_cmpR (op_neD hr.units) (pv 3) (pe_lst pa_nil) (nomark _)) (pw_and1 (PW.pt (pw_or (pt_cmpR op_lt (pe_callB (cr_min rfl) (by rfl) B.min (by decide +kernel) (pa_cons (pv 3) pa_nil)) pe_int (nomark _))
            (pw_or1 (pt_cmpR op_ge (pe_callB (cr_max rfl) (by rfl) B.max (by decide +kernel) (pa_cons (pv 3) pa_nil)) (pv 0) (nomark _))))))))
          (pw_or1 (pt_cmpR op_ne (pe_lenSet (by rfl) B.len (by rfl) B.set (pv 3)) (pe_callB call_len_seq (by rfl) B.len PySem.boot_len (pa_cons (pv 3) pa_nil)) (nomark _)))))
        (pss_one (ps_ret pe_bl)) pss_nil)
      (pss_one (ps_ret (pe_and (pe_cmpR op_le (pe_callB call_len_seq (by rfl) B.len PySem.boot_len (pa_cons (pv 2) pa_nil)) (pe_op op_fdiv (pv 0) (pv 1)) (nomark _))
        (pe_one (pe_cmpR (op_eqD hr.units) (pe_callTy call_list_of (by rfl) B.list (by decide +kernel) (pa_cons (pv 2) pa_nil)) (pe_callB (cr_sortD dT hr.units) (by rfl) B.sorted (by decide +kernel) (pa_cons (pv 2) pa_nil)) (nomark _)))))))), ?_⟩
    have no : ∀ H', Same H H' → ¬ IsRound g z r → Q (.bl false) H' := fun H' sm h => q false H' sm ⟨(fun e => by cases e), fun e => absurd e h⟩
    have hxl := paired_len hxs
    have big : (1000000 : Nat) < sizeLine := by decide
    have hz8 := hI.s8
    refine ⟨Nat.zero_le _, fun D nD => ?_⟩
    have s0 : Same H (upd H D (.lst [])) := same_new nD
    refine ⟨.ref p, rfl, p, rfl, ⟨_, SqT.of (s0 _ _ hp)⟩, ?_⟩
    refine for_it (walk_tup (xs := xs)) (fun i σ H2 => ∃ y4 : Option V, σ = [some (.int g), some (.int z), some (.ref p), some (.ref D), y4] ∧ Same H H2 ∧ H2 D = some (.lst ((r.take i).flatten.map V.int)) ∧ ((r.take i).flatten.length ≤ 8 * i) ∧ ∀ t ∈ r.take i, (1 ≤ t.length ∧ (t.length : Int) ≤ z) ∧ t.Pairwise (· ≤ ·))
      ⟨none, rfl, s0, upd_same, by simp, by simp⟩ (fun i σ H2 _ h => ?_) (fun i x σ H2 H3 hi hI2 y => ?_) (fun σ H2 hI2 => ?_)
    · obtain ⟨_, _, sm, _⟩ := h
      exact SqT.of (sm _ _ hp)
    · obtain ⟨y4, rfl, sm, hD, hfl, hall⟩ := hI2
      obtain ⟨rfl, hx⟩ := y
      obtain ⟨t, ht, a, rfl, ha⟩ := paired_getL hxs hx
      have hmt := List.mem_of_getElem? ht
      have ha3 := sm _ _ ha
      have bad : ∀ H', Same H H' → ¬ ((1 ≤ t.length ∧ (t.length : Int) ≤ z) ∧ t.Pairwise (· ≤ ·)) → Q (.bl false) H' := fun H' s' h => no H' s' fun y => h ⟨y.sz t hmt, y.up t hmt⟩
      refine ⟨.ref a, rfl, a, _, rfl, .inr (SqT.of ha3), 1, _, rfl, rfl, _, rfl, ite2 (fun h1 => ?_) (fun h1 => ?_)⟩
      · have h1 : 1 ≤ t.length := by
          have := of_decide_eq_true h1
          rw [List.length_map] at this
          omega
        refine ⟨.int z, rfl, _, _, rfl, rfl, _, rfl, ite2 (fun h2 => ?_) (fun h2 => ?_)⟩
        · refine iteT (bad _ sm fun y => ?_)
          rw [List.length_map] at h2
          simp [y.1.2] at h2
        · have h2 : (t.length : Int) ≤ z := by
            rw [List.length_map] at h2
            simpa using h2
          refine ⟨.ref a, rfl, a, _, rfl, .inr (SqT.of ha3), fun b nb => ?_⟩
          have s4 : Same H3 (upd H3 b (.lst (t.map V.int))) := same_new nb
          refine ⟨.ref a, rfl, ?_⟩
          dsimp only [tNil]
          refine sort_ints (.inr (SqT.of (s4 _ _ ha3))) fun c nc => ?_
          have s5 := s4.trans (same_new (o := .lst ((sortI t).map V.int)) nc)
          have hb5 := (same_new (o := .lst ((sortI t).map V.int)) nc) _ _ (upd_same : (upd H3 b (.lst (t.map V.int))) b = _)
          refine ⟨.list (t.map .int), .list ((sortI t).map .int), .lst (SqL.of hb5) (dpAll_ints t), .lst (SqL.of upd_same) (dpAll_ints _), shInts _, shInts _, _, rfl, ?_⟩
          have sm5 := sm.trans s5
          refine ite2 (fun h3 => ?_) (fun h3 => ?_)
          · refine bad _ sm5 fun y => ?_
            rw [(eqv_ints _ _).mpr ((sortI_iff t).mpr y.2)] at h3
            cases h3
          · have h3 : t.Pairwise (· ≤ ·) := by
              refine (sortI_iff t).mp ((eqv_ints _ _).mp ?_)
              simpa using h3
            have hD5 := s5 _ _ hD
            refine ⟨.ref D, rfl, .inl ⟨rfl, _, SqL.of hD5⟩, .ref a, rfl, D, a, _, _, rfl, rfl, hD5, s5 _ _ ha3, ?_, ⟨_, rfl, same_put sm5 nD, ?_, ?_, ?_⟩⟩
            · rw [List.length_map, List.length_map]
              omega
            · rw [upd_same, takeSucc ht, List.flatten_append, List.map_append]
              simp
            · rw [takeSucc ht, List.flatten_append, List.length_append]
              simp only [List.flatten_cons, List.flatten_nil, List.append_nil]
              omega
            · intro u hu
              rw [takeSucc ht] at hu
              rcases List.mem_append.mp hu with hu | hu
              · exact hall u hu
              · rw [List.mem_singleton.mp hu]
                exact ⟨⟨h1, h2⟩, h3⟩
      · refine ⟨_, rfl, iteT (bad _ sm fun y => h1 (decide_eq_true ?_))⟩
        rw [List.length_map]
        have := y.1.1
        omega
    · obtain ⟨y4, rfl, sm, hD, hfl, hall⟩ := hI2
      rw [hxl, List.take_of_length_le (Nat.le_refl _)] at hD hfl hall
      have hfl4 : r.flatten.length ≤ 4000 := by omega
      -- the last part: behind the bounds and the looks for guests told twice
      have last : ∀ H3, Same H2 H3 → (∀ x ∈ r.flatten, 0 ≤ x ∧ x < g) → r.flatten.Nodup → tRet (tAndV (tOp (rI0 fun i j => .bl (decide (i ≤ j))) (tCB (fun xs H Q => ∃ p ys, xs = [V.ref p] ∧ (SqL K H p ys ∨ SqT K H p ys) ∧ Q (V.int ys.length) H) (tCons (tVar 2) tNil)) (tOp (rI CDiv fun i j => .int (i / j)) (tVar 0) (tVar 1)))
          (tOp (rEqD K) (tCB (fun xs H Q => ∃ p ys, xs = [V.ref p] ∧ (SqL K H p ys ∨ SqT K H p ys) ∧ ∀ l, H l = none → Q (V.ref l) (upd H l (.lst ys))) (tCons (tVar 2) tNil)) (tCB (rSortD K dT) (tCons (tVar 2) tNil))))
          { nx := fun _ H' => Q .non H', rt := Q } [some (.int g), some (.int z), some (.ref p), some (.ref D), y4] H3 := fun H3 s3 hlo hnd => by
        have sm3 := sm.trans s3
        have hp3 := sm3 _ _ hp
        refine ⟨.ref p, rfl, p, xs, rfl, .inr (SqT.of hp3), .int g, rfl, .int z, rfl, g, z, rfl, rfl, ⟨by have := hI.s2; omega, by omega⟩, _, _, rfl, rfl, _, rfl, ite2 (fun h1 => ?_) (fun h1 => ?_)⟩
        · have h1 : (r.length : Int) ≤ g / z := by
            have := of_decide_eq_true h1
            omega
          refine ⟨.ref p, rfl, p, xs, rfl, .inr (SqT.of hp3), fun b nb => ?_⟩
          have s4 : Same H3 (upd H3 b (.lst xs)) := same_new nb
          refine ⟨.ref p, rfl, ?_⟩
          dsimp only [tNil]
          refine sort_tabs (.inr (SqT.of (s4 _ _ hp3))) (paired_mono (fun _ _ h => h.mono (same_toT (sm3.trans s4))) hxs) (fun t ht e => ?_) fun ys c nc hys => ?_
          · have := (hall t ht).1.1
            rw [e] at this
            simp at this
          · have s5 : Same (upd H3 b (.lst xs)) (upd (upd H3 b (.lst xs)) c (.lst ys)) := same_new nc
            have sm5 := (sm3.trans s4).trans s5
            refine ⟨.list (r.map dT), .list ((sortT r).map dT), dp_lst (fun _ _ h => dp_tab h) (SqL.of (s5 _ _ upd_same)) (paired_mono (fun _ _ h => h.mono (same_toT sm5)) hxs),
              dp_lst (fun _ _ h => dp_tab h) (SqL.of upd_same) (paired_mono (fun _ _ h => h.mono (same_toT s5)) hys), shTabs _, shTabs _, ?_⟩
            refine q _ _ sm5 ?_
            rw [eqv_tabs, sortT_iff]
            exact ⟨fun e => ⟨fun t ht => (hall t ht).1, fun t ht => (hall t ht).2, hlo, hnd, h1, e⟩, fun e => e.ord⟩
        · exact no _ sm3 fun y => h1 (decide_eq_true (by have := y.ct; omega))
      -- len(set(everyone)) != len(everyone)
      have two : ∀ H3, Same H2 H3 → (∀ x ∈ r.flatten, 0 ≤ x ∧ x < g) → tTest (tOp rNe (tLenSet K (tVar 3)) (tCB (fun xs H Q => ∃ p ys, xs = [V.ref p] ∧ (SqL K H p ys ∨ SqT K H p ys) ∧ Q (V.int ys.length) H) (tCons (tVar 3) tNil)))
          [some (.int g), some (.int z), some (.ref p), some (.ref D), y4] H3 (fun b H4 => if b = true then tRet (tC (.bl false)) { nx := fun _ H' => Q .non H', rt := Q } [some (.int g), some (.int z), some (.ref p), some (.ref D), y4] H4 else
            tRet (tAndV (tOp (rI0 fun i j => .bl (decide (i ≤ j))) (tCB (fun xs H Q => ∃ p ys, xs = [V.ref p] ∧ (SqL K H p ys ∨ SqT K H p ys) ∧ Q (V.int ys.length) H) (tCons (tVar 2) tNil)) (tOp (rI CDiv fun i j => .int (i / j)) (tVar 0) (tVar 1)))
          (tOp (rEqD K) (tCB (fun xs H Q => ∃ p ys, xs = [V.ref p] ∧ (SqL K H p ys ∨ SqT K H p ys) ∧ ∀ l, H l = none → Q (V.ref l) (upd H l (.lst ys))) (tCons (tVar 2) tNil)) (tCB (rSortD K dT) (tCons (tVar 2) tNil))))
          { nx := fun _ H' => Q .non H', rt := Q } [some (.int g), some (.int z), some (.ref p), some (.ref D), y4] H4) := fun H3 s3 hlo => by
        have hD3 := s3 _ _ hD
        refine ⟨.ref D, rfl, D, r.flatten, rfl, SqL.of hD3, hfl4, .ref D, rfl, D, _, rfl, .inl (SqL.of hD3), rfl, _, rfl, ite2 (fun h1 => ?_) (fun h1 => ?_)⟩
        · refine no _ (sm.trans s3) fun y => ?_
          have e := (metN_iff _).mpr y.nd
          rw [List.length_map, e] at h1
          simp at h1
        · refine last _ s3 hlo ((metN_iff _).mp ?_)
          rw [List.length_map] at h1
          have : V.int (metN r.flatten : Nat) = V.int (r.flatten.length : Nat) := by simpa using h1
          have := V.int.inj this
          omega
      -- everyone != []
      refine ⟨.ref D, rfl, Nat.zero_le _, fun e ne => ?_⟩
      have s3 : Same H2 (upd H2 e (.lst [])) := same_new ne
      refine ⟨.list (r.flatten.map .int), .list [], .lst (SqL.of (s3 _ _ hD)) (dpAll_ints _), .lst (SqL.of upd_same) .nil, shInts _, shNil, _, rfl, ?_⟩
      rw [eqv_nil]
      cases hf : r.flatten with
      | nil =>
        refine iteF (iteF ?_)
        exact two _ s3 (by rw [hf]; simp)
      | cons f0 fr =>
        refine iteT ?_
        have hpos : 0 < r.flatten.length := by rw [hf]; simp
        refine ⟨.ref D, rfl, D, r.flatten, rfl, SqL.of (s3 _ _ hD), hpos, fun m hm hmin => ⟨m, 0, rfl, rfl, _, rfl, ite2 (fun h1 => ?_) (fun h1 => ?_)⟩⟩
        · refine iteT (no _ (sm.trans s3) fun y => ?_)
          have := (y.lo m hm).1
          have := of_decide_eq_true h1
          omega
        · have h1 : 0 ≤ m := by
            have : ¬ m < 0 := fun e => h1 (decide_eq_true e)
            omega
          refine ⟨.ref D, rfl, D, r.flatten, rfl, SqL.of (s3 _ _ hD), hpos, fun M hM hmax => ⟨.int g, rfl, M, g, rfl, rfl, _, rfl, ite2 (fun h2 => ?_) (fun h2 => ?_)⟩⟩
          · refine (no _ (sm.trans s3) fun y => ?_)
            have := (y.lo M hM).2
            have := of_decide_eq_true h2
            omega
          · have h2 : M < g := by
              have : ¬ g ≤ M := fun e => h2 (decide_eq_true e)
              omega
            refine two _ s3 fun x hx => ?_
            have := hmin x hx
            have := hmax x hx
            omega
end Nf

set_option Elab.async false
set_option linter.all false
set_option maxRecDepth 100000
set_option maxHeartbeats 4000000
namespace Nf
open PySem PySem.Spec PyProof.Rows L2
variable {P : Program} {w : World} {K : PySem.W.Frag} {mg : Str → Option Value} {base : Heap}
/-! ### spoilt -/
/-- a list of lists of whole numbers that stands apart: at D, its items new since H0 -/
def Nest (H0 H : Hp) (r D : Addr) (n L : Nat) : Prop := ∃ acc : List V, H D = some (.lst acc) ∧ acc.length ≤ n ∧ ∀ v ∈ acc, ∃ (a : Addr) (ms : List Int), v = .ref a ∧ a ≠ D ∧ a ≠ r ∧ H0 a = none ∧ H a = some (.lst (ms.map V.int)) ∧ ms.length ≤ L
theorem Nest.keep {H0 H H' : Hp} {r D : Addr} {n L : Nat} (h : Nest H0 H r D n L) (nDr : D ≠ r) (s : Sx r H H') : Nest H0 H' r D n L := by
  obtain ⟨acc, hD, hl, ha⟩ := h
  refine ⟨acc, s _ _ nDr hD, hl, fun v hv => ?_⟩
  obtain ⟨a, ms, rfl, h1, h2, h3, h4, h5⟩ := ha v hv
  exact ⟨a, ms, rfl, h1, h2, h3, s _ _ h2 h4, h5⟩
theorem Nest.wide {H0 H : Hp} {r D : Addr} {n L n' L' : Nat} (h : Nest H0 H r D n L) (hn : n ≤ n') (hL : L ≤ L') : Nest H0 H r D n' L' := by
  obtain ⟨acc, hD, hl, ha⟩ := h
  refine ⟨acc, hD, by omega, fun v hv => ?_⟩
  obtain ⟨a, ms, rfl, h1, h2, h3, h4, h5⟩ := ha v hv
  exact ⟨a, ms, rfl, h1, h2, h3, h4, by omega⟩
/-- an inner list is changed -/
theorem Nest.inner {H0 H : Hp} {r D : Addr} {n L L' : Nat} (h : Nest H0 H r D n L) {a : Addr} {ms : List Int} (hL : L ≤ L') (haD : a ≠ D) (har : a ≠ r) (ha0 : H0 a = none) (hm : ms.length ≤ L') : Nest H0 (upd H a (.lst (ms.map V.int))) r D n L' := by
  obtain ⟨acc, hD, hl, ha⟩ := h
  refine ⟨acc, by rw [upd_ne haD.symm]; exact hD, hl, fun v hv => ?_⟩
  obtain ⟨b, ks, rfl, h1, h2, h3, h4, h5⟩ := ha v hv
  by_cases e : b = a
  · subst e
    exact ⟨b, ms, rfl, h1, h2, h3, upd_same, hm⟩
  · exact ⟨b, ks, rfl, h1, h2, h3, by rw [upd_ne e]; exact h4, by omega⟩
/-- the outer list is changed -/
theorem Nest.outer {H0 H : Hp} {r D : Addr} {n L n' L' : Nat} (h : Nest H0 H r D n L) (hL : L ≤ L') {acc' : List V} (hl : acc'.length ≤ n') (hm : ∀ v ∈ acc', (∃ acc, H D = some (.lst acc) ∧ v ∈ acc) ∨ ∃ (a : Addr) (ms : List Int), v = .ref a ∧ a ≠ D ∧ a ≠ r ∧ H0 a = none ∧ H a = some (.lst (ms.map V.int)) ∧ ms.length ≤ L') :
    Nest H0 (upd H D (.lst acc')) r D n' L' := by
  obtain ⟨acc, hD, _, ha⟩ := h
  refine ⟨acc', upd_same, hl, fun v hv => ?_⟩
  rcases hm v hv with ⟨acc2, e, hv2⟩ | ⟨a, ms, rfl, h1, h2, h3, h4, h5⟩
  · rw [hD] at e
    cases e
    obtain ⟨b, ks, rfl, h1, h2, h3, h4, h5⟩ := ha v hv2
    exact ⟨b, ks, rfl, h1, h2, h3, by rw [upd_ne h1]; exact h4, by omega⟩
  · exact ⟨a, ms, rfl, h1, h2, h3, by rw [upd_ne h1]; exact h4, h5⟩
abbrev rTupOf (K : PySem.W.Frag) : List V → Hp → VK → Prop := fun xs H Q => ∃ p ys, xs = [V.ref p] ∧ ((SqL K H p ys ∧ ∀ l, H l = none → Q (V.ref l) (upd H l (.tup ys))) ∨ (SqT K H p ys ∧ Q (V.ref p) H))
abbrev tTups (K : PySem.W.Frag) : TE := tLc (iList K (tVar 3)) (gName 7) tYes (tCB (rTupOf K) (tCons (tVar 7) tNil)) [7]
/-- [tuple(t) for t in found] -/
theorem tups_ok {H0 H : Hp} {r D : Addr} {n L : Nat} (hN : Nest H0 H r D n L) (hn : n ≤ 100000) {y0 y1 y2 y4 y5 y6 y7 : Option V} {Q : VK} (q : ∀ u H' acc ls, Same H H' → H u = none → H' u = some (.lst acc) → Paired (TabV H') acc ls → ls.length ≤ n → (∀ t ∈ ls, t.length ≤ L) → Q (.ref u) H') :
    tTups K [y0, y1, y2, some (.ref D), y4, y5, y6, y7] H Q := by
  obtain ⟨acc, hD, hl, ha⟩ := hN
  refine ⟨.ref D, rfl, D, rfl, ⟨acc, SqL.of hD⟩, fun u nu => ?_⟩
  have big : (100000 : Nat) < sizeLine := by decide
  have s0 : Same H (upd H u (.lst [])) := same_new nu
  refine lc_it (walk_list (xs := acc)) (fun i H2 => Same H H2 ∧ ∃ zs ls, H2 u = some (.lst zs) ∧ Paired (TabV H2) zs ls ∧ ls.length ≤ i ∧ ∀ t ∈ ls, t.length ≤ L) ⟨s0, [], [], upd_same, .nil, Nat.le_refl _, by simp⟩ (fun i H2 _ p => SqL.of (p.1 _ _ hD)) (fun i x H2 H3 hi hI y => ?_) (fun H2 hI => ?_)
  · obtain ⟨rfl, hx⟩ := y
    obtain ⟨sm, zs, ls, hu, hp, hll, hlt⟩ := hI
    obtain ⟨a, ms, rfl, h1, h2, h3, h4, h5⟩ := ha x (List.mem_of_getElem? hx)
    refine ⟨wipe_put (by decide), yesT ?_⟩
    show tCB (rTupOf K) (tCons (tVar 7) tNil) [y0, y1, y2, some (.ref D), y4, y5, y6, some (.ref a)] _ _
    refine ⟨.ref a, rfl, a, _, rfl, .inl ⟨SqL.of (sm _ _ h4), fun T nT => ?_⟩⟩
    have s3 : Same H3 (upd H3 T (.tup (ms.map V.int))) := same_new nT
    have hu3 := s3 _ _ hu
    refine ⟨zs, hu3, ?_, same_put (sm.trans s3) nu, zs ++ [.ref T], ls ++ [ms], upd_same, ?_, ?_, ?_⟩
    · have := paired_len hp
      omega
    · have keepT : ∀ {v : V} {t : Tbl}, TabV (upd H3 T (.tup (ms.map V.int))) v t → TabV (upd (upd H3 T (.tup (ms.map V.int))) u (.lst (zs ++ [.ref T]))) v t := fun {v t} h => by
        obtain ⟨a2, rfl, ha2⟩ := h
        exact ⟨a2, rfl, by rw [upd_ne (ne_of ha2 hu3 (by intro z; cases z))]; exact ha2⟩
      exact paired_snoc (paired_mono (fun v t h => keepT (h.mono (same_toT s3))) hp) (keepT ⟨T, rfl, upd_same⟩)
    · rw [List.length_append, List.length_singleton]
      omega
    · intro t ht
      rcases List.mem_append.mp ht with ht | ht
      · exact hlt t ht
      · rw [List.mem_singleton.mp ht]
        exact h5
  · obtain ⟨sm, zs, ls, hu, hp, hll, hlt⟩ := hI
    exact q u H2 zs ls sm nu hu hp (by omega) hlt
theorem lay_nest : ∀ ls : List (List Int), PyData.canLayAll0 (ls.map fun m => .list (m.map .int)) = true
  | [] => rfl
  | x :: xs => by simp [PyData.canLayAll0, PyData.canLay0, lay_nest xs, layInts]
theorem dep_nest : ∀ ls : List (List Int), PyData.depthAll (ls.map fun m => .list (m.map .int)) ≤ 1
  | [] => by simp [PyData.depthAll]
  | x :: xs => by
    have := dep_nest xs
    have := depInts x
    simp only [List.map_cons, PyData.depthAll, PyData.depth]
    omega
theorem sh_nest (ls : List (List Int)) : SeqAt.shaped (.list (ls.map fun m => .list (m.map .int))) = true := by
  have l := lay_nest ls
  have h := dep_nest ls
  unfold SeqAt.shaped
  rw [Bool.and_eq_true]
  refine ⟨by simp [PyData.canLay0, l], decide_eq_true ?_⟩
  simp only [PyData.depth]
  omega
def LstV (H : Hp) (x : V) (m : List Int) : Prop := ∃ a, x = .ref a ∧ H a = some (.lst (m.map V.int))
theorem nest_paired {H : Hp} : ∀ {acc : List V}, (∀ v ∈ acc, ∃ (a : Addr) (ms : List Int), v = .ref a ∧ H a = some (.lst (ms.map V.int))) → ∃ ls, Paired (LstV H) acc ls
  | [], _ => ⟨[], .nil⟩
  | v :: acc, h => by
    obtain ⟨a, ms, rfl, e⟩ := h v (by simp)
    obtain ⟨ls, p⟩ := nest_paired (acc := acc) fun u hu => h u (by simp [hu])
    exact ⟨ms :: ls, .cons ⟨a, rfl, e⟩ p⟩
theorem dp_lstv {H : Hp} {x : V} {m : List Int} (h : LstV H x m) : Dp K H x (.list (m.map .int)) := by
  obtain ⟨a, rfl, e⟩ := h
  exact .lst (SqL.of e) (dpAll_ints m)
/-- the same, the list told -/
def NestA (H0 H : Hp) (r D : Addr) (lo L : Nat) (acc : List V) : Prop := H D = some (.lst acc) ∧ ∀ v ∈ acc, ∃ (a : Addr) (ms : List Int), v = .ref a ∧ a ≠ D ∧ a ≠ r ∧ H0 a = none ∧ H a = some (.lst (ms.map V.int)) ∧ ms.length ≤ L ∧ lo ≤ ms.length
theorem NestA.keep {H0 H H' : Hp} {r D : Addr} {lo L : Nat} {acc : List V} (h : NestA H0 H r D lo L acc) (nDr : D ≠ r) (s : Sx r H H') : NestA H0 H' r D lo L acc := by
  obtain ⟨hD, ha⟩ := h
  refine ⟨s _ _ nDr hD, fun v hv => ?_⟩
  obtain ⟨a, ms, rfl, h1, h2, h3, h4, h5⟩ := ha v hv
  exact ⟨a, ms, rfl, h1, h2, h3, s _ _ h2 h4, h5⟩
theorem NestA.nest {H0 H : Hp} {r D : Addr} {lo L : Nat} {acc : List V} (h : NestA H0 H r D lo L acc) : Nest H0 H r D acc.length L := by
  obtain ⟨hD, ha⟩ := h
  refine ⟨acc, hD, Nat.le_refl _, fun v hv => ?_⟩
  obtain ⟨a, ms, rfl, h1, h2, h3, h4, h5⟩ := ha v hv
  exact ⟨a, ms, rfl, h1, h2, h3, h4, h5.1⟩
theorem nest_a {H0 H : Hp} {r D : Addr} {n L : Nat} (h : Nest H0 H r D n L) : ∃ acc, NestA H0 H r D 0 L acc ∧ acc.length ≤ n := by
  obtain ⟨acc, hD, hl, ha⟩ := h
  refine ⟨acc, ⟨hD, fun v hv => ?_⟩, hl⟩
  obtain ⟨a, ms, rfl, h1, h2, h3, h4, h5⟩ := ha v hv
  exact ⟨a, ms, rfl, h1, h2, h3, h4, h5, Nat.zero_le _⟩
theorem NestA.at {H0 H : Hp} {r D : Addr} {lo L : Nat} {acc : List V} (h : NestA H0 H r D lo L acc) {v : Int} (h0 : 0 ≤ v) (h1 : v < acc.length) : ∃ (a : Addr) (ms : List Int), atI acc v = some (.ref a) ∧ V.ref a ∈ acc ∧ a ≠ D ∧ a ≠ r ∧ H0 a = none ∧ H a = some (.lst (ms.map V.int)) ∧ ms.length ≤ L ∧ lo ≤ ms.length := by
  have hlt : v.toNat < acc.length := by omega
  have hat : acc[v.toNat]? = some acc[v.toNat] := List.getElem?_eq_getElem hlt
  obtain ⟨a, ms, e, h2⟩ := h.2 _ (List.mem_of_getElem? hat)
  refine ⟨a, ms, ?_, ?_, h2⟩
  · rw [← e]
    exact at_of (show v = ((v.toNat : Nat) : Int) by omega) hat
  · rw [← e]
    exact List.mem_of_getElem? hat
theorem ixN_of {n : Nat} {v : Int} (h0 : 0 ≤ v) (h1 : v < n) : ixN n v = some v.toNat := by
  unfold ixN
  rw [if_pos h0, if_pos (by omega)]
theorem at_int {ms : List Int} {v : Int} (h0 : 0 ≤ v) (h1 : v < ms.length) : ∃ w : Int, atI (ms.map V.int) v = some (.int w) := by
  have hlt : v.toNat < ms.length := by omega
  exact ⟨ms[v.toNat], at_of (show v = ((v.toNat : Nat) : Int) by omega) (int_getElem? (List.getElem?_eq_getElem hlt))⟩
theorem nest_full {H : Hp} {acc : List V} {ls : List (List Int)} (hp : Paired (LstV H) acc ls) (hn : ∀ l ∈ ls, l ≠ []) {a : Addr} {ms : List Int} (hv : V.ref a ∈ acc) (ha : H a = some (.lst (ms.map V.int))) : 1 ≤ ms.length := by
  obtain ⟨i, hi⟩ := List.mem_iff_getElem?.mp hv
  obtain ⟨l, hl, b, e, hb⟩ := paired_getL hp hi
  cases e
  rw [ha] at hb
  have e2 := congrArg List.length (HO.lst.inj (Option.some.inj hb))
  rw [List.length_map, List.length_map] at e2
  have := List.length_pos_iff.mpr (hn l (List.mem_of_getElem? hl))
  omega
theorem scSpoilt : FnScope ["_law_row", "_law_guests", "_law_tables", "_law_found", "_law_way", "_law_k", "_law_j", "_law_table"] ["_law_row", "_law_guests", "_law_tables"] (defScope lSpoilt) := ⟨rfl, rfl, rfl, by decide +kernel, rfl, by decide +kernel, by decide +kernel⟩
def spSpoilt (K : PySem.W.Frag) : Sp := fun vs H Q _ => ∃ (r a : Addr) (ns : List Int) (g : Int) (x : V) (rd : Rnd) (n L : Nat), vs = [.ref r, .int g, x] ∧ RowAt K H r a ns ∧ RndV H x rd ∧ rd.length ≤ n ∧ (∀ t ∈ rd, t.length ≤ L) ∧ n ≤ 1000 ∧ L ≤ 1000 ∧
  ∀ y H' rd', RowAt K H' r a ns → Sx r H H' → RndV H' y rd' → rd'.length ≤ n + 1 → (∀ t ∈ rd', t.length ≤ 2 * L + 1) → Q y H'
theorem ok_spoilt {f fT : Addr} {fd fdT : FuncData} (F : Fun K "_law_spoilt" "_law_spoilt" lSpoilt f fd) (B : Blt mg) (FT : Fun K "_law_taken" "_law_taken" lTaken fT fdT) (bT : Binds K fdT ["_law_row", "_law_many_here"] []) (gT : mg "_law_taken" = some (.ref fT)) : FnOk P w K mg base CX0 2 f fd ["_law_row", "_law_guests", "_law_tables"] (spSpoilt K) := by
  have GT : FnOk P w K mg base CX0 1 fT fdT ["_law_row", "_law_many_here"] (spTaken K) := ok_taken FT B
  refine F.ok scSpoilt (fun vs H Q E h => ?_) (fun cdv A outer s H vs Q E hr h => ?_)
  · obtain ⟨r, a, ns, g, x, rd, n, L, rfl, _⟩ := h
    rfl
  · obtain ⟨r, a, ns, g, x, rd, n, L, rfl, hR, ⟨p, xs, rfl, hp, hxs⟩, hn, hL, hn1, hL1, q⟩ := h
    have hu65 : (A.deeper (envOfC "_law_spoilt" (defScope lSpoilt) s.heap.objs.size f cdv)).units + 65 < cLine := by
      have := hr.un
      omega
    refine ⟨_, pss_cons (ps_setLcN (i := 3) (own := [("_law_table", 7)]) (wi := iTup K (tVar 2)) (t := tCl (gName 7) tYes [7] (bLast (tCB (fun xs H Q => ∃ p ys, xs = [.ref p] ∧ (SqL K H p ys ∨ SqT K H p ys) ∧ ∀ l, H l = none → Q (.ref l) (upd H l (.lst ys))) (tCons (tVar 7) tNil))))
          (by rfl) scSpoilt.nd rfl rfl (sw_true rfl rfl rfl (by decide +kernel)) (pi_tup (pv 2)) (blkOk_by (N := ["_law_row", "_law_guests", "_law_tables", "_law_found", "_law_way", "_law_k", "_law_j", "_law_table"]) (sc := defScope lSpoilt) (by decide +kernel))
          (fun _ _ _ _ _ => pcl_last rfl rfl rfl rfl (pg_name (i := 7) (x := "_law_table") scSpoilt.nd rfl (.inl rfl) (.inr rfl)) pts_nil (pe_callTy call_list_of (by rfl) B.list (by decide +kernel) (pa_cons (pv 7) pa_nil))))
      (pss_cons (ps_set (i := 4) scSpoilt.nd rfl (.inl rfl) (pe_call GT hr (by rfl) gT FT.kp bT .nil pass0 (pa_cons (pv 0) (pa_cons pe_int pa_nil))))
      (pss_cons (ps_if (PW.pt (pw_or (pt_cmpR (op_eqD hr.units) (pv 3) (pe_lst pa_nil) (nomark _)) (pw_or (pt_cmpR (op_inD hu65) (pe_lst pa_nil) (pv 3) rfl) (pw_or1 (pt_cmpR op_eq (pv 4) pe_int (nomark _))))))
        (pss_one (ps_ret (pe_callTy call_tuple_of (by rfl) B.tuple (by decide +kernel) (pa_cons (pe_op op_cat (pe_lc (own := [("_law_table", 7)]) (g := gName 7) (tt := tYes) (te := tCB (rTupOf K) (tCons (tVar 7) tNil)) (by rfl) scSpoilt.nd (pi_list (pv 3))
            (blkOk_by (N := ["_law_row", "_law_guests", "_law_tables", "_law_found", "_law_way", "_law_k", "_law_j", "_law_table"]) (sc := defScope lSpoilt) (by decide +kernel)) (fun _ _ _ _ _ => pg_name (i := 7) (x := "_law_table") scSpoilt.nd rfl (.inl rfl) (.inr rfl)) (fun _ _ _ _ _ => pts_nil)
            (fun _ _ _ _ _ => pe_callTy call_tuple_of (by rfl) B.tuple (by decide +kernel) (pa_cons (pv 7) pa_nil))) (pe_lst (pa_cons (pe_tup pa_nil) pa_nil))) pa_nil)))) pss_nil)
      (pss_cons (ps_set (i := 5) scSpoilt.nd rfl (.inl rfl) (pe_call GT hr (by rfl) gT FT.kp bT .nil pass0 (pa_cons (pv 0) (pa_cons (pe_callB call_len_seq (by rfl) B.len PySem.boot_len (pa_cons (pv 3) pa_nil)) pa_nil))))
      (pss_cons (ps_set (i := 6) scSpoilt.nd rfl (.inl rfl) (pe_call GT hr (by rfl) gT FT.kp bT .nil pass0 (pa_cons (pv 0) (pa_cons (pe_callB call_len_seq (by rfl) B.len PySem.boot_len (pa_cons (pe_ix ix_list (pv 3) (pv 5) (fun _ _ => rfl)) pa_nil)) pa_nil))))
      (pss_cons (ps_if (pt_cmpR op_eq (pv 4) pe_int (nomark _))
          (pss_one (ps_asg (pe_ix ix_list (pe_lst (pa_cons (pe_op op_sub pe_int pe_int) (pa_cons (pv 1) (pa_cons (pe_op op_sub (pv 1) pe_int) (pa_cons pe_int pa_nil))))) (pe_call GT hr (by rfl) gT FT.kp bT .nil pass0 (pa_cons (pv 0) (pa_cons pe_int pa_nil))) (fun _ _ => rfl)) (pg_sub (pe_ix ix_list (pv 3) (pv 5) (fun _ _ => rfl)) (pv 6) set_list)))
        (pss_one (ps_if (pt_cmpR op_eq (pv 4) pe_int (nomark _))
          (pss_one (ps_expr (pe_bm PySem.F.plainAttrs_list PySem.F.slot_list_append PySem.F.type_list_append mt_append (pe_ix ix_list (pv 3) (pv 5) (fun _ _ => rfl)) (pa_cons (pe_ix ix_list (pe_ix ix_list (pv 3) (pe_call GT hr (by rfl) gT FT.kp bT .nil pass0 (pa_cons (pv 0) (pa_cons (pe_callB call_len_seq (by rfl) B.len PySem.boot_len (pa_cons (pv 3) pa_nil)) pa_nil))) (fun _ _ => rfl)) pe_int (fun _ _ => rfl)) pa_nil))))
        (pss_one (ps_if (pt_cmpR op_eq (pv 4) pe_int (nomark _))
          (pss_one (ps_expr (pe_bm PySem.F.plainAttrs_list PySem.F.slot_list_append PySem.F.type_list_append mt_append (pv 3) (pa_cons (pe_callTy call_list_of (by rfl) B.list (by decide +kernel) (pa_cons (pe_ix ix_list (pv 3) (pv 5) (fun _ _ => rfl)) pa_nil)) pa_nil))))
        (pss_one (ps_if (pt_cmpR op_eq (pv 4) pe_int (nomark _))
          (pss_one (ps_expr (pe_bm0 PySem.F.plainAttrs_list PySem.F.slot_list_reverse PySem.F.type_list_reverse mt_reverse (pe_ix ix_list (pv 3) (pv 5) (fun _ _ => rfl)))))
        (pss_one (ps_if (pt_cmpR op_eq (pv 4) pe_int (nomark _))
          (pss_one (ps_expr (pe_bm0 PySem.F.plainAttrs_list PySem.F.slot_list_reverse PySem.F.type_list_reverse mt_reverse (pv 3))))
        (pss_one (ps_if (pt_cmpR op_eq (pv 4) pe_int (nomark _))
          (pss_one (ps_asg (pe_op op_cat (pe_ix ix_list (pv 3) (pv 5) (fun _ _ => rfl)) (pe_ix ix_list (pv 3) (pe_call GT hr (by rfl) gT FT.kp bT .nil pass0 (pa_cons (pv 0) (pa_cons (pe_callB call_len_seq (by rfl) B.len PySem.boot_len (pa_cons (pv 3) pa_nil)) pa_nil))) (fun _ _ => rfl))) (pg_sub (pv 3) (pv 5) set_list)))
          (pss_one (ps_expr (pe_bm PySem.F.plainAttrs_list PySem.F.slot_list_pop PySem.F.type_list_pop mt_popAt (pe_ix ix_list (pv 3) (pv 5) (fun _ _ => rfl)) (pa_cons (pv 6) pa_nil)))))))))))))))
      (pss_one (ps_ret (pe_callTy call_tuple_of (by rfl) B.tuple (by decide +kernel) (pa_cons (pe_lc (own := [("_law_table", 7)]) (g := gName 7) (tt := tYes) (te := tCB (rTupOf K) (tCons (tVar 7) tNil)) (by rfl) scSpoilt.nd (pi_list (pv 3))
            (blkOk_by (N := ["_law_row", "_law_guests", "_law_tables", "_law_found", "_law_way", "_law_k", "_law_j", "_law_table"]) (sc := defScope lSpoilt) (by decide +kernel)) (fun _ _ _ _ _ => pg_name (i := 7) (x := "_law_table") scSpoilt.nd rfl (.inl rfl) (.inr rfl)) (fun _ _ _ _ _ => pts_nil)
            (fun _ _ _ _ _ => pe_callTy call_tuple_of (by rfl) B.tuple (by decide +kernel) (pa_cons (pv 7) pa_nil))) pa_nil))))))))), ?_⟩
    have hxl := paired_len hxs
    have big : (100000 : Nat) < sizeLine := by decide
    obtain ⟨xr0, hxr0⟩ := hR.lst
    refine ⟨.ref p, rfl, p, rfl, ⟨_, SqT.of hp⟩, fun D nD => ?_⟩
    have nDr : D ≠ r := fun e => by
      rw [e, hxr0] at nD
      cases nD
    have s0 : Same H (upd H D (.lst [])) := same_new nD
    show tCl (gName 7) tYes [7] _ _ D [some (.ref r), some (.int g), some (.ref p), none, none, none, none, none] _ _
    refine cl_it (walk_tup (xs := xs)) (fun i H2 => Same H H2 ∧ Nest H H2 r D i L) ⟨s0, [], upd_same, Nat.le_refl _, by simp⟩ (fun i H2 _ p => SqT.of (p.1 _ _ hp)) (fun i x H2 H3 hi hI y => ?_) (fun H2 hI => ?_)
    · obtain ⟨rfl, hx⟩ := y
      obtain ⟨t, ht, b, rfl, hb⟩ := paired_getL hxs hx
      obtain ⟨sm, acc, hD, hl, ha⟩ := hI
      refine ⟨wipe_put (by decide), yesT ?_⟩
      show bLast _ D [some (.ref r), some (.int g), some (.ref p), none, none, none, none, some (.ref b)] _ _
      refine ⟨.ref b, rfl, b, _, rfl, .inr (SqT.of (sm _ _ hb)), fun c nc => ?_⟩
      have s1 : Same H3 (upd H3 c (.lst (t.map V.int))) := same_new nc
      have hD1 := s1 _ _ hD
      have ncD : c ≠ D := (ne_of_none hD nc).symm
      have ncr : c ≠ r := (ne_of_none (sm _ _ hxr0) nc).symm
      refine ⟨acc, hD1, by omega, same_put (sm.trans s1) nD, acc ++ [.ref c], upd_same, by rw [List.length_append, List.length_singleton]; omega, fun v hv => ?_⟩
      rcases List.mem_append.mp hv with hv | hv
      · obtain ⟨a2, ms, rfl, h1, h2, h3, h4, h5⟩ := ha v hv
        exact ⟨a2, ms, rfl, h1, h2, h3, by rw [upd_ne h1]; exact s1 _ _ h4, h5⟩
      · rw [List.mem_singleton.mp hv]
        exact ⟨c, t, rfl, ncD, ncr, sm.free nc, by rw [upd_ne ncD]; exact upd_same, hL t (List.mem_of_getElem? ht)⟩
    obtain ⟨sm2, hN2⟩ := hI
    have hN2 := hN2.wide (show xs.length ≤ n by omega) (Nat.le_refl L)
    -- way = taken(row, 8)
    refine ⟨.ref r, rfl, r, a, ns, 8, rfl, hR.keep sm2, by decide, by decide, fun wv H3 w0 w1 R3 s3 => ?_⟩
    have hN3 := hN2.keep nDr s3
    have sx3 : Sx r H H3 := (same_sx sm2).trans s3
    have T3 : SameT H H3 := sx3.toT hxr0
    -- the early end
    have early : ∀ H4, Same H3 H4 → tCB (rTupOf K) (tCons (tOp rCat (tTups K) (tLst (tCons (tTup tNil) tNil))) tNil) [some (.ref r), some (.int g), some (.ref p), some (.ref D), some (.int wv), none, none, none] H4 Q := fun H4 s4 => by
      dsimp only [tCB, tCons, tOp, tNil]
      refine tups_ok (hN3.keep nDr (same_sx s4)) (by omega) fun u H5 acc ls s5 nu hu hp5 hl5 ht5 => ?_
      refine ⟨Nat.zero_le _, fun T nT => ⟨by show 1 ≤ sizeLine; decide, fun l2 nl2 => ?_⟩⟩
      have s6 : Same H5 (upd H5 T (.tup [])) := same_new nT
      have s7 := s6.trans (same_new (o := .lst [.ref T]) nl2)
      have hT7 := (same_new (o := .lst [.ref T]) nl2) _ _ (upd_same : (upd H5 T (.tup [])) T = _)
      have hpl := paired_len hp5
      refine ⟨u, l2, acc, [.ref T], rfl, rfl, s7 _ _ hu, upd_same, by rw [List.length_singleton]; omega, fun q2 nq2 => ?_⟩
      have s8 := s7.trans (same_new (o := .lst (acc ++ [.ref T])) nq2)
      have hT8 := (same_new (o := .lst (acc ++ [.ref T])) nq2) _ _ hT7
      refine ⟨q2, _, rfl, .inl ⟨SqL.of upd_same, fun t nt => ?_⟩⟩
      have s9 := s8.trans (same_new (o := .tup (acc ++ [.ref T])) nt)
      have sall := (s4.trans s5).trans s9
      refine q _ _ (ls ++ [[]]) (R3.keep sall) (sx3.trans (same_sx sall)) ⟨t, _, rfl, upd_same, ?_⟩ (by rw [List.length_append, List.length_singleton]; omega) (fun t ht => ?_)
      · exact paired_snoc (paired_mono (fun _ _ h => h.mono (same_toT s9)) hp5) ⟨T, rfl, (same_new (o := .tup (acc ++ [.ref T])) nt) _ _ hT8⟩
      · rcases List.mem_append.mp ht with ht | ht
        · have := ht5 t ht
          omega
        · rw [List.mem_singleton.mp ht]
          simp
    obtain ⟨acc, hA3, hal⟩ := nest_a hN3
    -- found == []
    obtain ⟨ls, hls⟩ := nest_paired (H := H3) (acc := acc) fun v hv => by
      obtain ⟨a2, ms, e, _, _, _, h4, _⟩ := hA3.2 v hv
      exact ⟨a2, ms, e, h4⟩
    have hlsl := paired_len hls
    have eqE : ∀ zs : List (List Int), PyData.eqv (.list (zs.map fun m => .list (m.map .int))) (.list []) = zs.isEmpty := fun zs => by
      cases zs <;> simp [PyData.eqv, PyData.eqvAll]
    refine ⟨.ref D, rfl, Nat.zero_le _, fun e1 ne1 => ?_⟩
    have s4 : Same H3 (upd H3 e1 (.lst [])) := same_new ne1
    refine ⟨.list (ls.map fun m => .list (m.map .int)), .list [], dp_lst (fun _ _ h => dp_lstv h) (SqL.of (s4 _ _ hA3.1)) (paired_mono (fun _ _ ⟨b, e, h⟩ => ⟨b, e, s4 _ _ h⟩) hls), .lst (SqL.of upd_same) .nil, sh_nest ls, shNil, _, rfl, ite2 (fun hc1 => ?_) (fun hc1 => ?_)⟩
    · exact early _ s4
    rw [eqE] at hc1
    -- [] in found
    refine ⟨Nat.zero_le _, fun e2 ne2 => ?_⟩
    have s5 := s4.trans (same_new (o := .lst []) ne2)
    refine ⟨.ref D, rfl, .list [], ls.map fun m => .list (m.map .int), .lst (SqL.of upd_same) .nil, dp_lst (fun _ _ h => dp_lstv h) (SqL.of (s5 _ _ hA3.1)) (paired_mono (fun _ _ ⟨b, e, h⟩ => ⟨b, e, s5 _ _ h⟩) hls), shNil, sh_nest ls, _, rfl, ite2 (fun hc2 => ?_) (fun hc2 => ?_)⟩
    · exact early _ s5
    have hfull : ∀ m ∈ ls, m ≠ [] := fun m hm e => by
      apply hc2
      refine List.any_eq_true.mpr ⟨.list (m.map .int), List.mem_map.mpr ⟨m, hm, rfl⟩, ?_⟩
      rw [e]
      simp [PyData.eqv, PyData.eqvAll]
    refine ⟨.int wv, rfl, rfl, _, rfl, ite2 (fun hc3 => ?_) (fun hc3 => ?_)⟩
    · exact early _ s5
    have hA5 : NestA H (upd (upd H3 e1 (.lst [])) e2 (.lst [])) r D 1 L acc := by
      refine ⟨s5 _ _ hA3.1, fun v hv => ?_⟩
      obtain ⟨a2, ms, e, h1, h2, h3, h4, h5, _⟩ := hA3.2 v hv
      refine ⟨a2, ms, e, h1, h2, h3, s5 _ _ h4, h5, ?_⟩
      rw [e] at hv
      exact nest_full hls hfull hv h4
    have hacc : 1 ≤ acc.length := by
      cases ls with
      | nil => exact absurd rfl hc1
      | cons l0 ls => rw [hlsl]; simp
    have R5 := R3.keep s5
    have sx5 := sx3.trans (same_sx s5)
    generalize (upd (upd H3 e1 (.lst [])) e2 (.lst [])) = H5 at hA5 R5 sx5
    -- k = taken(row, len(found))
    refine ⟨.ref r, rfl, .ref D, rfl, D, acc, rfl, .inl (SqL.of hA5.1), r, a, ns, _, rfl, R5, by omega, by omega, fun kv H6 k0 k1 R6 s6 => ?_⟩
    have hA6 := hA5.keep nDr s6
    obtain ⟨b, ms, hat, hmem, hbD, hbr, hb0, hb, hmL, hm1⟩ := hA6.at k0 k1
    -- j = taken(row, len(found[k]))
    refine ⟨.ref r, rfl, .ref D, rfl, .int kv, rfl, D, acc, kv, .ref b, rfl, rfl, SqL.of hA6.1, hat, b, _, rfl, .inl (SqL.of hb), r, a, ns, _, rfl, R6, by rw [List.length_map]; omega, by rw [List.length_map]; omega, fun jv H7 j0 j1 R7 s7 => ?_⟩
    rw [List.length_map] at j1
    have hA7 := hA6.keep nDr s7
    have hb7 := s7 _ _ hbr hb
    have sx7 := (sx5.trans s6).trans s7
    -- the end, from any spoilt list
    have fin : ∀ H8, RowAt K H8 r a ns → Sx r H H8 → Nest H H8 r D (n + 1) (2 * L + 1) → tCB (rTupOf K) (tCons (tTups K) tNil) [some (.ref r), some (.int g), some (.ref p), some (.ref D), some (.int wv), some (.int kv), some (.int jv), none] H8 Q := fun H8 R8 sx8 hN8 => by
      dsimp only [tCB, tCons, tNil]
      refine tups_ok hN8 (by omega) fun u H9 acc ls s9 nu hu hp9 hl9 ht9 => ?_
      refine ⟨u, _, rfl, .inl ⟨SqL.of hu, fun t nt => ?_⟩⟩
      have s10 := s9.trans (same_new (o := .tup acc) nt)
      exact q _ _ ls (R8.keep s10) (sx8.trans (same_sx s10)) ⟨t, _, rfl, upd_same, paired_mono (fun _ _ h => h.mono (same_toT (same_new nt))) hp9⟩ hl9 ht9
    have hN7 : Nest H H7 r D n L := hA7.nest.wide hal (Nat.le_refl _)
    refine ⟨.int wv, rfl, rfl, _, rfl, ite2 (fun _ => ?_) (fun _ => ?_)⟩
    · -- found[k][j] = ..
      refine ⟨0, 1, rfl, rfl, .int g, rfl, .int g, rfl, g, 1, rfl, rfl, by show 4 ≤ sizeLine; decide, fun l nl => ?_⟩
      have s8 : Same H7 (upd H7 l (.lst [.int (0 - 1), .int g, .int (g - 1), .int 0])) := same_new nl
      refine ⟨.ref r, rfl, r, a, ns, 4, rfl, R7.keep s8, by decide, by decide, fun u H9 u0 u1 R9 s9 => ?_⟩
      obtain ⟨xr7, hxr7⟩ := R7.lst
      have nlr : l ≠ r := (ne_of_none hxr7 nl).symm
      obtain ⟨wn, hw⟩ : ∃ wn : Int, atI [V.int (0 - 1), V.int g, V.int (g - 1), V.int 0] u = some (.int wn) := at_int (ms := [0 - 1, g, g - 1, 0]) u0 u1
      have sx9 : Sx r H7 H9 := (same_sx s8).trans s9
      have hb9 := sx9 _ _ hbr hb7
      refine ⟨l, _, u, .int wn, rfl, rfl, SqL.of (s9 _ _ nlr upd_same), hw, .ref D, rfl, .int kv, rfl, D, acc, kv, .ref b, rfl, rfl, SqL.of (sx9 _ _ nDr hA7.1), hat, .int jv, rfl, b, _, jv, jv.toNat, rfl, rfl, hb9, ixN_of j0 (by rw [List.length_map]; exact j1), ?_⟩
      have em : (ms.map V.int).set jv.toNat (.int wn) = (ms.set jv.toNat wn).map V.int := by rw [List.map_set]
      rw [em]
      exact fin _ (row_put hR hb0 R9) (sx_put (sx7.trans sx9) hb0) (((hN7.keep nDr sx9).inner (L' := 2 * L + 1) (by omega) hbD hbr hb0 (by rw [List.length_set]; omega)).wide (by omega) (Nat.le_refl _))
    refine ⟨.int wv, rfl, rfl, _, rfl, ite2 (fun _ => ?_) (fun _ => ?_)⟩
    · -- found[k].append(found[..][0])
      refine ⟨.ref D, rfl, .int kv, rfl, D, acc, kv, .ref b, rfl, rfl, SqL.of hA7.1, hat, .inl ⟨rfl, _, SqL.of hb7⟩, .ref D, rfl, .ref r, rfl, .ref D, rfl, D, acc, rfl, .inl (SqL.of hA7.1), r, a, ns, _, rfl, R7, by omega, by omega, fun u H9 u0 u1 R9 s9 => ?_⟩
      have hA9 := hA7.keep nDr s9
      obtain ⟨b2, ms2, hat2, _, _, _, _, hb2, _, hm2⟩ := hA9.at u0 u1
      obtain ⟨wn, hw⟩ := at_int (ms := ms2) (v := 0) (by decide) (by omega)
      have hb9 := s9 _ _ hbr hb7
      refine ⟨D, acc, u, .ref b2, rfl, rfl, SqL.of hA9.1, hat2, b2, _, 0, .int wn, rfl, rfl, SqL.of hb2, hw, b, _, _, rfl, rfl, hb9, by rw [List.length_map]; omega, ?_⟩
      have em : ms.map V.int ++ [.int wn] = (ms ++ [wn]).map V.int := by rw [List.map_append]; rfl
      rw [em]
      exact fin _ (row_put hR hb0 R9) (sx_put (sx7.trans s9) hb0) (((hN7.keep nDr s9).inner (L' := 2 * L + 1) (by omega) hbD hbr hb0 (by rw [List.length_append, List.length_singleton]; omega)).wide (by omega) (Nat.le_refl _))
    refine ⟨.int wv, rfl, rfl, _, rfl, ite2 (fun _ => ?_) (fun _ => ?_)⟩
    · -- found.append(list(found[k]))
      refine ⟨.ref D, rfl, .inl ⟨rfl, _, SqL.of hA7.1⟩, .ref D, rfl, .int kv, rfl, D, acc, kv, .ref b, rfl, rfl, SqL.of hA7.1, hat, b, _, rfl, .inl (SqL.of hb7), fun l nl => ?_⟩
      have s8 : Same H7 (upd H7 l (.lst (ms.map V.int))) := same_new nl
      obtain ⟨xr7, hxr7⟩ := R7.lst
      have nlr : l ≠ r := (ne_of_none hxr7 nl).symm
      have nlD : l ≠ D := (ne_of_none hA7.1 nl).symm
      have hl0 : H l = none := by
        cases e : H l with
        | none => rfl
        | some o =>
          rw [sx7 _ _ nlr e] at nl
          cases nl
      refine ⟨D, acc, _, rfl, rfl, s8 _ _ hA7.1, by omega, ?_⟩
      exact fin _ (row_put hR nD (R7.keep s8)) (sx_put (sx7.trans (same_sx s8)) nD) ((hN7.keep nDr (same_sx s8)).outer (n' := n + 1) (L' := 2 * L + 1) (by omega) (by rw [List.length_append, List.length_singleton]; omega) fun v hv => by
        rcases List.mem_append.mp hv with hv | hv
        · exact .inl ⟨acc, s8 _ _ hA7.1, hv⟩
        · rw [List.mem_singleton.mp hv]
          exact .inr ⟨l, ms, rfl, nlD, nlr, hl0, upd_same, by omega⟩)
    refine ⟨.int wv, rfl, rfl, _, rfl, ite2 (fun _ => ?_) (fun _ => ?_)⟩
    · -- found[k].reverse()
      refine ⟨.ref D, rfl, .int kv, rfl, D, acc, kv, .ref b, rfl, rfl, SqL.of hA7.1, hat, .inl ⟨rfl, _, SqL.of hb7⟩, b, _, rfl, rfl, hb7, ?_⟩
      have em : (ms.map V.int).reverse = ms.reverse.map V.int := by rw [List.map_reverse]
      rw [em]
      exact fin _ (row_put hR hb0 R7) (sx_put sx7 hb0) ((hN7.inner (L' := 2 * L + 1) (by omega) hbD hbr hb0 (by rw [List.length_reverse]; omega)).wide (by omega) (Nat.le_refl _))
    refine ⟨.int wv, rfl, rfl, _, rfl, ite2 (fun _ => ?_) (fun _ => ?_)⟩
    · -- found.reverse()
      refine ⟨.ref D, rfl, .inl ⟨rfl, _, SqL.of hA7.1⟩, D, acc, rfl, rfl, hA7.1, ?_⟩
      exact fin _ (row_put hR nD R7) (sx_put sx7 nD) (hN7.outer (n' := n + 1) (L' := 2 * L + 1) (by omega) (by rw [List.length_reverse]; omega) fun v hv => .inl ⟨acc, hA7.1, List.mem_reverse.mp hv⟩)
    refine ⟨.int wv, rfl, rfl, _, rfl, ite2 (fun _ => ?_) (fun _ => ?_)⟩
    · -- found[k] = found[k] + found[..]
      refine ⟨.ref D, rfl, .int kv, rfl, D, acc, kv, .ref b, rfl, rfl, SqL.of hA7.1, hat, .ref D, rfl, .ref r, rfl, .ref D, rfl, D, acc, rfl, .inl (SqL.of hA7.1), r, a, ns, _, rfl, R7, by omega, by omega, fun u H9 u0 u1 R9 s9 => ?_⟩
      have hA9 := hA7.keep nDr s9
      obtain ⟨b2, ms2, hat2, _, _, _, _, hb2, hm2L, hm2⟩ := hA9.at u0 u1
      have hb9 := s9 _ _ hbr hb7
      refine ⟨D, acc, u, .ref b2, rfl, rfl, SqL.of hA9.1, hat2, b, b2, _, _, rfl, rfl, hb9, hb2, by rw [List.length_map, List.length_map]; omega, fun l nl => ?_⟩
      have em : ms.map V.int ++ ms2.map V.int = (ms ++ ms2).map V.int := by rw [List.map_append]
      rw [em]
      have s10 : Same H9 (upd H9 l (.lst ((ms ++ ms2).map V.int))) := same_new nl
      obtain ⟨xr9, hxr9⟩ := R9.lst
      have nlr : l ≠ r := (ne_of_none hxr9 nl).symm
      have nlD : l ≠ D := (ne_of_none hA9.1 nl).symm
      have sx9 := sx7.trans s9
      have hl0 : H l = none := by
        cases e : H l with
        | none => rfl
        | some o =>
          rw [sx9 _ _ nlr e] at nl
          cases nl
      refine ⟨.ref D, rfl, .int kv, rfl, D, acc, kv, kv.toNat, rfl, rfl, s10 _ _ hA9.1, ixN_of k0 k1, ?_⟩
      exact fin _ (row_put hR nD (R9.keep s10)) (sx_put (sx9.trans (same_sx s10)) nD) (((hN7.keep nDr s9).keep nDr (same_sx s10)).outer (n' := n + 1) (L' := 2 * L + 1) (by omega) (by rw [List.length_set]; omega) fun v hv => by
        rcases List.mem_or_eq_of_mem_set hv with hv | rfl
        · exact .inl ⟨acc, s10 _ _ hA9.1, hv⟩
        · exact .inr ⟨l, ms ++ ms2, rfl, nlD, nlr, hl0, upd_same, by rw [List.length_append]; omega⟩)
    · -- found[k].pop(j)
      refine ⟨.ref D, rfl, .int kv, rfl, D, acc, kv, .ref b, rfl, rfl, SqL.of hA7.1, hat, .inl ⟨rfl, _, SqL.of hb7⟩, .int jv, rfl, b, _, jv, jv.toNat, _, rfl, rfl, hb7, by omega, by omega, seqIx j0 j1, int_getElem? (List.getElem?_eq_getElem (show jv.toNat < ms.length by omega)), ?_⟩
      rw [erase_map]
      have hel := List.length_eraseIdx_le ms jv.toNat
      exact fin _ (row_put hR hb0 R7) (sx_put sx7 hb0) ((hN7.inner (L' := 2 * L + 1) (by omega) hbD hbr hb0 (by omega)).wide (by omega) (Nat.le_refl _))
end Nf

set_option Elab.async false
set_option linter.all false
set_option maxRecDepth 100000
set_option maxHeartbeats 4000000
namespace Nf
open PySem PySem.Spec PyProof.Rows L2
variable {P : Program} {w : World} {K : PySem.W.Frag} {mg : Str → Option Value} {base : Heap}
/-! ### alike, of what a verdict is -/
theorem scAlike : FnScope ["_law_found", "_law_due_here", "_law_k"] ["_law_found", "_law_due_here"] (defScope lAlike) := ⟨rfl, rfl, rfl, by decide +kernel, rfl, by decide +kernel, by decide +kernel⟩
theorem rd_isi {K : PySem.W.Frag} {H : Hp} {Q : VK} {x : V} {a b : String} {r : Bool} (ty : TyX K H x (.type a)) (h : kitB a b = some r) (q : Q (.bl r) H) : rIsi K [x, .ty b] H Q :=
  ⟨x, .ty b, .type a, .type b, r, rfl, .ty b, ty, kit_ty h, q⟩
theorem kNT : kitB "NoneType" "tuple" = some false := by decide +kernel
theorem kNL : kitB "NoneType" "list" = some false := by decide +kernel
theorem kIT : kitB "int" "tuple" = some false := by decide +kernel
theorem kIL : kitB "int" "list" = some false := by decide +kernel
theorem kIB : kitB "int" "bool" = some false := by decide +kernel
theorem kIS : kitB "int" "str" = some false := by decide +kernel
theorem kII : kitB "int" "int" = some true := by decide +kernel
theorem kST : kitB "str" "tuple" = some false := by decide +kernel
theorem kSL : kitB "str" "list" = some false := by decide +kernel
theorem kSB : kitB "str" "bool" = some false := by decide +kernel
theorem kSS : kitB "str" "str" = some true := by decide +kernel
theorem kTT : kitB "tuple" "tuple" = some true := by decide +kernel
theorem kTL : kitB "tuple" "list" = some false := by decide +kernel
def Flat : V → Prop := fun x => x = .non ∨ (∃ i, x = .int i) ∨ ∃ s, x = .str s
def spAlike1 : Sp := fun vs H Q _ => ∃ x : V, vs = [x, x] ∧ Flat x ∧ Q (.bl true) H
theorem ok_alike1 {f : Addr} {fd : FuncData} (F : Fun K "_law_alike" "_law_alike" lAlike f fd) (B : Blt mg) : FnOk P w K mg base CX0 1 f fd ["_law_found", "_law_due_here"] spAlike1 := by
  refine F.ok scAlike (fun vs H Q E h => ?_) (fun cdv A outer s H vs Q E hr h => ?_)
  · obtain ⟨x, rfl, _⟩ := h
    rfl
  · obtain ⟨x, rfl, hf, q⟩ := h
    refine ⟨_, pss_cons (ps_if (PW.pt (pw_or (pt_val (pe_callB call_isi (by rfl) B.isinstance (by decide +kernel) (pa_cons (pv 1) (pa_cons (pe_bltn (v := .ty "tuple") (by rfl) B.tuple (by decide +kernel) rfl) pa_nil))))
          (pw_or1 (pt_val (pe_callB call_isi (by rfl) B.isinstance (by decide +kernel) (pa_cons (pv 1) (pa_cons (pe_bltn (v := .ty "list") (by rfl) B.list (by decide +kernel) rfl) pa_nil))))))) pss_never pss_nil)
      (pss_cons (ps_if (PW.pt (pw_or (pt_cmpR op_isN (pv 1) pe_non (nomark _)) (pw_or1 (pt_cmpR op_isN (pv 0) pe_non (nomark _)))))
        (pss_one (ps_ret (pe_and (pe_cmpR op_isN (pv 1) pe_non (nomark _)) (pe_one (pe_cmpR op_isN (pv 0) pe_non (nomark _)))))) pss_nil)
      (pss_cons (ps_if (PW.pt (pw_or (pt_val (pe_callB call_isi (by rfl) B.isinstance (by decide +kernel) (pa_cons (pv 1) (pa_cons (pe_bltn (v := .ty "bool") (by rfl) B.bool (by decide +kernel) rfl) pa_nil))))
          (pw_or1 (pt_val (pe_callB call_isi (by rfl) B.isinstance (by decide +kernel) (pa_cons (pv 0) (pa_cons (pe_bltn (v := .ty "bool") (by rfl) B.bool (by decide +kernel) rfl) pa_nil))))))) pss_never pss_nil)
      (pss_cons (ps_if (pt_val (pe_callB call_isi (by rfl) B.isinstance (by decide +kernel) (pa_cons (pv 1) (pa_cons (pe_bltn (v := .ty "str") (by rfl) B.str (by decide +kernel) rfl) pa_nil))))
        (pss_one (ps_ret (pe_and (pe_callB call_isi (by rfl) B.isinstance (by decide +kernel) (pa_cons (pv 0) (pa_cons (pe_bltn (v := .ty "str") (by rfl) B.str (by decide +kernel) rfl) pa_nil))) (pe_one (pe_cmpR op_eq (pv 0) (pv 1) (nomark _)))))) pss_nil)
      (pss_one (ps_ret (pe_and (pe_callB call_isi (by rfl) B.isinstance (by decide +kernel) (pa_cons (pv 0) (pa_cons (pe_bltn (v := .ty "int") (by rfl) B.int (by decide +kernel) rfl) pa_nil))) (pe_one (pe_cmpR op_eq (pv 0) (pv 1) (nomark _))))))))), ?_⟩
    rcases hf with rfl | ⟨i, rfl⟩ | ⟨y, rfl⟩
    · refine ⟨.non, rfl, _, _, _, _, _, rfl, .ty _, (.base .non), kit_ty kNT, ⟨_, rfl, iteF ⟨.non, rfl, _, _, _, _, _, rfl, .ty _, (.base .non), kit_ty kNL, ⟨_, rfl, iteF ?_⟩⟩⟩⟩
      refine ⟨.non, rfl, rfl, _, rfl, iteT (iteT ?_)⟩
      exact ⟨.non, rfl, rfl, _, rfl, iteT ⟨.non, rfl, rfl, q⟩⟩
    · refine ⟨.int i, rfl, _, _, _, _, _, rfl, .ty _, (.base (.int i)), kit_ty kIT, ⟨_, rfl, iteF ⟨.int i, rfl, _, _, _, _, _, rfl, .ty _, (.base (.int i)), kit_ty kIL, ⟨_, rfl, iteF ?_⟩⟩⟩⟩
      refine ⟨.int i, rfl, rfl, _, rfl, iteF ⟨.int i, rfl, rfl, _, rfl, iteF ?_⟩⟩
      refine ⟨.int i, rfl, _, _, _, _, _, rfl, .ty _, (.base (.int i)), kit_ty kIB, ⟨_, rfl, iteF ⟨.int i, rfl, _, _, _, _, _, rfl, .ty _, (.base (.int i)), kit_ty kIB, ⟨_, rfl, iteF ?_⟩⟩⟩⟩
      refine ⟨.int i, rfl, _, _, _, _, _, rfl, .ty _, (.base (.int i)), kit_ty kIS, ⟨_, rfl, iteF ?_⟩⟩
      refine ⟨.int i, rfl, _, _, _, _, _, rfl, .ty _, (.base (.int i)), kit_ty kII, ⟨_, rfl, iteT ⟨.int i, rfl, .int i, rfl, rfl, ?_⟩⟩⟩
      rw [decide_eq_true rfl]
      exact q
    · refine ⟨.str y, rfl, _, _, _, _, _, rfl, .ty _, (.base (.str y)), kit_ty kST, ⟨_, rfl, iteF ⟨.str y, rfl, _, _, _, _, _, rfl, .ty _, (.base (.str y)), kit_ty kSL, ⟨_, rfl, iteF ?_⟩⟩⟩⟩
      refine ⟨.str y, rfl, rfl, _, rfl, iteF ⟨.str y, rfl, rfl, _, rfl, iteF ?_⟩⟩
      refine ⟨.str y, rfl, _, _, _, _, _, rfl, .ty _, (.base (.str y)), kit_ty kSB, ⟨_, rfl, iteF ⟨.str y, rfl, _, _, _, _, _, rfl, .ty _, (.base (.str y)), kit_ty kSB, ⟨_, rfl, iteF ?_⟩⟩⟩⟩
      refine ⟨.str y, rfl, _, _, _, _, _, rfl, .ty _, (.base (.str y)), kit_ty kSS, ⟨_, rfl, iteT ?_⟩⟩
      refine ⟨.str y, rfl, _, _, _, _, _, rfl, .ty _, (.base (.str y)), kit_ty kSS, ⟨_, rfl, iteT ⟨.str y, rfl, .str y, rfl, rfl, ?_⟩⟩⟩
      rw [decide_eq_true rfl]
      exact q
def SamV (H : Hp) (x y : V) : Prop := (x = .non ∧ y = .non) ∨ ∃ (p q : Addr) (us : List V), x = .ref p ∧ y = .ref q ∧ H p = some (.tup us) ∧ H q = some (.tup us) ∧ us.length ≤ 5 ∧ ∀ u ∈ us, Flat u
theorem verd_sam {H : Hp} {x y : V} {v : Verd} (h : VerdV H x v) (h' : VerdV H y v) : SamV H x y := by
  cases v with
  | good => exact .inl ⟨h, h'⟩
  | rnd k =>
    obtain ⟨p, rfl, e⟩ := h
    obtain ⟨q, rfl, e'⟩ := h'
    refine .inr ⟨p, q, _, rfl, rfl, e, e', by simp, fun u hu => ?_⟩
    simp only [List.mem_cons, List.not_mem_nil, or_false] at hu
    rcases hu with rfl | rfl
    · exact .inr (.inr ⟨_, rfl⟩)
    · exact .inr (.inl ⟨_, rfl⟩)
  | twice a b j k =>
    obtain ⟨p, rfl, e⟩ := h
    obtain ⟨q, rfl, e'⟩ := h'
    refine .inr ⟨p, q, _, rfl, rfl, e, e', by simp, fun u hu => ?_⟩
    simp only [List.mem_cons, List.not_mem_nil, or_false] at hu
    rcases hu with rfl | rfl | rfl | rfl | rfl
    · exact .inr (.inr ⟨_, rfl⟩)
    all_goals exact .inr (.inl ⟨_, rfl⟩)
def spAlike : Sp := fun vs H Q _ => ∃ x y : V, vs = [x, y] ∧ SamV H x y ∧ ∀ H', Same H H' → Q (.bl true) H'
theorem ok_alike {f : Addr} {fd : FuncData} (F : Fun K "_law_alike" "_law_alike" lAlike f fd) (B : Blt mg) (b : Binds K fd ["_law_found", "_law_due_here"] []) (gA : mg "_law_alike" = some (.ref f)) : FnOk P w K mg base CX0 2 f fd ["_law_found", "_law_due_here"] spAlike := by
  have GA : FnOk P w K mg base CX0 1 f fd ["_law_found", "_law_due_here"] spAlike1 := ok_alike1 F B
  refine F.ok scAlike (fun vs H Q E h => ?_) (fun cdv A outer s H vs Q E hr h => ?_)
  · obtain ⟨x, y, rfl, _⟩ := h
    rfl
  · obtain ⟨x, y, rfl, hf, q⟩ := h
    refine ⟨_, pss_cons (ps_if (PW.pt (pw_or (pt_val (pe_callB call_isi (by rfl) B.isinstance (by decide +kernel) (pa_cons (pv 1) (pa_cons (pe_bltn (v := .ty "tuple") (by rfl) B.tuple (by decide +kernel) rfl) pa_nil)))) (pw_or1 (pt_val (pe_callB call_isi (by rfl) B.isinstance (by decide +kernel) (pa_cons (pv 1) (pa_cons (pe_bltn (v := .ty "list") (by rfl) B.list (by decide +kernel) rfl) pa_nil)))))))
        (pss_cons (ps_if (PW.pt (pw_or (pt_cmpR op_ne (pe_callB call_isi (by rfl) B.isinstance (by decide +kernel) (pa_cons (pv 0) (pa_cons (pe_bltn (v := .ty "tuple") (by rfl) B.tuple (by decide +kernel) rfl) pa_nil))) (pe_callB call_isi (by rfl) B.isinstance (by decide +kernel) (pa_cons (pv 1) (pa_cons (pe_bltn (v := .ty "tuple") (by rfl) B.tuple (by decide +kernel) rfl) pa_nil))) (nomark _)) (pw_or1 (pt_not (pt_val (pe_callB call_isiT (by rfl) B.isinstance (by decide +kernel) (pa_cons (pv 0) (pa_cons (pe_tup (pa_cons (pe_bltn (v := .ty "tuple") (by rfl) B.tuple (by decide +kernel) rfl) (pa_cons (pe_bltn (v := .ty "list") (by rfl) B.list (by decide +kernel) rfl) pa_nil))) pa_nil))))))))
          pss_never pss_nil)
        (pss_cons (ps_if (pt_cmpR op_ne (pe_callB call_len_seq (by rfl) B.len PySem.boot_len (pa_cons (pv 0) pa_nil)) (pe_callB call_len_seq (by rfl) B.len PySem.boot_len (pa_cons (pv 1) pa_nil)) (nomark _)) pss_never pss_nil)
        (pss_one (ps_ret (pe_cmpR (op_eqD hr.units) (pe_lc (own := [("_law_k", 2)]) (g := gName 2) (tt := tNot (tB (tCall spAlike1 [] E0 (tCons (tOp (rIxT K) (tVar 0) (tVar 2)) (tCons (tOp (rIxT K) (tVar 1) (tVar 2)) tNil))))) (te := tVar 2) (by rfl) scAlike.nd
          (pi_range1 (by rfl) B.range (pa_cons (pe_callB call_len_seq (by rfl) B.len PySem.boot_len (pa_cons (pv 1) pa_nil)) pa_nil)) (blkOk_by (N := ["_law_found", "_law_due_here", "_law_k"]) (sc := defScope lAlike) (by decide +kernel))
          (fun _ _ _ _ _ => pg_name (i := 2) (x := "_law_k") scAlike.nd rfl (.inl rfl) (.inr rfl))
          (fun _ _ _ _ _ => pts_one (pt_not (pt_val (pe_call GA hr (by rfl) gA F.kp b .nil pass0 (pa_cons (pe_ix ix_tup (pv 0) (pv 2) (fun _ _ => rfl)) (pa_cons (pe_ix ix_tup (pv 1) (pv 2) (fun _ _ => rfl)) pa_nil)))))) (fun _ _ _ _ _ => pv 2)) (pe_lst pa_nil) (nomark _)))))) pss_nil)
      (pss_cons (ps_if (PW.pt (pw_or (pt_cmpR op_isN (pv 1) pe_non (nomark _)) (pw_or1 (pt_cmpR op_isN (pv 0) pe_non (nomark _)))))
        (pss_one (ps_ret (pe_and (pe_cmpR op_isN (pv 1) pe_non (nomark _)) (pe_one (pe_cmpR op_isN (pv 0) pe_non (nomark _)))))) pss_nil)
      pss_never), ?_⟩
    rcases hf with ⟨rfl, rfl⟩ | ⟨p, r, us, rfl, rfl, hp, hr', hl, hu⟩
    · refine ⟨.non, rfl, _, _, _, _, _, rfl, .ty _, (.base .non), kit_ty kNT, ⟨_, rfl, iteF ⟨.non, rfl, _, _, _, _, _, rfl, .ty _, (.base .non), kit_ty kNL, ⟨_, rfl, iteF ?_⟩⟩⟩⟩
      refine ⟨.non, rfl, rfl, _, rfl, iteT (iteT ?_)⟩
      exact ⟨.non, rfl, rfl, _, rfl, iteT ⟨.non, rfl, rfl, q _ (Same.refl _)⟩⟩
    · have tx : TyX K H (.ref r) (.type "tuple") := .base (.tup hr')
      have ty : TyX K H (.ref p) (.type "tuple") := .base (.tup hp)
      refine ⟨.ref r, rfl, _, _, _, _, _, rfl, .ty _, tx, kit_ty kTT, ⟨_, rfl, iteT (iteT ?_)⟩⟩
      refine ⟨.ref p, rfl, _, _, _, _, _, rfl, .ty _, ty, kit_ty kTT, .ref r, rfl, _, _, _, _, _, rfl, .ty _, tx, kit_ty kTT, rfl, _, rfl, iteF ?_⟩
      refine ⟨.ref p, rfl, two_le, fun T nT => ?_⟩
      have s1 : Same H (upd H T (.tup [.ty "tuple", .ty "list"])) := same_new nT
      have hp1 := s1 _ _ hp
      have hr1 := s1 _ _ hr'
      refine ⟨.ref p, T, _, .type "tuple", [.type "tuple", .type "list"], true, rfl, upd_same, .cons (.ty _) (.cons (.ty _) .nil), .base (.tup hp1), kitAny_cons (kit_ty kTT) (fun e => by cases e) (fun _ => rfl), ⟨_, rfl, iteF ?_⟩⟩
      refine ⟨.ref p, rfl, p, _, rfl, .inr (SqT.of hp1), .ref r, rfl, r, _, rfl, .inr (SqT.of hr1), rfl, _, rfl, ?_⟩
      rw [decide_eq_true rfl]
      refine iteF ?_
      -- no k at which they are unlike
      refine ⟨.ref r, rfl, r, _, rfl, .inr (SqT.of hr1), _, rfl, by omega, by omega, fun D nD => ?_⟩
      have s2 : Same (upd H T (.tup [.ty "tuple", .ty "list"])) (upd (upd H T (.tup [.ty "tuple", .ty "list"])) D (.lst [])) := same_new nD
      refine lc_it walk_range (fun i H5 => Same (upd H T (.tup [.ty "tuple", .ty "list"])) H5 ∧ H5 D = some (.lst [])) ⟨s2, upd_same⟩ (fun _ _ _ _ => trivial) (fun i x H5 H6 hi hI y => ?_) (fun H5 hI => ?_)
      · obtain ⟨rfl, hxv⟩ := y
        have ei : (0 : Int) + (i : Nat) = ((i : Nat) : Int) := by omega
        have hxv : x = V.int ((i : Nat) : Int) := hxv.trans (by show V.int (0 + (i : Nat)) = _; rw [ei])
        subst hxv
        obtain ⟨sm, hD⟩ := hI
        have hix : i < us.length := by omega
        have hg : us[i]? = some us[i] := List.getElem?_eq_getElem hix
        have hF := hu us[i] (List.getElem_mem hix)
        generalize us[i] = u at hg hF
        refine ⟨wipe_put (by decide), ?_⟩
        refine ⟨.ref p, rfl, .int ((i : Nat) : Int), rfl, p, us, _, u, rfl, rfl, SqT.of (sm _ _ hp1), atI_nat hg, .ref r, rfl, .int ((i : Nat) : Int), rfl, r, us, _, u, rfl, rfl, SqT.of (sm _ _ hr1), atI_nat hg, u, rfl, hF, _, rfl, iteF ⟨sm, hD⟩⟩
      · obtain ⟨sm, hD⟩ := hI
        refine ⟨Nat.zero_le _, fun e ne => ?_⟩
        have s3 : Same H5 (upd H5 e (.lst [])) := same_new ne
        exact ⟨.list [], .list [], .lst (SqL.of (s3 _ _ hD)) .nil, .lst (SqL.of upd_same) .nil, shNil, shNil, q _ ((s1.trans sm).trans s3)⟩
end Nf

set_option Elab.async false
set_option linter.all false
set_option maxRecDepth 100000
set_option maxHeartbeats 4000000
namespace Nf
open PySem PySem.Spec PyProof.Rows L2
variable {P : Program} {w : World} {K : PySem.W.Frag} {mg : Str → Option Value} {base : Heap}
/-! ### alike, of trees of tuples and lists, level by level -/
theorem kBT : kitB "bool" "tuple" = some false := by decide +kernel
theorem kBL : kitB "bool" "list" = some false := by decide +kernel
theorem kBB : kitB "bool" "bool" = some true := by decide +kernel
theorem kLT : kitB "list" "tuple" = some false := by decide +kernel
theorem kLL : kitB "list" "list" = some true := by decide +kernel
def FlatB : V → Prop := fun x => x = .non ∨ (∃ b, x = .bl b) ∨ (∃ i, x = .int i) ∨ ∃ s, x = .str s
/-- two values that tell the same tree, of at most n floors -/
def Tree (H : Hp) : Nat → V → V → Prop
  | 0, x, y => x = y ∧ FlatB x
  | n + 1, x, y => (x = y ∧ FlatB x) ∨ ∃ (p q : Addr) (xs ys : List V), x = .ref p ∧ y = .ref q ∧ ((H p = some (.tup xs) ∧ H q = some (.tup ys)) ∨ (H p = some (.lst xs) ∧ H q = some (.lst ys))) ∧ xs.length ≤ 100000 ∧ Paired (Tree H n) xs ys
theorem Tree.same {H H' : Hp} (s : Same H H') : ∀ {n : Nat} {x y : V}, Tree H n x y → Tree H' n x y
  | 0, _, _, h => h
  | n + 1, _, _, .inl h => .inl h
  | n + 1, _, _, .inr ⟨p, q, xs, ys, e1, e2, h, hl, hp⟩ => .inr ⟨p, q, xs, ys, e1, e2, h.imp (fun z => ⟨s _ _ z.1, s _ _ z.2⟩) (fun z => ⟨s _ _ z.1, s _ _ z.2⟩), hl, paired_mono (fun _ _ z => Tree.same s z) hp⟩
def spTree (n : Nat) : Sp := fun vs H Q _ => ∃ x y : V, vs = [x, y] ∧ Tree H n x y ∧ ∀ H', Same H H' → Q (.bl true) H'
theorem ok_tree0 {f : Addr} {fd : FuncData} (F : Fun K "_law_alike" "_law_alike" lAlike f fd) (B : Blt mg) : FnOk P w K mg base CX0 1 f fd ["_law_found", "_law_due_here"] (spTree 0) := by
  refine F.ok scAlike (fun vs H Q E h => ?_) (fun cdv A outer s H vs Q E hr h => ?_)
  · obtain ⟨x, y, rfl, _⟩ := h
    rfl
  · obtain ⟨x, _, rfl, ⟨rfl, hf⟩, q⟩ := h
    refine ⟨_, (pss_cons (ps_if (PW.pt (pw_or (pt_val (pe_callB call_isi (by rfl) B.isinstance (by decide +kernel) (pa_cons (pv 1) (pa_cons (pe_bltn (v := .ty "tuple") (by rfl) B.tuple (by decide +kernel) rfl) pa_nil)))) (pw_or1 (pt_val (pe_callB call_isi (by rfl) B.isinstance (by decide +kernel) (pa_cons (pv 1) (pa_cons (pe_bltn (v := .ty "list") (by rfl) B.list (by decide +kernel) rfl) pa_nil))))))) pss_never pss_nil)
      (pss_cons (ps_if (PW.pt (pw_or (pt_cmpR op_isN (pv 1) pe_non (nomark _)) (pw_or1 (pt_cmpR op_isN (pv 0) pe_non (nomark _)))))
        (pss_one (ps_ret (pe_and (pe_cmpR op_isN (pv 1) pe_non (nomark _)) (pe_one (pe_cmpR op_isN (pv 0) pe_non (nomark _)))))) pss_nil)
      (pss_cons (ps_if (PW.pt (pw_or (pt_val (pe_callB call_isi (by rfl) B.isinstance (by decide +kernel) (pa_cons (pv 1) (pa_cons (pe_bltn (v := .ty "bool") (by rfl) B.bool (by decide +kernel) rfl) pa_nil)))) (pw_or1 (pt_val (pe_callB call_isi (by rfl) B.isinstance (by decide +kernel) (pa_cons (pv 0) (pa_cons (pe_bltn (v := .ty "bool") (by rfl) B.bool (by decide +kernel) rfl) pa_nil)))))))
        (pss_one (ps_ret (pe_and (pe_callB call_isi (by rfl) B.isinstance (by decide +kernel) (pa_cons (pv 1) (pa_cons (pe_bltn (v := .ty "bool") (by rfl) B.bool (by decide +kernel) rfl) pa_nil))) (pe_and (pe_callB call_isi (by rfl) B.isinstance (by decide +kernel) (pa_cons (pv 0) (pa_cons (pe_bltn (v := .ty "bool") (by rfl) B.bool (by decide +kernel) rfl) pa_nil))) (pe_one (pe_cmpR op_eq (pv 0) (pv 1) (nomark _))))))) pss_nil)
      (pss_cons (ps_if (pt_val (pe_callB call_isi (by rfl) B.isinstance (by decide +kernel) (pa_cons (pv 1) (pa_cons (pe_bltn (v := .ty "str") (by rfl) B.str (by decide +kernel) rfl) pa_nil)))) (pss_one (ps_ret (pe_and (pe_callB call_isi (by rfl) B.isinstance (by decide +kernel) (pa_cons (pv 0) (pa_cons (pe_bltn (v := .ty "str") (by rfl) B.str (by decide +kernel) rfl) pa_nil))) (pe_one (pe_cmpR op_eq (pv 0) (pv 1) (nomark _)))))) pss_nil)
      (pss_one (ps_ret (pe_and (pe_callB call_isi (by rfl) B.isinstance (by decide +kernel) (pa_cons (pv 0) (pa_cons (pe_bltn (v := .ty "int") (by rfl) B.int (by decide +kernel) rfl) pa_nil))) (pe_one (pe_cmpR op_eq (pv 0) (pv 1) (nomark _)))))))))), ?_⟩
    rcases hf with rfl | ⟨b, rfl⟩ | ⟨i, rfl⟩ | ⟨y, rfl⟩
    · refine ⟨.non, rfl, _, _, _, _, _, rfl, .ty _, (.base .non), kit_ty kNT, ⟨_, rfl, iteF ⟨.non, rfl, _, _, _, _, _, rfl, .ty _, (.base .non), kit_ty kNL, ⟨_, rfl, iteF ?_⟩⟩⟩⟩
      refine ⟨.non, rfl, rfl, _, rfl, iteT (iteT ?_)⟩
      exact ⟨.non, rfl, rfl, _, rfl, iteT ⟨.non, rfl, rfl, q _ (Same.refl _)⟩⟩
    · refine ⟨.bl b, rfl, _, _, _, _, _, rfl, .ty _, (.base (.bl b)), kit_ty kBT, ⟨_, rfl, iteF ⟨.bl b, rfl, _, _, _, _, _, rfl, .ty _, (.base (.bl b)), kit_ty kBL, ⟨_, rfl, iteF ?_⟩⟩⟩⟩
      refine ⟨.bl b, rfl, rfl, _, rfl, iteF ⟨.bl b, rfl, rfl, _, rfl, iteF ?_⟩⟩
      refine ⟨.bl b, rfl, _, _, _, _, _, rfl, .ty _, (.base (.bl b)), kit_ty kBB, ⟨_, rfl, iteT (iteT ?_)⟩⟩
      refine ⟨.bl b, rfl, _, _, _, _, _, rfl, .ty _, (.base (.bl b)), kit_ty kBB, ⟨_, rfl, iteT ⟨.bl b, rfl, _, _, _, _, _, rfl, .ty _, (.base (.bl b)), kit_ty kBB, ⟨_, rfl, iteT ⟨.bl b, rfl, .bl b, rfl, rfl, ?_⟩⟩⟩⟩⟩
      rw [decide_eq_true rfl]
      exact q _ (Same.refl _)
    · refine ⟨.int i, rfl, _, _, _, _, _, rfl, .ty _, (.base (.int i)), kit_ty kIT, ⟨_, rfl, iteF ⟨.int i, rfl, _, _, _, _, _, rfl, .ty _, (.base (.int i)), kit_ty kIL, ⟨_, rfl, iteF ?_⟩⟩⟩⟩
      refine ⟨.int i, rfl, rfl, _, rfl, iteF ⟨.int i, rfl, rfl, _, rfl, iteF ?_⟩⟩
      refine ⟨.int i, rfl, _, _, _, _, _, rfl, .ty _, (.base (.int i)), kit_ty kIB, ⟨_, rfl, iteF ⟨.int i, rfl, _, _, _, _, _, rfl, .ty _, (.base (.int i)), kit_ty kIB, ⟨_, rfl, iteF ?_⟩⟩⟩⟩
      refine ⟨.int i, rfl, _, _, _, _, _, rfl, .ty _, (.base (.int i)), kit_ty kIS, ⟨_, rfl, iteF ?_⟩⟩
      refine ⟨.int i, rfl, _, _, _, _, _, rfl, .ty _, (.base (.int i)), kit_ty kII, ⟨_, rfl, iteT ⟨.int i, rfl, .int i, rfl, rfl, ?_⟩⟩⟩
      rw [decide_eq_true rfl]
      exact q _ (Same.refl _)
    · refine ⟨.str y, rfl, _, _, _, _, _, rfl, .ty _, (.base (.str y)), kit_ty kST, ⟨_, rfl, iteF ⟨.str y, rfl, _, _, _, _, _, rfl, .ty _, (.base (.str y)), kit_ty kSL, ⟨_, rfl, iteF ?_⟩⟩⟩⟩
      refine ⟨.str y, rfl, rfl, _, rfl, iteF ⟨.str y, rfl, rfl, _, rfl, iteF ?_⟩⟩
      refine ⟨.str y, rfl, _, _, _, _, _, rfl, .ty _, (.base (.str y)), kit_ty kSB, ⟨_, rfl, iteF ⟨.str y, rfl, _, _, _, _, _, rfl, .ty _, (.base (.str y)), kit_ty kSB, ⟨_, rfl, iteF ?_⟩⟩⟩⟩
      refine ⟨.str y, rfl, _, _, _, _, _, rfl, .ty _, (.base (.str y)), kit_ty kSS, ⟨_, rfl, iteT ?_⟩⟩
      refine ⟨.str y, rfl, _, _, _, _, _, rfl, .ty _, (.base (.str y)), kit_ty kSS, ⟨_, rfl, iteT ⟨.str y, rfl, .str y, rfl, rfl, ?_⟩⟩⟩
      rw [decide_eq_true rfl]
      exact q _ (Same.refl _)

theorem ok_treeS {n : Nat} {f : Addr} {fd : FuncData} (F : Fun K "_law_alike" "_law_alike" lAlike f fd) (B : Blt mg) (b : Binds K fd ["_law_found", "_law_due_here"] []) (gA : mg "_law_alike" = some (.ref f)) (GA : FnOk P w K mg base CX0 (n + 1) f fd ["_law_found", "_law_due_here"] (spTree n)) :
    FnOk P w K mg base CX0 (n + 2) f fd ["_law_found", "_law_due_here"] (spTree (n + 1)) := by
  refine F.ok scAlike (fun vs H Q E h => ?_) (fun cdv A outer s H vs Q E hr h => ?_)
  · obtain ⟨x, y, rfl, _⟩ := h
    rfl
  · obtain ⟨x, y, rfl, hf, q⟩ := h
    refine ⟨_, (pss_cons (ps_if (PW.pt (pw_or (pt_val (pe_callB call_isi (by rfl) B.isinstance (by decide +kernel) (pa_cons (pv 1) (pa_cons (pe_bltn (v := .ty "tuple") (by rfl) B.tuple (by decide +kernel) rfl) pa_nil)))) (pw_or1 (pt_val (pe_callB call_isi (by rfl) B.isinstance (by decide +kernel) (pa_cons (pv 1) (pa_cons (pe_bltn (v := .ty "list") (by rfl) B.list (by decide +kernel) rfl) pa_nil)))))))
        (pss_cons (ps_if (PW.pt (pw_or (pt_cmpR op_ne (pe_callB call_isi (by rfl) B.isinstance (by decide +kernel) (pa_cons (pv 0) (pa_cons (pe_bltn (v := .ty "tuple") (by rfl) B.tuple (by decide +kernel) rfl) pa_nil))) (pe_callB call_isi (by rfl) B.isinstance (by decide +kernel) (pa_cons (pv 1) (pa_cons (pe_bltn (v := .ty "tuple") (by rfl) B.tuple (by decide +kernel) rfl) pa_nil))) (nomark _)) (pw_or1 (pt_not (pt_val (pe_callB call_isiT (by rfl) B.isinstance (by decide +kernel) (pa_cons (pv 0) (pa_cons (pe_tup (pa_cons (pe_bltn (v := .ty "tuple") (by rfl) B.tuple (by decide +kernel) rfl) (pa_cons (pe_bltn (v := .ty "list") (by rfl) B.list (by decide +kernel) rfl) pa_nil))) pa_nil))))))))
          pss_never pss_nil)
        (pss_cons (ps_if (pt_cmpR op_ne (pe_callB call_len_seq (by rfl) B.len PySem.boot_len (pa_cons (pv 0) pa_nil)) (pe_callB call_len_seq (by rfl) B.len PySem.boot_len (pa_cons (pv 1) pa_nil)) (nomark _)) pss_never pss_nil)
        (pss_one (ps_ret (pe_cmpR (op_eqD hr.units) (pe_lc (own := [("_law_k", 2)]) (g := gName 2) (tt := tNot (tB (tCall (spTree n) [] E0 (tCons (tOp (rIx K) (tVar 0) (tVar 2)) (tCons (tOp (rIx K) (tVar 1) (tVar 2)) tNil))))) (te := tVar 2) (by rfl) scAlike.nd
          (pi_range1 (by rfl) B.range (pa_cons (pe_callB call_len_seq (by rfl) B.len PySem.boot_len (pa_cons (pv 1) pa_nil)) pa_nil)) (blkOk_by (N := ["_law_found", "_law_due_here", "_law_k"]) (sc := defScope lAlike) (by decide +kernel))
          (fun _ _ _ _ _ => pg_name (i := 2) (x := "_law_k") scAlike.nd rfl (.inl rfl) (.inr rfl))
          (fun _ _ _ _ _ => pts_one (pt_not (pt_val (pe_call GA hr (by rfl) gA F.kp b .nil pass0 (pa_cons (pe_ix ix_seq (pv 0) (pv 2) (fun _ _ => rfl)) (pa_cons (pe_ix ix_seq (pv 1) (pv 2) (fun _ _ => rfl)) pa_nil)))))) (fun _ _ _ _ _ => pv 2)) (pe_lst pa_nil) (nomark _)))))) pss_nil)
      (pss_cons (ps_if (PW.pt (pw_or (pt_cmpR op_isN (pv 1) pe_non (nomark _)) (pw_or1 (pt_cmpR op_isN (pv 0) pe_non (nomark _)))))
        (pss_one (ps_ret (pe_and (pe_cmpR op_isN (pv 1) pe_non (nomark _)) (pe_one (pe_cmpR op_isN (pv 0) pe_non (nomark _)))))) pss_nil)
      (pss_cons (ps_if (PW.pt (pw_or (pt_val (pe_callB call_isi (by rfl) B.isinstance (by decide +kernel) (pa_cons (pv 1) (pa_cons (pe_bltn (v := .ty "bool") (by rfl) B.bool (by decide +kernel) rfl) pa_nil)))) (pw_or1 (pt_val (pe_callB call_isi (by rfl) B.isinstance (by decide +kernel) (pa_cons (pv 0) (pa_cons (pe_bltn (v := .ty "bool") (by rfl) B.bool (by decide +kernel) rfl) pa_nil)))))))
        (pss_one (ps_ret (pe_and (pe_callB call_isi (by rfl) B.isinstance (by decide +kernel) (pa_cons (pv 1) (pa_cons (pe_bltn (v := .ty "bool") (by rfl) B.bool (by decide +kernel) rfl) pa_nil))) (pe_and (pe_callB call_isi (by rfl) B.isinstance (by decide +kernel) (pa_cons (pv 0) (pa_cons (pe_bltn (v := .ty "bool") (by rfl) B.bool (by decide +kernel) rfl) pa_nil))) (pe_one (pe_cmpR op_eq (pv 0) (pv 1) (nomark _))))))) pss_nil)
      (pss_cons (ps_if (pt_val (pe_callB call_isi (by rfl) B.isinstance (by decide +kernel) (pa_cons (pv 1) (pa_cons (pe_bltn (v := .ty "str") (by rfl) B.str (by decide +kernel) rfl) pa_nil)))) (pss_one (ps_ret (pe_and (pe_callB call_isi (by rfl) B.isinstance (by decide +kernel) (pa_cons (pv 0) (pa_cons (pe_bltn (v := .ty "str") (by rfl) B.str (by decide +kernel) rfl) pa_nil))) (pe_one (pe_cmpR op_eq (pv 0) (pv 1) (nomark _)))))) pss_nil)
      (pss_one (ps_ret (pe_and (pe_callB call_isi (by rfl) B.isinstance (by decide +kernel) (pa_cons (pv 0) (pa_cons (pe_bltn (v := .ty "int") (by rfl) B.int (by decide +kernel) rfl) pa_nil))) (pe_one (pe_cmpR op_eq (pv 0) (pv 1) (nomark _)))))))))), ?_⟩
    rcases hf with ⟨rfl, hf⟩ | ⟨p, r, us, ws, rfl, rfl, hpr, hl, hu⟩
    · rcases hf with rfl | ⟨b, rfl⟩ | ⟨i, rfl⟩ | ⟨y, rfl⟩
      · refine ⟨.non, rfl, _, _, _, _, _, rfl, .ty _, (.base .non), kit_ty kNT, ⟨_, rfl, iteF ⟨.non, rfl, _, _, _, _, _, rfl, .ty _, (.base .non), kit_ty kNL, ⟨_, rfl, iteF ?_⟩⟩⟩⟩
        refine ⟨.non, rfl, rfl, _, rfl, iteT (iteT ?_)⟩
        exact ⟨.non, rfl, rfl, _, rfl, iteT ⟨.non, rfl, rfl, q _ (Same.refl _)⟩⟩
      · refine ⟨.bl b, rfl, _, _, _, _, _, rfl, .ty _, (.base (.bl b)), kit_ty kBT, ⟨_, rfl, iteF ⟨.bl b, rfl, _, _, _, _, _, rfl, .ty _, (.base (.bl b)), kit_ty kBL, ⟨_, rfl, iteF ?_⟩⟩⟩⟩
        refine ⟨.bl b, rfl, rfl, _, rfl, iteF ⟨.bl b, rfl, rfl, _, rfl, iteF ?_⟩⟩
        refine ⟨.bl b, rfl, _, _, _, _, _, rfl, .ty _, (.base (.bl b)), kit_ty kBB, ⟨_, rfl, iteT (iteT ?_)⟩⟩
        refine ⟨.bl b, rfl, _, _, _, _, _, rfl, .ty _, (.base (.bl b)), kit_ty kBB, ⟨_, rfl, iteT ⟨.bl b, rfl, _, _, _, _, _, rfl, .ty _, (.base (.bl b)), kit_ty kBB, ⟨_, rfl, iteT ⟨.bl b, rfl, .bl b, rfl, rfl, ?_⟩⟩⟩⟩⟩
        rw [decide_eq_true rfl]
        exact q _ (Same.refl _)
      · refine ⟨.int i, rfl, _, _, _, _, _, rfl, .ty _, (.base (.int i)), kit_ty kIT, ⟨_, rfl, iteF ⟨.int i, rfl, _, _, _, _, _, rfl, .ty _, (.base (.int i)), kit_ty kIL, ⟨_, rfl, iteF ?_⟩⟩⟩⟩
        refine ⟨.int i, rfl, rfl, _, rfl, iteF ⟨.int i, rfl, rfl, _, rfl, iteF ?_⟩⟩
        refine ⟨.int i, rfl, _, _, _, _, _, rfl, .ty _, (.base (.int i)), kit_ty kIB, ⟨_, rfl, iteF ⟨.int i, rfl, _, _, _, _, _, rfl, .ty _, (.base (.int i)), kit_ty kIB, ⟨_, rfl, iteF ?_⟩⟩⟩⟩
        refine ⟨.int i, rfl, _, _, _, _, _, rfl, .ty _, (.base (.int i)), kit_ty kIS, ⟨_, rfl, iteF ?_⟩⟩
        refine ⟨.int i, rfl, _, _, _, _, _, rfl, .ty _, (.base (.int i)), kit_ty kII, ⟨_, rfl, iteT ⟨.int i, rfl, .int i, rfl, rfl, ?_⟩⟩⟩
        rw [decide_eq_true rfl]
        exact q _ (Same.refl _)
      · refine ⟨.str y, rfl, _, _, _, _, _, rfl, .ty _, (.base (.str y)), kit_ty kST, ⟨_, rfl, iteF ⟨.str y, rfl, _, _, _, _, _, rfl, .ty _, (.base (.str y)), kit_ty kSL, ⟨_, rfl, iteF ?_⟩⟩⟩⟩
        refine ⟨.str y, rfl, rfl, _, rfl, iteF ⟨.str y, rfl, rfl, _, rfl, iteF ?_⟩⟩
        refine ⟨.str y, rfl, _, _, _, _, _, rfl, .ty _, (.base (.str y)), kit_ty kSB, ⟨_, rfl, iteF ⟨.str y, rfl, _, _, _, _, _, rfl, .ty _, (.base (.str y)), kit_ty kSB, ⟨_, rfl, iteF ?_⟩⟩⟩⟩
        refine ⟨.str y, rfl, _, _, _, _, _, rfl, .ty _, (.base (.str y)), kit_ty kSS, ⟨_, rfl, iteT ?_⟩⟩
        refine ⟨.str y, rfl, _, _, _, _, _, rfl, .ty _, (.base (.str y)), kit_ty kSS, ⟨_, rfl, iteT ⟨.str y, rfl, .str y, rfl, rfl, ?_⟩⟩⟩
        rw [decide_eq_true rfl]
        exact q _ (Same.refl _)
    · have hlen := paired_len hu
      rcases hpr with ⟨hp, hq⟩ | ⟨hp, hq⟩
      · have tx : TyX K H (.ref r) (.type "tuple") := .base (.tup hq)
        have ty : TyX K H (.ref p) (.type "tuple") := .base (.tup hp)
        refine ⟨.ref r, rfl, _, _, _, _, _, rfl, .ty _, tx, kit_ty kTT, ⟨_, rfl, iteT (iteT ?_)⟩⟩
        refine ⟨.ref p, rfl, _, _, _, _, _, rfl, .ty _, ty, kit_ty kTT, .ref r, rfl, _, _, _, _, _, rfl, .ty _, tx, kit_ty kTT, rfl, _, rfl, iteF ?_⟩
        refine ⟨.ref p, rfl, two_le, fun T nT => ?_⟩
        have s1 : Same H (upd H T (.tup [.ty "tuple", .ty "list"])) := same_new nT
        have hT1 : (upd H T (.tup [.ty "tuple", .ty "list"])) T = some (.tup [.ty "tuple", .ty "list"]) := upd_same
        generalize (upd H T (.tup [.ty "tuple", .ty "list"])) = H1 at s1 hT1 ⊢
        have hp1 := s1 _ _ hp
        have hq1 := s1 _ _ hq
        refine ⟨.ref p, T, _, .type "tuple", [.type "tuple", .type "list"], true, rfl, hT1, .cons (.ty _) (.cons (.ty _) .nil), .base (.tup hp1), kitAny_cons (kit_ty kTT) (fun e => by cases e) (fun _ => rfl), ⟨_, rfl, iteF ?_⟩⟩
        refine ⟨.ref p, rfl, p, _, rfl, .inr (SqT.of hp1), .ref r, rfl, r, _, rfl, .inr (SqT.of hq1), rfl, _, rfl, ?_⟩
        rw [hlen, decide_eq_true rfl]
        refine iteF ?_
        refine ⟨.ref r, rfl, r, _, rfl, .inr (SqT.of hq1), _, rfl, by omega, by omega, fun D nD => ?_⟩
        have s2 : Same H1 (upd H1 D (.lst [])) := same_new nD
        refine lc_it walk_range (fun i H5 => Same H1 H5 ∧ H5 D = some (.lst [])) ⟨s2, upd_same⟩ (fun _ _ _ _ => trivial) (fun i x H5 H6 hi hI y => ?_) (fun H5 hI => ?_)
        · obtain ⟨rfl, hxv⟩ := y
          have ei : (0 : Int) + (i : Nat) = ((i : Nat) : Int) := by omega
          have hxv : x = V.int ((i : Nat) : Int) := hxv.trans (by show V.int (0 + (i : Nat)) = _; rw [ei])
          subst hxv
          obtain ⟨sm, hD⟩ := hI
          have hix : i < us.length := by omega
          have hg : us[i]? = some us[i] := List.getElem?_eq_getElem hix
          generalize us[i] = u at hg
          obtain ⟨v, hv, hF⟩ := paired_getL hu hg
          refine ⟨wipe_put (by decide), ?_⟩
          refine ⟨.ref p, rfl, .int ((i : Nat) : Int), rfl, .inr (.inl ⟨p, us, _, u, rfl, rfl, SqT.of (sm _ _ hp1), atI_nat hg, .ref r, rfl, .int ((i : Nat) : Int), rfl, .inr (.inl ⟨r, ws, _, v, rfl, rfl, SqT.of (sm _ _ hq1), atI_nat hv, u, v, rfl, hF.same (s1.trans sm), fun H7 s7 => ⟨_, rfl, iteF ⟨sm.trans s7, s7 _ _ hD⟩⟩⟩)⟩)⟩
        · obtain ⟨sm, hD⟩ := hI
          refine ⟨Nat.zero_le _, fun e ne => ?_⟩
          have s3 : Same H5 (upd H5 e (.lst [])) := same_new ne
          exact ⟨.list [], .list [], .lst (SqL.of (s3 _ _ hD)) .nil, .lst (SqL.of upd_same) .nil, shNil, shNil, q _ ((s1.trans sm).trans s3)⟩
      · have tx : TyX K H (.ref r) (.type "list") := .base (.lst hq)
        have ty : TyX K H (.ref p) (.type "list") := .base (.lst hp)
        refine ⟨.ref r, rfl, _, _, _, _, _, rfl, .ty _, tx, kit_ty kLT, ⟨_, rfl, iteF ⟨.ref r, rfl, _, _, _, _, _, rfl, .ty _, tx, kit_ty kLL, ⟨_, rfl, iteT ?_⟩⟩⟩⟩
        refine ⟨.ref p, rfl, _, _, _, _, _, rfl, .ty _, ty, kit_ty kLT, .ref r, rfl, _, _, _, _, _, rfl, .ty _, tx, kit_ty kLT, rfl, _, rfl, iteF ?_⟩
        refine ⟨.ref p, rfl, two_le, fun T nT => ?_⟩
        have s1 : Same H (upd H T (.tup [.ty "tuple", .ty "list"])) := same_new nT
        have hT1 : (upd H T (.tup [.ty "tuple", .ty "list"])) T = some (.tup [.ty "tuple", .ty "list"]) := upd_same
        generalize (upd H T (.tup [.ty "tuple", .ty "list"])) = H1 at s1 hT1 ⊢
        have hp1 := s1 _ _ hp
        have hq1 := s1 _ _ hq
        refine ⟨.ref p, T, _, .type "list", [.type "tuple", .type "list"], true, rfl, hT1, .cons (.ty _) (.cons (.ty _) .nil), .base (.lst hp1), kitAny_cons (kit_ty kLT) (fun _ => kitAny_cons (kit_ty kLL) (fun e => by cases e) (fun _ => rfl)) (fun e => by cases e), ⟨_, rfl, iteF ?_⟩⟩
        refine ⟨.ref p, rfl, p, _, rfl, .inl (SqL.of hp1), .ref r, rfl, r, _, rfl, .inl (SqL.of hq1), rfl, _, rfl, ?_⟩
        rw [hlen, decide_eq_true rfl]
        refine iteF ?_
        refine ⟨.ref r, rfl, r, _, rfl, .inl (SqL.of hq1), _, rfl, by omega, by omega, fun D nD => ?_⟩
        have s2 : Same H1 (upd H1 D (.lst [])) := same_new nD
        refine lc_it walk_range (fun i H5 => Same H1 H5 ∧ H5 D = some (.lst [])) ⟨s2, upd_same⟩ (fun _ _ _ _ => trivial) (fun i x H5 H6 hi hI y => ?_) (fun H5 hI => ?_)
        · obtain ⟨rfl, hxv⟩ := y
          have ei : (0 : Int) + (i : Nat) = ((i : Nat) : Int) := by omega
          have hxv : x = V.int ((i : Nat) : Int) := hxv.trans (by show V.int (0 + (i : Nat)) = _; rw [ei])
          subst hxv
          obtain ⟨sm, hD⟩ := hI
          have hix : i < us.length := by omega
          have hg : us[i]? = some us[i] := List.getElem?_eq_getElem hix
          generalize us[i] = u at hg
          obtain ⟨v, hv, hF⟩ := paired_getL hu hg
          refine ⟨wipe_put (by decide), ?_⟩
          refine ⟨.ref p, rfl, .int ((i : Nat) : Int), rfl, .inl ⟨p, us, _, u, rfl, rfl, SqL.of (sm _ _ hp1), atI_nat hg, .ref r, rfl, .int ((i : Nat) : Int), rfl, .inl ⟨r, ws, _, v, rfl, rfl, SqL.of (sm _ _ hq1), atI_nat hv, u, v, rfl, hF.same (s1.trans sm), fun H7 s7 => ⟨_, rfl, iteF ⟨sm.trans s7, s7 _ _ hD⟩⟩⟩⟩⟩
        · obtain ⟨sm, hD⟩ := hI
          refine ⟨Nat.zero_le _, fun e ne => ?_⟩
          have s3 : Same H5 (upd H5 e (.lst [])) := same_new ne
          exact ⟨.list [], .list [], .lst (SqL.of (s3 _ _ hD)) .nil, .lst (SqL.of upd_same) .nil, shNil, shNil, q _ ((s1.trans sm).trans s3)⟩
theorem ok_tree {f : Addr} {fd : FuncData} (F : Fun K "_law_alike" "_law_alike" lAlike f fd) (B : Blt mg) (b : Binds K fd ["_law_found", "_law_due_here"] []) (gA : mg "_law_alike" = some (.ref f)) : ∀ n : Nat, FnOk P w K mg base CX0 (n + 1) f fd ["_law_found", "_law_due_here"] (spTree n)
  | 0 => ok_tree0 F B
  | n + 1 => ok_treeS F B b gA (ok_tree F B b gA n)
end Nf

set_option Elab.async false
set_option linter.all false
set_option maxRecDepth 100000
set_option maxHeartbeats 4000000
namespace Nf
open PySem PySem.Spec PyProof.Rows L2
variable {P : Program} {w : World} {K : PySem.W.Frag} {mg : Str → Option Value} {base : Heap}
/-- what stands in one turn: the row, the plan so far -/
structure LawP (K : PySem.W.Frag) (H : Hp) (r a l : Addr) (ns : List Int) (g z : Int) (rs : List Rnd) (m : Nat) : Prop where
  row : RowAt K H r a ns
  pl : ∃ xs, H l = some (.lst xs) ∧ Paired (RndV H) xs rs
  nlr : l ≠ r
  cnt : rs.length ≤ m
  rd : ∀ rd ∈ rs, IsRound g z rd
  put : ∀ (H' : Hp) (o : HO), RowAt K H' r a ns → RowAt K (upd H' l o) r a ns
section
variable {H H' : Hp} {r a l : Addr} {ns : List Int} {g z : Int} {rs : List Rnd} {m : Nat}
theorem LawP.toT (h : LawP K H r a l ns g z rs m) (s : Sx r H H') : SameT H H' := by
  obtain ⟨xr, hxr⟩ := h.row.lst
  exact s.toT hxr
theorem LawP.keep (h : LawP K H r a l ns g z rs m) (R : RowAt K H' r a ns) (s : Sx r H H') : LawP K H' r a l ns g z rs m := by
  obtain ⟨xs, hl, hp⟩ := h.pl
  exact ⟨R, ⟨xs, s _ _ h.nlr hl, paired_mono (fun _ _ z => z.mono (h.toT s)) hp⟩, h.nlr, h.cnt, h.rd, h.put⟩
theorem LawP.same (h : LawP K H r a l ns g z rs m) (s : Same H H') : LawP K H' r a l ns g z rs m := h.keep (h.row.keep s) (same_sx s)
theorem LawP.putL (h : LawP K H r a l ns g z rs m) {ys : List V} {qs : List Rnd} {m' : Nat} (hq : Paired (RndV H) ys qs) (hm : qs.length ≤ m') (hb : ∀ rd ∈ qs, IsRound g z rd) : LawP K (upd H l (.lst ys)) r a l ns g z qs m' := by
  obtain ⟨xs, hl, hp⟩ := h.pl
  have T : SameT H (upd H l (.lst ys)) := fun a2 us e2 => by
    rw [upd_ne (ne_of e2 hl (by intro z; cases z))]
    exact e2
  exact ⟨h.put _ _ h.row, ⟨ys, upd_same, paired_mono (fun _ _ z => z.mono T) hq⟩, h.nlr, hm, hb, h.put⟩
end
end Nf

set_option Elab.async false
set_option linter.all false
set_option maxRecDepth 100000
set_option maxHeartbeats 4000000
namespace Nf
open PySem PySem.Spec PyProof.Rows L2
variable {P : Program} {w : World} {K : PySem.W.Frag} {mg : Str → Option Value} {base : Heap}
/-! ### check_plan of a plan of rounds -/
theorem scCheck : FnScope ["party", "plan", "number", "thing"] ["party", "plan"] (defScope sCheck) := ⟨rfl, rfl, rfl, by decide +kernel, rfl, by decide +kernel, by decide +kernel⟩
def spCheckOk (K : PySem.W.Frag) (C : Addr) : Sp := fun vs H Q _ => ∃ (p l : Addr) (g s : Int) (rs : List Rnd), vs = [.ref p, .ref l] ∧ PartyV C H p g s ∧ IsParty g s ∧ PlanV K H l rs ∧ Small rs ∧ (∀ r ∈ rs, IsRound g s r) ∧ ∀ H', Same H H' → Q .non H'
theorem ok_checkOk {f fI C : Addr} {fd fdI : FuncData} (F : Fun K "check_plan" "check_plan" sCheck f fd) (B : Blt mg) (GI : FnOk P w K mg base CX0 3 fI fdI ["party", "thing"] (spIsRound C)) (FI : Fun K "is_round" "is_round" sIsRound fI fdI) (bI : Binds K fdI ["party", "thing"] []) (gI : mg "is_round" = some (.ref fI)) :
    FnOk P w K mg base CX0 4 f fd ["party", "plan"] (spCheckOk K C) := by
  refine F.ok scCheck (fun vs H Q E h => ?_) (fun cdv A outer s H vs Q E hr h => ?_)
  · obtain ⟨p, l, g, s, rs, rfl, _⟩ := h
    rfl
  · obtain ⟨p, l, g, z, rs, rfl, hP, hI, ⟨xs, hl, hxs⟩, hS, hR, q⟩ := h
    refine ⟨_, pss_one (ps_for PassesOwn.never rfl (pi_enum (by rfl) B.enumerate (pa_cons (pv 1) pa_nil)) (pg_tup rfl (pgs_cons (pg_name (i := 2) scCheck.nd rfl (.inl rfl)) (pgs_cons (pg_name (i := 3) scCheck.nd rfl (.inl rfl)) pgs_nil)))
        (pss_one (ps_if (pt_not (pt_val (pe_call GI hr (by rfl) gI FI.kp bI .nil pass0 (pa_cons (pv 0) (pa_cons (pv 3) pa_nil))))) pss_never pss_nil))), ?_⟩
    have hxl := paired_len hxs
    refine ⟨.ref l, rfl, l, xs, rfl, hl, ?_⟩
    refine for_it (walk_enum (xs := xs)) (fun i σ H2 => ∃ (y3 y4 : Option V), σ = [some (.ref p), some (.ref l), y3, y4] ∧ Same H H2)
      ⟨none, none, rfl, Same.refl _⟩ (fun i σ H2 _ h => ?_) (fun i x σ H2 H3 hi hI2 y => ?_) (fun σ H2 hI2 => ?_)
    · obtain ⟨_, _, _, sm⟩ := h
      exact sm.seq hl
    · obtain ⟨y3, y4, rfl, sm⟩ := hI2
      obtain ⟨T, v1, v2, rfl, nT, rfl, g1, g2⟩ := y
      have e1 : v1 = .int ((i : Nat) : Int) := (Option.some.inj g1).symm
      subst e1
      obtain ⟨r, hr0, hrx⟩ := paired_getL hxs g2
      have hmem : r ∈ rs := List.mem_of_getElem? hr0
      have sT : Same H2 (upd H2 T (.tup [.int ((i : Nat) : Int), v2])) := same_new nT
      refine ⟨T, _, rfl, SqT.of upd_same, rfl, _, _, rfl, _, _, rfl, ⟨rfl, ?_⟩⟩
      have sm3 := sm.trans sT
      refine ⟨.ref p, rfl, v2, rfl, p, g, z, v2, r, rfl, hP.same sm3, hI, hrx.mono (same_toT sm3), hS.r r hmem, hS.t r hmem, fun b H4 s4 hb => ?_⟩
      have eb : b = true := hb.mpr (hR r hmem)
      subst eb
      exact ⟨_, rfl, iteF ⟨_, _, rfl, sm3.trans s4⟩⟩
    · obtain ⟨_, _, rfl, sm⟩ := hI2
      exact q _ sm
/-! ### the company that each guest kept -/
theorem any_key (kvs : List (Key × V)) (k : Key) : ((kvs.any fun kv => decide (kv.1 = k)) = true) ↔ k ∈ kvs.map (·.1) := by
  simp only [List.any_eq_true, decide_eq_true_eq, List.mem_map]
theorem keys_put_old {kvs : List (Key × V)} {k : Key} (v : V) (h : k ∈ kvs.map (·.1)) : (putK kvs k v).map (·.1) = kvs.map (·.1) := by
  unfold putK
  rw [if_pos ((any_key kvs k).mpr h), List.map_map]
  refine List.map_congr_left fun kv _ => ?_
  show (if kv.1 = k then (kv.1, v) else kv).1 = kv.1
  split <;> rfl
theorem keys_put_new {kvs : List (Key × V)} {k : Key} (v : V) (h : k ∉ kvs.map (·.1)) : (putK kvs k v).map (·.1) = kvs.map (·.1) ++ [k] := by
  unfold putK
  rw [if_neg (fun z => h ((any_key kvs k).mp z))]
  simp
theorem mem_inl {ks : List Int} {b : Int} : (Sum.inl b : Key) ∈ ks.map Sum.inl ↔ b ∈ ks := by
  constructor
  · intro h
    obtain ⟨x, hx, e⟩ := List.mem_map.mp h
    cases e
    exact hx
  · exact fun h => List.mem_map.mpr ⟨b, h, rfl⟩
/-- g dicts, one for each guest, of those whom it met by the pairs told so far -/
structure CompI (H0 H : Hp) (co : Addr) (ds : List Addr) (g : Nat) (qs : List (Int × Int)) : Prop where
  sm : Same H0 H
  lst : H co = some (.lst (ds.map V.ref))
  nco : H0 co = none
  len : ds.length = g
  nd : ds.Nodup
  new : ∀ d ∈ ds, H0 d = none
  dict : ∀ (c : Nat) (d : Addr), ds[c]? = some d → ∃ (kvs : List (Key × V)) (ks : List Int), H d = some (.dK kvs) ∧ kvs.map (·.1) = ks.map Sum.inl ∧ ks.Perm (metD g qs c)
  ne : ∀ p ∈ qs, p.1 ≠ p.2
theorem CompI.keep {H0 H H' : Hp} {co : Addr} {ds : List Addr} {g : Nat} {qs : List (Int × Int)} (h : CompI H0 H co ds g qs) (s : Same H H') : CompI H0 H' co ds g qs := by
  refine ⟨h.sm.trans s, s _ _ h.lst, h.nco, h.len, h.nd, h.new, fun c d e => ?_, h.ne⟩
  obtain ⟨kvs, ks, h1, h2⟩ := h.dict c d e
  exact ⟨kvs, ks, s _ _ h1, h2⟩
theorem nodup_get {ds : List Addr} (nd : ds.Nodup) {i j : Nat} {d : Addr} (h1 : ds[i]? = some d) (h2 : ds[j]? = some d) : i = j := by
  obtain ⟨l1, e1⟩ := List.getElem?_eq_some_iff.mp h1
  obtain ⟨l2, e2⟩ := List.getElem?_eq_some_iff.mp h2
  rcases Nat.lt_trichotomy i j with z | z | z
  · exact absurd (e1.trans e2.symm) (List.pairwise_iff_getElem.mp nd i j l1 l2 z)
  · exact z
  · exact absurd (e2.trans e1.symm) (List.pairwise_iff_getElem.mp nd j i l2 l1 z)
/-- company[a][b] = True -/
theorem CompI.put {H0 H : Hp} {co : Addr} {ds : List Addr} {g : Nat} {qs : List (Int × Int)} (h : CompI H0 H co ds g qs) {a b : Int} (ha : 0 ≤ a ∧ a < g) (hb : 0 ≤ b ∧ b < g) (hab : a ≠ b) (hg : g ≤ 64) :
    ∃ (d : Addr) (H' : Hp), atI (ds.map V.ref) a = some (.ref d) ∧ (∃ kvs : List (Key × V), H d = some (.dK kvs)) ∧ DPut H d (.int b) (.bl true) H' ∧ CompI H0 H' co ds g (qs ++ [(a, b)]) := by
  have hlt : a.toNat < ds.length := by
    rw [h.len]
    omega
  have hd : ds[a.toNat]? = some ds[a.toNat] := List.getElem?_eq_getElem hlt
  generalize ds[a.toNat] = d at hd
  have ea : a = ((a.toNat : Nat) : Int) := by omega
  obtain ⟨kvs, ks, h1, h2, h3⟩ := h.dict _ _ hd
  rw [← ea] at h3
  have hl : kvs.length ≤ g := by
    have e1 : kvs.length = ks.length := by
      have := congrArg List.length h2
      simpa using this
    rw [e1, h3.length_eq]
    exact metD_len _ _ _
  have big : (64 : Nat) < sizeLine := by decide
  refine ⟨d, upd H d (.dK (putK kvs (Sum.inl b) (.bl true))), ?_, ⟨kvs, h1⟩, DPut.k (k := Sum.inl b) h1 (by omega), ?_⟩
  · rw [ea]
    refine atI_nat ?_
    rw [List.getElem?_map, hd]
    rfl
  · have nd0 : H0 d = none := h.new d (List.mem_of_getElem? hd)
    have ncd : co ≠ d := ne_of h.lst h1 (by intro z; cases z)
    refine ⟨same_put h.sm nd0, (upd_ne ncd).trans h.lst, h.nco, h.len, h.nd, h.new, fun c d' e => ?_, fun p hp => ?_⟩
    · by_cases ec : c = a.toNat
      · subst ec
        rw [hd] at e
        cases e
        refine ⟨_, if b ∈ ks then ks else ks ++ [b], upd_same, ?_, ?_⟩
        · by_cases m : b ∈ ks
          · rw [keys_put_old _ (by rw [h2]; exact mem_inl.mpr m), h2, if_pos m]
          · rw [keys_put_new _ (by rw [h2]; exact fun z => m (mem_inl.mp z)), h2, if_neg m, List.map_append]
            rfl
        · rw [← ea]
          by_cases m : b ∈ ks
          · rw [if_pos m, metD_old (.inr (mem_metD.mp (h3.mem_iff.mp m)).2)]
            exact h3
          · rw [if_neg m]
            refine (h3.append_right [b]).trans (metD_new hb.1 hb.2 fun z => m (h3.mem_iff.mpr (mem_metD.mpr ⟨hb, z⟩)))
      · obtain ⟨kv2, k2, g1, g2, g3⟩ := h.dict c d' e
        have ne : d' ≠ d := fun z => ec (nodup_get h.nd e (by rw [z]; exact hd))
        refine ⟨kv2, k2, (upd_ne ne).trans g1, g2, ?_⟩
        rw [metD_old (.inl (by omega))]
        exact g3
    · rcases List.mem_append.mp hp with hp | hp
      · exact h.ne p hp
      · rw [List.mem_singleton.mp hp]
        exact hab
theorem CompI.congr {H0 H : Hp} {co : Addr} {ds : List Addr} {g : Nat} {qs qs' : List (Int × Int)} (h : CompI H0 H co ds g qs) (e : ∀ p, p ∈ qs ↔ p ∈ qs') : CompI H0 H co ds g qs' := by
  refine ⟨h.sm, h.lst, h.nco, h.len, h.nd, h.new, fun c d hd => ?_, fun p hp => h.ne p ((e p).mpr hp)⟩
  obtain ⟨kvs, ks, h1, h2, h3⟩ := h.dict c d hd
  have em : metD g qs' c = metD g qs c := List.filter_congr fun d _ => by simp only [e]
  exact ⟨kvs, ks, h1, h2, em ▸ h3⟩
theorem dirs_congr {ps qs : List (Int × Int)} (h : ∀ p, p ∈ ps ↔ p ∈ qs) : ∀ p, p ∈ dirs ps ↔ p ∈ dirs qs := fun ⟨a, b⟩ => by rw [mem_dirs, mem_dirs, h, h]
/-! ### lists of rising lists, all new -/
def NewL (H0 H : Hp) (x : V) (row : List Int) : Prop := ∃ q, x = .ref q ∧ H q = some (.lst (row.map V.int)) ∧ H0 q = none
theorem NewL.keep {H0 H H' : Hp} {x : V} {row : List Int} (h : NewL H0 H x row) (s : Same H H') : NewL H0 H' x row := by
  obtain ⟨q, e, h1, h2⟩ := h
  exact ⟨q, e, s _ _ h1, h2⟩
def rowsM (f : Int → List Int) (n : Nat) : List (List Int) := (rangeI n).map f
theorem rowsM_len (f : Int → List Int) (n : Nat) : (rowsM f n).length = n := by simp [rowsM, rangeI_len]
theorem rowsM_succ (f : Int → List Int) (n : Nat) : rowsM f (n + 1) = rowsM f n ++ [f (n : Nat)] := by
  unfold rowsM rangeI
  rw [List.range_succ, List.map_append, List.map_append]
  rfl
/-- a new list of new lists -/
def NewLL (H0 H : Hp) (q : Addr) (rows : List (List Int)) : Prop := H0 q = none ∧ ∃ xs, H q = some (.lst xs) ∧ Paired (NewL H0 H) xs rows
/-- one more row -/
theorem newLL_snoc {H0 H : Hp} {D : Addr} {acc : List V} {rows : List (List Int)} {x : V} {row : List Int} (hD : H D = some (.lst acc)) (hp : Paired (NewL H0 H) acc rows) (hx : NewL H0 H x row) (n : ∀ q, x = .ref q → q ≠ D) (m : ∀ y ∈ acc, ∀ q, y = .ref q → q ≠ D) :
    Paired (NewL H0 (upd H D (.lst (acc ++ [x])))) (acc ++ [x]) (rows ++ [row]) := by
  have go : ∀ {y r}, NewL H0 H y r → (∀ q, y = .ref q → q ≠ D) → NewL H0 (upd H D (.lst (acc ++ [x]))) y r := fun {y r} h ne => by
    obtain ⟨q, rfl, h1, h2⟩ := h
    exact ⟨q, rfl, (upd_ne (ne q rfl)).trans h1, h2⟩
  have all : ∀ {ys : List V} {rs : List (List Int)}, (∀ y ∈ ys, y ∈ acc) → Paired (NewL H0 H) ys rs → Paired (NewL H0 (upd H D (.lst (acc ++ [x])))) ys rs := fun {ys rs} hs h => by
    induction h with
    | nil => exact .nil
    | @cons y r ys rs hy t ih => exact .cons (go hy (m y (hs y (by simp)))) (ih fun y hy => hs y (by simp [hy]))
  exact paired_snoc (all (fun _ h => h) hp) (go hx n)
end Nf

set_option Elab.async false
set_option linter.all false
set_option maxRecDepth 100000
set_option maxHeartbeats 4000000
namespace Nf
open PySem PySem.Spec PyProof.Rows L2
variable {P : Program} {w : World} {K : PySem.W.Frag} {mg : Str → Option Value} {base : Heap}
/-! ### met -/
theorem scMet : FnScope ["party", "plan", "company", "tables", "a", "b", "guest", "others"] ["party", "plan"] (defScope sMet) := ⟨rfl, rfl, rfl, by decide +kernel, rfl, by decide +kernel, by decide +kernel⟩
def spMetOk (K : PySem.W.Frag) (C : Addr) : Sp := fun vs H Q _ => ∃ (p l : Addr) (g : Nat) (s : Int) (rs : List Rnd), vs = [.ref p, .ref l] ∧ PartyV C H p g s ∧ IsParty g s ∧ PlanV K H l rs ∧ Small rs ∧ (∀ r ∈ rs, IsRound g s r) ∧
  ∀ H' q, Same H H' → NewLL H H' q (rowsM (metM g (pairsP rs)) g) → Q (.ref q) H'
theorem ok_metOk {f fC fP fG C : Addr} {fd fdC fdP fdG : FuncData} (F : Fun K "met" "met" sMet f fd) (B : Blt mg) (T : Txt K mg C) (GC : FnOk P w K mg base CX0 4 fC fdC ["party", "plan"] (spCheckOk K C)) (FC : Fun K "check_plan" "check_plan" sCheck fC fdC) (bC : Binds K fdC ["party", "plan"] []) (gC : mg "check_plan" = some (.ref fC))
    (FP : Fun K "pairs" "pairs" sPairs fP fdP) (bP : Binds K fdP ["tables"] []) (gP : mg "pairs" = some (.ref fP)) (FG : Fun K "guests" "Party.guests" sGuests fG fdG) (bG : Binds K fdG ["self"] []) (mG : Meth K C "guests" fG) :
    FnOk P w K mg base CX0 5 f fd ["party", "plan"] (spMetOk K C) := by
  have GP : FnOk P w K mg base CX0 1 fP fdP ["tables"] spPairs := ok_pairs FP B
  have GG : FnOk P w K mg base CX0 1 fG fdG ["self"] (spGuests C) := ok_guests FG T
  have ng : ∀ g s, (pf g s).lookup ("guests" : Str) = none := fun g s => pf_no _ _ (by decide +kernel) (by decide +kernel)
  refine F.ok scMet (fun vs H Q E h => ?_) (fun cdv A outer s H vs Q E hr h => ?_)
  · obtain ⟨p, l, g, s, rs, rfl, _⟩ := h
    rfl
  · obtain ⟨p, l, g, z, rs, rfl, hP, hI, ⟨xs, hl, hxs⟩, hS, hR, q⟩ := h
    have hr1 : Room 1 _ := hr.mono (by decide)
    have hu := hu_of hr
    refine ⟨_, pss_cons (ps_expr (pe_call GC hr (by rfl) gC FC.kp bC .nil pass0 (pa_cons (pv 0) (pa_cons (pv 1) pa_nil))))
      (pss_cons (ps_setLc (i := 2) (own := [("guest", 6)]) (g := gName 6) (tt := tYes) (te := tDNewK) (by rfl) scMet.nd rfl rfl (sw_true rfl rfl rfl (by decide +kernel)) (pi_range1 (by rfl) B.range (pa_cons (pe_meth0 (pv 0) T.cl mG GG hr1 bG .nil pass0) pa_nil))
          (blkOk_by (N := ["party", "plan", "company", "tables", "a", "b", "guest", "others"]) (sc := defScope sMet) (by decide +kernel))
          (fun _ _ _ _ _ => pg_name (i := 6) (x := "guest") scMet.nd rfl (.inl rfl) (.inr rfl)) (fun _ _ _ _ _ => pts_nil) (fun _ _ _ _ _ => pe_dnewK))
      (pss_cons (ps_for PassesOwn.never rfl (pi_list (pv 1)) (pg_name (i := 3) scMet.nd rfl (.inl rfl))
        (pss_one (ps_for PassesOwn.never rfl (pi_list (pe_call GP hr1 (by rfl) gP FP.kp bP .nil pass0 (pa_cons (pv 3) pa_nil))) (pg_tup rfl (pgs_cons (pg_name (i := 4) scMet.nd rfl (.inl rfl)) (pgs_cons (pg_name (i := 5) scMet.nd rfl (.inl rfl)) pgs_nil)))
          (pss_cons (ps_dput hu (pe_ix ix_list (pv 2) (pv 4) (fun _ _ => rfl)) (pv 5) pe_bl rfl)
          (pss_one (ps_dput hu (pe_ix ix_list (pv 2) (pv 5) (fun _ _ => rfl)) (pv 4) pe_bl rfl))))))
      (pss_one (ps_ret (pe_lc (own := [("others", 7)]) (g := gName 7) (tt := tYes) (by rfl) scMet.nd (pi_list (pv 2)) (blkOk_by (N := ["party", "plan", "company", "tables", "a", "b", "guest", "others"]) (sc := defScope sMet) (by decide +kernel))
          (fun _ _ _ _ _ => pg_name (i := 7) (x := "others") scMet.nd rfl (.inl rfl) (.inr rfl)) (fun _ _ _ _ _ => pts_nil) (fun _ _ _ _ _ => pe_callB (call_sortedDI (by rfl)) (by rfl) B.sorted (by decide +kernel) (pa_cons (pv 7) pa_nil))))))), ?_⟩
    have hxl := paired_len hxs
    have big : (5000000 : Nat) < sizeLine := by decide
    have hg64 : g ≤ 64 := by have := hI.g64; omega
    obtain ⟨dx, hp⟩ := id hP
    -- check_plan(party, plan)
    refine ⟨.ref p, rfl, .ref l, rfl, p, l, g, z, rs, rfl, hP, hI, ⟨xs, hl, hxs⟩, hS, hR, fun H1 s1 => ?_⟩
    -- company
    obtain ⟨dx1, hp1⟩ := hP.same s1
    refine ⟨.ref p, rfl, p, dx1, _, rfl, hp1, ng _ _, p, g, z, rfl, ⟨dx1, hp1⟩, ?_⟩
    refine ⟨_, rfl, by omega, by omega, fun co nco => ?_⟩
    have s2 : Same H1 (upd H1 co (.lst [])) := same_new nco
    have nco0 : H co = none := s1.free nco
    refine lc_it walk_range (fun i H2 => Same H H2 ∧ ∃ ds : List Addr, H2 co = some (.lst (ds.map V.ref)) ∧ ds.length = i ∧ ds.Nodup ∧ (∀ d ∈ ds, H d = none ∧ H2 d = some (.dK []))) ⟨s1.trans s2, [], upd_same, rfl, .nil, by simp⟩ (fun _ _ _ _ => trivial) (fun i x H2 H3 hi hI2 y => ?_) (fun H2 hI2 => ?_)
    · obtain ⟨rfl, rfl⟩ := y
      obtain ⟨sm, ds, h1, h2, h3, h4⟩ := hI2
      refine ⟨wipe_put (by decide), yesT fun d nd => ?_⟩
      have ncd : co ≠ d := ne_of_none h1 nd
      have sd : Same H3 (upd H3 d (.dK [])) := same_new nd
      refine ⟨_, (upd_ne ncd).trans h1, by rw [List.length_map]; omega, same_put (sm.trans sd) nco0, ds ++ [d], ?_, by simp [h2], ?_, fun d' hd' => ?_⟩
      · rw [upd_same, List.map_append]
        rfl
      · refine List.nodup_append.mpr ⟨h3, by simp, fun x hx y hy => ?_⟩
        rw [List.mem_singleton.mp hy]
        rintro rfl
        rw [(h4 x hx).2] at nd
        cases nd
      · rcases List.mem_append.mp hd' with hd' | hd'
        · have e := (h4 d' hd').2
          exact ⟨(h4 d' hd').1, by rw [upd_ne (ne_of e h1 (by intro z; cases z)), upd_ne (ne_of_none e nd)]; exact e⟩
        · rw [List.mem_singleton.mp hd']
          exact ⟨sm.free nd, by rw [upd_ne ncd.symm]; exact upd_same⟩
    obtain ⟨sm, ds, h1, h2, h3, h4⟩ := hI2
    have h2 : ds.length = g := by omega
    have C0 : CompI H H2 co ds g (dirs (pairsP (rs.take 0))) := by
      refine ⟨sm, h1, nco0, h2, h3, fun d hd => (h4 d hd).1, fun c d e => ⟨[], [], (h4 d (List.mem_of_getElem? e)).2, rfl, ?_⟩, fun p hp => ?_⟩
      · have e : metD g (dirs (pairsP (rs.take 0))) c = [] := List.filter_eq_nil_iff.mpr fun x _ => by simp [pairsP, dirs]
        rw [e]
      · simp [pairsP, dirs] at hp
    clear h1 h3 h4
    refine ⟨.ref l, rfl, l, rfl, ⟨_, sm.seq hl⟩, ?_⟩
    refine for_it (walk_list (xs := xs)) (fun i σ H2 => ∃ (y3 y4 y5 : Option V), σ = [some (.ref p), some (.ref l), some (.ref co), y3, y4, y5, none, none] ∧ CompI H H2 co ds g (dirs (pairsP (rs.take i)))) ⟨none, none, none, rfl, C0⟩ (fun i σ H2 _ h => ?_) (fun i x σ H2 H3 hi hI y => ?_) (fun σ H2' hI => ?_)
    · obtain ⟨_, _, _, _, h⟩ := h
      exact h.sm.seq hl
    · obtain ⟨y3, y4, y5, rfl, hC⟩ := hI
      obtain ⟨rfl, hx⟩ := y
      obtain ⟨r, hr0, hrx⟩ := paired_getL hxs hx
      have hRr := hR r (List.mem_of_getElem? hr0)
      have hpl := hRr.pairs_le (by have := hI.s2; omega) hI.g64
      refine ⟨x, rfl, x, r, rfl, hrx.mono (same_toT hC.sm), by omega, fun H4 u ys s4 nu hu4 hys => ?_⟩
      have hyl := paired_len hys
      have nu0 : H u = none := hC.sm.free nu
      refine ⟨u, rfl, ⟨_, SqL.of hu4⟩, ?_⟩
      refine for_it (walk_list (xs := ys)) (fun m σ H5 => ∃ (y4 y5 : Option V), σ = [some (.ref p), some (.ref l), some (.ref co), some x, y4, y5, none, none] ∧ H5 u = some (.lst ys) ∧ Paired (PairV H5) ys (sortP (pairsR r)) ∧ CompI H H5 co ds g (dirs (pairsP (rs.take i) ++ (sortP (pairsR r)).take m)))
        ⟨y4, y5, rfl, hu4, hys, by rw [List.take_zero, List.append_nil]; exact hC.keep s4⟩ (fun m σ H5 _ h => ?_) (fun m x' σ H5 H6 hm hM y => ?_) (fun σ H5 hM => ?_)
      · obtain ⟨_, _, _, h, _⟩ := h
        exact SqL.of h
      · obtain ⟨y4, y5, rfl, hu5, hy5, hC5⟩ := hM
        obtain ⟨rfl, hx'⟩ := y
        obtain ⟨⟨a, b⟩, hab, T6, rfl, hT6⟩ := paired_getL hy5 hx'
        have hmem : (a, b) ∈ pairsR r := (sortP_perm _).mem_iff.mp (List.mem_of_getElem? hab)
        obtain ⟨b1, b2, b3⟩ := hRr.pair _ hmem
        simp only at b1 b2 b3
        have keepU : ∀ {H7 H8 : Hp} {d : Addr} {v : V} {k : V}, H7 u = some (.lst ys) → Paired (PairV H7) ys (sortP (pairsR r)) → (∃ kvs : List (Key × V), H7 d = some (.dK kvs)) → DPut H7 d k v H8 → H8 u = some (.lst ys) ∧ Paired (PairV H8) ys (sortP (pairsR r)) := fun {H7 H8 d v k} e1 e2 e3 e4 => by
          obtain ⟨kv0, hd0⟩ := e3
          have : ∃ o, H8 = upd H7 d o := by
            rcases e4 with ⟨kvs, k, _, _, _, e⟩ | ⟨kvs, k, b, e, _⟩
            · exact ⟨_, e⟩
            · rw [hd0] at e
              cases e
          obtain ⟨o, rfl⟩ := this
          refine ⟨by rw [upd_ne (ne_of e1 hd0 (by intro z; cases z))]; exact e1, paired_mono (fun v pr h => ?_) e2⟩
          obtain ⟨w1, rfl, hw⟩ := h
          exact ⟨w1, rfl, by rw [upd_ne (ne_of hw hd0 (by intro e; cases e))]; exact hw⟩
        refine ⟨T6, _, rfl, SqT.of hT6, rfl, _, _, rfl, _, _, rfl, ⟨rfl, ?_⟩⟩
        obtain ⟨d1, H7, at1, k1, put1, hC7⟩ := hC5.put (a := a) (b := b) ⟨b1, by omega⟩ ⟨by omega, by omega⟩ (by omega) hg64
        obtain ⟨hu7, hy7⟩ := keepU hu5 hy5 k1 put1
        refine ⟨.ref co, rfl, .int a, rfl, co, _, a, .ref d1, rfl, rfl, SqL.of hC5.lst, at1, .int b, rfl, d1, H7, rfl, put1, ?_⟩
        obtain ⟨d2, H8, at2, k2, put2, hC8⟩ := hC7.put (a := b) (b := a) ⟨by omega, by omega⟩ ⟨b1, by omega⟩ (by omega) hg64
        obtain ⟨hu8, hy8⟩ := keepU hu7 hy7 k2 put2
        refine ⟨.ref co, rfl, .int b, rfl, co, _, b, .ref d2, rfl, rfl, SqL.of hC7.lst, at2, .int a, rfl, d2, H8, rfl, put2, ?_⟩
        refine ⟨_, _, rfl, hu8, hy8, ?_⟩
        rw [takeSucc hab, ← List.append_assoc, dirs_snoc]
        exact hC8
      · obtain ⟨y4, y5, rfl, hu5, hy5, hC5⟩ := hM
        rw [hyl, List.take_of_length_le (Nat.le_refl _)] at hC5
        refine ⟨_, _, _, rfl, ?_⟩
        refine hC5.congr (dirs_congr fun pr => ?_)
        rw [takeSucc hr0]
        unfold pairsP
        rw [List.flatMap_append, List.mem_append, List.mem_append, (sortP_perm _).mem_iff]
        simp
    · obtain ⟨y3, y4, y5, rfl, hC⟩ := hI
      rw [hxl, List.take_of_length_le (Nat.le_refl _)] at hC
      refine ⟨.ref co, rfl, co, rfl, ⟨_, SqL.of hC.lst⟩, fun D nD => ?_⟩
      have nD0 : H D = none := hC.sm.free nD
      have sD : Same H2' (upd H2' D (.lst [])) := same_new nD
      refine lc_it (walk_list (xs := ds.map V.ref)) (fun i H5 => Same H2' H5 ∧ ∃ acc, H5 D = some (.lst acc) ∧ acc.length = i ∧ Paired (NewL H H5) acc (rowsM (metM g (pairsP rs)) i) ∧ ∀ y ∈ acc, ∀ q, y = .ref q → q ≠ D)
        ⟨sD, [], upd_same, rfl, .nil, by simp⟩ (fun i H5 _ h => SqL.of (h.1 _ _ hC.lst)) (fun i x H5 H6 hi hJ y => ?_) (fun H5 hJ => ?_)
      · obtain ⟨rfl, hx⟩ := y
        obtain ⟨sm5, acc, hD, hal, hrow, hne⟩ := hJ
        have hil : i < ds.length := by
          rw [List.length_map] at hi
          exact hi
        have hd : ds[i]? = some ds[i] := List.getElem?_eq_getElem hil
        generalize ds[i] = d at hd
        have ex : x = .ref d := by
          rw [List.getElem?_map, hd] at hx
          exact (Option.some.inj hx).symm
        subst ex
        obtain ⟨kvs, ks, e1, e2, e3⟩ := hC.dict i d hd
        have hig : i < g := by omega
        have h63 : ks.length < 64 := by
          have := metD_less (g := g) (c := ((i : Nat) : Int)) (by omega) (by omega) hC.ne
          rw [e3.length_eq]
          omega
        refine ⟨wipe_put (by decide), yesT ?_⟩
        refine ⟨.ref d, rfl, d, kvs, ks, rfl, .inl (sm5 _ _ e1), e2, h63, fun ys q0 hperm hup nq => ?_⟩
        have ey : ys = metM g (pairsP rs) ((i : Nat) : Int) := up_perm_eq hup (metD_up _ _ _) (hperm.trans e3)
        subst ey
        have sq : Same H6 (upd H6 q0 (.lst ((metM g (pairsP rs) ((i : Nat) : Int)).map V.int))) := same_new nq
        have nDq : q0 ≠ D := fun z => by
          rw [z, hD] at nq
          cases nq
        refine ⟨acc, sq _ _ hD, by omega, same_put (sm5.trans sq) nD, acc ++ [.ref q0], upd_same, by simp [hal], ?_, fun y hy q e => ?_⟩
        · rw [rowsM_succ]
          refine newLL_snoc (sq _ _ hD) (paired_mono (fun _ _ h => h.keep sq) hrow) ⟨q0, rfl, upd_same, (hC.sm.trans sm5).free nq⟩ (fun q e => ?_) hne
          cases e
          exact nDq
        · rcases List.mem_append.mp hy with hy | hy
          · exact hne y hy q e
          · rw [List.mem_singleton.mp hy] at e
            cases e
            exact nDq
      · obtain ⟨sm5, acc, hD, hal, hrow, hne⟩ := hJ
        rw [List.length_map, h2] at hrow
        exact q H5 D (hC.sm.trans sm5) ⟨nD0, acc, hD, hrow⟩
end Nf

set_option Elab.async false
set_option linter.all false
set_option maxRecDepth 100000
set_option maxHeartbeats 4000000
namespace Nf
open PySem PySem.Spec PyProof.Rows L2
variable {P : Program} {w : World} {K : PySem.W.Frag} {mg : Str → Option Value} {base : Heap}
/-! ### unmet -/
theorem inV_ints (d : Int) (ns : List Int) : inV (.int d) (ns.map V.int) = decide (d ∈ ns) := by
  unfold inV
  rw [Bool.eq_iff_iff, List.any_eq_true, decide_eq_true_eq]
  constructor
  · rintro ⟨y, hy, e⟩
    obtain ⟨n, hn, rfl⟩ := List.mem_map.mp hy
    have e : (n == d) = true := e
    rw [← eq_of_beq e]
    exact hn
  · exact fun h => ⟨.int d, List.mem_map.mpr ⟨d, h, rfl⟩, by show (d == d) = true; exact beq_self_eq_true d⟩
theorem flat_ints (ns : List Int) : (ns.map V.int).all flatV = true := by
  rw [List.all_eq_true]
  intro x hx
  obtain ⟨n, _, rfl⟩ := List.mem_map.mp hx
  rfl
theorem rowsM_get (f : Int → List Int) {n i : Nat} (h : i < n) : (rowsM f n)[i]? = some (f (i : Nat)) := by
  unfold rowsM rangeI
  rw [List.map_map, List.getElem?_map, List.getElem?_range h]
  rfl
def oSc : Scope := { kind := .function, names := [(PySem.Str.ofString ".0", .local), (PySem.Str.ofString "guest", .cell), (PySem.Str.ofString "others", .cell), (PySem.Str.ofString "everyone", .cell)], isGenerator := false, isCoroutine := false, more := [] }
theorem scUnmet : FnScope ["party", "plan", "everyone", "guest", "others", "other"] ["party", "plan"] (defScope sUnmet) := ⟨rfl, rfl, rfl, by decide +kernel, rfl, by decide +kernel, by decide +kernel⟩
def spUnmetOk (K : PySem.W.Frag) (C : Addr) : Sp := fun vs H Q _ => ∃ (p l : Addr) (g : Nat) (s : Int) (rs : List Rnd), vs = [.ref p, .ref l] ∧ PartyV C H p g s ∧ IsParty g s ∧ PlanV K H l rs ∧ Small rs ∧ (∀ r ∈ rs, IsRound g s r) ∧
  ∀ H' q, Same H H' → NewLL H H' q (rowsM (unmetM g (pairsP rs)) g) → Q (.ref q) H'
theorem ok_unmetOk {f fM fG C : Addr} {fd fdM fdG : FuncData} (F : Fun K "unmet" "unmet" sUnmet f fd) (B : Blt mg) (T : Txt K mg C) (GM : FnOk P w K mg base CX0 5 fM fdM ["party", "plan"] (spMetOk K C)) (FM : Fun K "met" "met" sMet fM fdM) (bM : Binds K fdM ["party", "plan"] []) (gM : mg "met" = some (.ref fM))
    (FG : Fun K "guests" "Party.guests" sGuests fG fdG) (bG : Binds K fdG ["self"] []) (mG : Meth K C "guests" fG) :
    FnOk P w K mg base CX0 6 f fd ["party", "plan"] (spUnmetOk K C) := by
  have GG : FnOk P w K mg base CX0 1 fG fdG ["self"] (spGuests C) := ok_guests FG T
  have ng : ∀ g s, (pf g s).lookup ("guests" : Str) = none := fun g s => pf_no _ _ (by decide +kernel) (by decide +kernel)
  refine F.ok scUnmet (fun vs H Q E h => ?_) (fun cdv A outer s H vs Q E hr h => ?_)
  · obtain ⟨p, l, g, s, rs, rfl, _⟩ := h
    rfl
  · obtain ⟨p, l, g, z, rs, rfl, hP, hI, ⟨xs, hl, hxs⟩, hS, hR, q⟩ := h
    have hr1 : Room 1 _ := hr.mono (by decide)
    have hu := hu_of hr
    refine ⟨_, pss_cons (ps_set (i := 2) scUnmet.nd rfl (.inr rfl) (pe_listRg rfl (by rfl) B.list (prg_1 (by rfl) B.range (pe_meth0 (pv 0) T.cl mG GG hr1 bG .nil pass0))))
      (pss_one (ps_ret (pe_lc (own := [("guest", 3), ("others", 4)]) (g := gTup K 2 (gCons (gName 3) (gCons (gName 4) gNil))) (tt := tYes) (by rfl) scUnmet.nd (pi_enum (by rfl) B.enumerate (pa_cons (pe_call GM hr (by rfl) gM FM.kp bM .nil pass0 (pa_cons (pv 0) (pa_cons (pv 1) pa_nil))) pa_nil))
          (blkOk_by (N := ["party", "plan", "everyone", "guest", "others", "other"]) (sc := defScope sUnmet) (by decide +kernel))
          (fun _ _ _ _ _ => pg_tup rfl (pgs_cons (pg_name (i := 3) (x := "guest") scUnmet.nd rfl (.inr rfl) (.inl rfl)) (pgs_cons (pg_name (i := 4) (x := "others") scUnmet.nd rfl (.inr rfl) (.inl rfl)) pgs_nil))) (fun _ _ _ _ _ => pts_nil)
          (fun _ _ _ _ _ => pe_lc (own := [("other", 5)]) (g := gName 5) (wi := iList K (tVar 2)) (tt := tAnd (tTest (tOp rNe (tVar 5) (tVar 3))) (tTest (tOp (rIn K true) (tVar 5) (tVar 4)))) (te := tVar 5) (by rfl) scUnmet.nd (pi_list (pv 2))
            (blkOk_by (N := ["party", "plan", "everyone", "guest", "others", "other"]) (sc := oSc) (by decide +kernel))
            (fun _ _ _ _ _ => pg_name (i := 5) (x := "other") scUnmet.nd rfl (.inl rfl) (.inr rfl))
            (fun _ _ _ _ _ => pts_one (PW.pt (pw_and (pt_cmpR op_ne (pv 5) (pv 3) (nomark _)) (pw_and1 (pt_cmpR op_notIn_seq (pv 5) (pv 4) (by rfl))))))
            (fun _ _ _ _ _ => pv 5))))), ?_⟩
    have hg64 : g ≤ 64 := by have := hI.g64; omega
    have big : (64 : Nat) < sizeLine := by decide
    obtain ⟨dx, hp⟩ := id hP
    -- everyone
    refine ⟨.ref p, rfl, p, dx, _, rfl, hp, ng _ _, p, g, z, rfl, hP, g, rfl, ?_, fun ev nev => ?_⟩
    · exact RgOk.of_le (by decide) (by have := hI.g64; omega) (by decide) (by have := hI.g2; omega)
    have er : rgV 0 (g : Int) = (rangeI g).map V.int := rgV_range _
    rw [er]
    have s1 : Same H (upd H ev (.lst ((rangeI g).map V.int))) := same_new nev
    have hev : (upd H ev (.lst ((rangeI g).map V.int))) ev = some (.lst ((rangeI g).map V.int)) := upd_same
    generalize (upd H ev (.lst ((rangeI g).map V.int))) = H1 at s1 hev ⊢
    -- met(party, plan)
    refine ⟨.ref p, rfl, .ref l, rfl, p, l, g, z, rs, rfl, hP.same s1, hI, ⟨xs, s1.seq hl, paired_mono (fun _ _ h => h.mono (same_toT s1)) hxs⟩, hS, hR, fun H2 me s2 hme => ?_⟩
    obtain ⟨nme, us, hus, hrows⟩ := hme
    have hul : us.length = g := by rw [paired_len hrows, rowsM_len]
    have sm2 := s1.trans s2
    refine ⟨me, us, rfl, SqL.of hus, fun D nD => ?_⟩
    have nD0 : H D = none := sm2.free nD
    have sD : Same H2 (upd H2 D (.lst [])) := same_new nD
    refine lc_it (walk_enum (xs := us)) (fun i H5 => Same H2 H5 ∧ ∃ acc, H5 D = some (.lst acc) ∧ acc.length = i ∧ Paired (NewL H H5) acc (rowsM (unmetM g (pairsP rs)) i) ∧ ∀ y ∈ acc, ∀ q, y = .ref q → q ≠ D)
      ⟨sD, [], upd_same, rfl, .nil, by simp⟩ (fun i H5 _ h => SqL.of (h.1 _ _ hus)) (fun i x H5 H6 hi hJ y => ?_) (fun H5 hJ => ?_)
    · obtain ⟨sm5, acc, hD, hal, hrow, hne⟩ := hJ
      obtain ⟨T0, v1, v2, rfl, nT, rfl, g1, g2⟩ := y
      have e1 : v1 = .int ((i : Nat) : Int) := (Option.some.inj g1).symm
      subst e1
      obtain ⟨row, hr0, o, rfl, ho, no⟩ := paired_getL hrows g2
      have hig : i < g := by omega
      have hrowi : row = metM g (pairsP rs) ((i : Nat) : Int) := by
        have e := rowsM_get (metM g (pairsP rs)) hig
        rw [hr0] at e
        exact Option.some.inj e
      subst hrowi
      have sT : Same H5 (upd H5 T0 (.tup [.int ((i : Nat) : Int), .ref o])) := same_new nT
      refine ⟨T0, _, rfl, SqT.of upd_same, rfl, _, _, rfl, _, _, rfl, ⟨rfl, wipe_put2 (by decide) (by decide), yesT ?_⟩⟩
      have hD6 := sT _ _ hD
      have sm6 := sm5.trans sT
      have hrow6 := paired_mono (fun _ _ h => NewL.keep h sT) hrow
      generalize (upd H5 T0 (.tup [.int ((i : Nat) : Int), .ref o])) = H6 at sT hD6 sm6 hrow6 ⊢
      refine ⟨.ref ev, rfl, ev, rfl, ⟨_, SqL.of (sm6 _ _ (s2 _ _ hev))⟩, fun D2 nD2 => ?_⟩
      have nD2D : D2 ≠ D := fun z => by
        rw [z, hD6] at nD2
        cases nD2
      have sD2 : Same H6 (upd H6 D2 (.lst [])) := same_new nD2
      have ho6 := sm6 _ _ ho
      refine lc_it (walk_list (xs := (rangeI g).map V.int)) (fun m H7 => Same H6 H7 ∧ H7 D2 = some (.lst ((((rangeI g).take m).filter fun d => decide (d ≠ ((i : Nat) : Int) ∧ d ∉ metM g (pairsP rs) ((i : Nat) : Int))).map V.int))) ⟨sD2, by rw [List.take_zero]; exact upd_same⟩
        (fun m H7 _ h => SqL.of (h.1 _ _ (sm6 _ _ (s2 _ _ hev)))) (fun m x H7 H8 hm hM y => ?_) (fun H7 hM => ?_)
      · obtain ⟨rfl, hx⟩ := y
        obtain ⟨d, hd, rfl⟩ := getElem?_int hx
        obtain ⟨sm7, hD7⟩ := hM
        have hlen : (((rangeI g).take m).filter fun d => decide (d ≠ ((i : Nat) : Int) ∧ d ∉ metM g (pairsP rs) ((i : Nat) : Int))).length < sizeLine := by
          have e1 := (List.filter_sublist (p := fun d => decide (d ≠ ((i : Nat) : Int) ∧ d ∉ metM g (pairsP rs) ((i : Nat) : Int))) (l := (rangeI g).take m)).length_le
          rw [List.length_take, rangeI_len] at e1
          have big : (64 : Nat) < sizeLine := by decide
          omega
        refine ⟨wipe_put (by decide), ?_⟩
        refine ⟨.int d, rfl, .int ((i : Nat) : Int), rfl, rfl, _, rfl, ite2 (fun h1 => ?_) (fun h1 => ?_)⟩
        · refine ⟨.int d, rfl, .ref o, rfl, o, _, rfl, .inl (SqL.of (sm7 _ _ ho6)), rfl, flat_ints _, _, rfl, ite2 (fun h2 => ?_) (fun h2 => ?_)⟩
          · refine ⟨.int d, rfl, _, hD7, by rw [List.length_map]; exact hlen, same_put sm7 nD2, ?_⟩
            have hn : d ≠ ((i : Nat) : Int) := fun e => by
              rw [e] at h1
              simp at h1
            have hm : d ∉ metM g (pairsP rs) ((i : Nat) : Int) := fun e => by
              rw [inV_ints] at h2
              simp [e] at h2
            rw [upd_same, takeSucc hd, List.filter_append, List.map_append]
            simp [hn, hm]
          · refine ⟨sm7, ?_⟩
            have hm : d ∈ metM g (pairsP rs) ((i : Nat) : Int) := by
              rw [inV_ints] at h2
              simpa using h2
            rw [hD7, takeSucc hd, List.filter_append]
            simp [hm]
        · refine ⟨sm7, ?_⟩
          have hn : d = ((i : Nat) : Int) := by simpa using h1
          rw [hD7, takeSucc hd, List.filter_append]
          simp [hn]
      · obtain ⟨sm7, hD7⟩ := hM
        rw [List.length_map, List.take_of_length_le (Nat.le_refl _)] at hD7
        have nDD : H6 D2 = none := nD2
        refine ⟨acc, sm7 _ _ hD6, by omega, same_put (sm6.trans sm7) nD, acc ++ [.ref D2], upd_same, by simp [hal], ?_, fun y hy q e => ?_⟩
        · rw [rowsM_succ]
          refine newLL_snoc (sm7 _ _ hD6) (paired_mono (fun _ _ h => NewL.keep h sm7) hrow6) ⟨D2, rfl, hD7, (sm2.trans sm6).free nD2⟩ (fun q e => ?_) hne
          cases e
          exact nD2D
        · rcases List.mem_append.mp hy with hy | hy
          · exact hne y hy q e
          · rw [List.mem_singleton.mp hy] at e
            cases e
            exact nD2D
    · obtain ⟨sm5, acc, hD, hal, hrow, hne⟩ := hJ
      rw [hul] at hrow
      exact q H5 D (sm2.trans sm5) ⟨nD0, acc, hD, hrow⟩
end Nf

set_option Elab.async false
set_option linter.all false
set_option maxRecDepth 100000
set_option maxHeartbeats 4000000
namespace PySem
namespace BrX
open PySem.W PySem.Calls PyProof.Rows PySem.HandSPX
/-- what the written part says of BadRound, at C, its __init__ at fI, the cell of its class at cc -/
structure BrTxt (prog : Program) (K : Frag) (mg : Str → Option Value) (C fI : Addr) : Prop where
  gC : mg "BadRound" = some (.ref C)
  cls : ∃ nm q N bs bm sn sub ab col dd k0 k1 k2 k3 k5, K.lookup C = some (excClassObj nm q C N bs bm true sn sub ab col dd k0 k1 k2 k3 k5 "ValueError.__new__") ∧ refsVE bm = true
  sa : findIn K (.ref C) "__setattr__" = some (some (.builtin "object.__setattr__"))
  ga : findIn K (.ref C) "__getattribute__" = some (some (.builtin "BaseException.__getattribute__"))
  gg : findIn K (.ref C) "__getattr__" = some none
  noN : findIn K (.ref C) "number" = some none
  iC : findIn K (.ref C) "__init__" = some (some (.ref fI))
  tC : typeIn K (.ref fI) = some (.type "function")
  kC : keepIn K (.ref C) = true
  exC : subIn K (.ref C) (.type "BaseException") = some true
  veC : subIn K (.ref C) (.type "ValueError") = some true
  tyC : typeIn K (.ref C) = some (.type "type")
  hdC : hasDictIn K C = true
  te : exmOne K (.ref C) (.ref C) = some true
  mro : mroIn K C (.ref C) = some true
  up : ks_superIn K C C "__init__" = some (some (.builtin "ValueError.__init__"))
  opq : nsIn K cStatics "thirdparty.any" = some none
  gS : mg "super" = none
  top : (prog.main.scope.names.lookup ("super" : Str)).isSome = false
  fn : ∃ (oc : Value) (od : Option Addr) (doc pm : Value) (an : Option Addr) (cda : Addr) (ct : Value) (osl : Array (Option Value)) (cc : Addr) (cl : Value) (cld : Option Addr) (csl : Array (Option Value)) (ccl : Value) (cdd : Option Addr) (vs : Array Value) (ccs : Array (Option Value)) (file : Str) (tf : Tok),
    K.lookup fI = some ⟨oc, od, .func (ksFn "__init__" "BadRound.__init__" (L2.defArgs Nf.sBRInit) (L2.defBody Nf.sBRInit) (L2.defScope Nf.sBRInit) .none .none doc pm an (.ref cda) ct cc), osl⟩ ∧ codeIn K (.ref cda) "BadRound.__init__" = true ∧
    K.lookup cc = some ⟨cl, cld, .cell (some (.ref C)), csl⟩ ∧ K.lookup cda = some ⟨ccl, cdd, .fields vs, ccs⟩ ∧ vs[2]? = some (.str file tf) ∧ ((prog.main.file : Str) == file) = true
/-- what __init__ leaves of a fresh exception at x -/
structure InitEnd (h h' : Heap) (x C dx t1 : Addr) (v : Value) : Prop where
  keep : ∀ b o, b ≠ x → h.get? b = some o → h'.get? b = some o
  obj : h'.get? x = some { cls := .ref C, dict := some dx, data := .fields #[.ref t1, .none, .none, .none, .bool false, .none] }
  dbig : h.objs.size ≤ dx
  dne : dx ≠ x
  ns : h'.Ns1 dx (fun y => if y = "number" then some v else none)
section
variable {prog : Program} {w : World} {A : Around} {E : Value → Shared → Prop} {R : Result → Shared → Prop} {s : Shared} {K : Frag} {mg : Str → Option Value} {C fI : Addr}
theorem run_mw {h : Heap} {g : Array GenState} {d : Drawn} {t : Nat} {os : OsState} {nm q : Str} {N : Addr} {bs bm : List Value} {hdct : Bool} {sn : List Str} {sub : List Value} {ab : Bool} {col : Option Bool} {dd : Option Addr} {k0 k1 k2 k3 k5 : Option Value} {u x t0 : Addr} {us : List Value} {Q : Value → Shared → Prop}
    (cO : h.get? C = some (excClassObj nm q C N bs bm hdct sn sub ab col dd k0 k1 k2 k3 k5 "ValueError.__new__")) (xO : h.get? x = some (excO C t0)) (uO : h.get? u = some (kxs_mw "ValueError.__init__" x)) (hrest : us.length ≤ sizeLine)
    (fin : ∀ h' t1, (∀ b o, b ≠ x → h.get? b = some o → h'.get? b = some o) → h'.get? x = some (excO C t1) → Q .none ⟨h', g, d, t, os⟩) : wpAny (model prog w) A (call (.ref u) us) Q E ⟨h, g, d, t, os⟩ := by
  have cond : (Value.type "method-wrapper" == Value.type "method" || Value.type "method-wrapper" == Value.type "builtin_function_or_method" || Value.type "method-wrapper" == Value.type "method-wrapper") = true := by decide
  refine wpAny_call (codeAny_of_tree (show wpAny _ A.in1 (callAny (Value.ref u) { pos := us }) _ _ _ from ?_))
  simp only [callAny]
  refine wpAny_bind (wpAny_load uO ?_)
  simp only [kxs_mw, cond, if_true]
  refine KFB.if_so (by decide) (wpAny_bind (ESX.check_bound F.excBase_ValueError cO xO rfl (wpAny_bind (wpAny_pure (wpAny_pure ?_)))))
  refine ⟨Code.quiet_builtin _ (by decide +kernel), codeAny_builtin (F.excBase_ValueError).initEntry ?_⟩
  rw [Around.under_plainId (F.excBase_ValueError).init.plain _]
  wp_walk
  refine fin _ h.objs.size (fun b o nb ob => ?_) ?_
  · exact (Heap.get?_update_other _ _ (Ne.symm nb)).trans (Heap.get?_push_of_some _ ob)
  · exact Heap.get?_update_self _ (Heap.get?_push_of_some _ xO) rfl
theorem msg_len {n : Int} (hz : n.natAbs.log2 < 1920) : (Str.empty ++ Str.ofString "thing " ++ Str.ofString (toString n) ++ Str.ofString " of the plan is no round").length ≤ sizeLine := by
  have e := int_text_length_le (k := 1920) (by decide) hz
  rw [Str.length_append, Str.length_append, Str.length_append, ofString_length, ofString_length, ofString_length, sizeLine_eq]
  have e1 : ("thing " : String).length = 6 := by decide
  have e2 : (" of the plan is no round" : String).length = 24 := by decide
  have e3 : Str.empty.length = 0 := rfl
  omega
theorem br_init (T : BrTxt prog K mg C fI) {x t0 : Addr} {n : Int} {tn : Tok} (X : K.In s.heap) (hg : s.heap.Ns mainGlobals mg) (hb : ∃ mb, s.heap.Ns builtinsNs mb ∧ mb "super" = some (.type "super")) (hlim : s.heap.NoLimit) (hx : s.heap.get? x = some (excO C t0)) (hnx : K.lookup x = none)
    (hz : n.natAbs.log2 < 1920) (hroom : A.depth < recursionLimit) (hq : ∀ h' tk dx t1, InitEnd s.heap h' x C dx t1 (.int n tn) → R (.ok (.ret .none)) { s with heap := h', toks := tk }) :
    codeAny (model prog w) A (.call (.ref fI) ⟨[.ref x, .int n tn], []⟩) R s := by
  obtain ⟨oc, od, doc, pm, an, cda, ct, osl, cc, cl, cld, csl, ccl, cdd, vs, ccs, file, tf, ho, hcd, hcell, hcode, hvs, hfile⟩ := T.fn
  obtain ⟨nm, q, N, bs, bm, sn, sub, ab, col, dd, k0, k1, k2, k3, k5, hC, hbm⟩ := T.cls
  have hcl : clsIn K C = some { name := nm, bases := bs, mro := .ref C :: bm, ns := N, qualname := q, hasDict := true, slotNames := sn, subclasses := sub, abstract := ab, collection := col, hasDel := false } := by unfold clsIn; rw [hC] <;> rfl
  obtain ⟨mb, hmb, hsup⟩ := hb
  refine ks_codeAny_call_defAt (fd := ksFn "__init__" "BadRound.__init__" (L2.defArgs Nf.sBRInit) (L2.defBody Nf.sBRInit) (L2.defScope Nf.sBRInit) .none .none doc pm an (.ref cda) ct cc) (body := L2.defBody Nf.sBRInit) (binds := [("self", .ref x), ("number", .int n tn)]) hroom (X _ _ ho) rfl hlim (codeRec_of X hcd) rfl
    (BindsTo.of_eq (by first | rfl | with_unfolding_all rfl)) (show ∀ y ∈ (L2.defScope Nf.sBRInit).names, y.2 ≠ .cell by decide +kernel) (fun y hy => ?hl) (fun h₁ hns k => ?_) rfl rfl rfl
  case hl =>
    show (L2.defScope Nf.sBRInit).names.lookup y.1 = some .local
    rcases List.mem_cons.mp hy with rfl | hy
    · rfl
    · rw [List.mem_singleton.mp hy]
      rfl
  have X₁ : K.In h₁ := X.keeps k
  have hx₁ := k _ _ hx
  have I₁ : W.InstAt h₁ x (excO C t0) C none := ⟨hx₁, rfl, rfl, trivial⟩
  refine ks_wpAt_execs_cons (ks_wpAt_Expr_any (ks_wpAt_MethodCall (ks_wpAt_super_base (of := ⟨oc, od, .func (ksFn "__init__" "BadRound.__init__" (L2.defArgs Nf.sBRInit) (L2.defBody Nf.sBRInit) (L2.defScope Nf.sBRInit) .none .none doc pm an (.ref cda) ct cc), osl⟩) (oc := ⟨ccl, cdd, .fields vs, ccs⟩) (ar := { arg := "self", annotation := none, pos := ⟨8, 17, 8, 21⟩ }) rfl rfl (by decide +kernel) rfl (X₁ _ _ ho) rfl rfl rfl (X₁ _ _ hcode) rfl hvs hfile T.top ?_)))
  refine ks_loadName_global rfl rfl (loadGlobal_builtin (hg.keeps k) T.gS (hmb.keeps k) hsup ⟨rfl, ?_⟩)
  refine wpAny_loadName_free rfl rfl rfl ⟨_, X₁ _ _ hcell, rfl⟩ ?_
  refine wpAny_loadName_local rfl rfl hns rfl ?_
  refine ks_wpAny_isType_cls (X₁ _ _ hC) rfl ⟨rfl, ?_⟩
  refine ks_wpAny_call_super (X₁ _ _ hC) rfl hx₁ rfl (fun c e => nomatch e) (looks_mroIn X₁ T.mro) (fun h₂ hso k₂ => ?_)
  have X₂ : K.In h₂ := X₁.keeps k₂
  have I₂ : W.InstAt h₂ x (excO C t0) C none := ⟨k₂ _ _ hx₁, rfl, rfl, trivial⟩
  have hm := T.up
  unfold ks_superIn at hm
  rw [hcl] at hm
  refine kxs_getMethod kxs_ValueError hso (looks_opaque X₂ T.opq) (l₀ := .ref C :: bm) (fun A Q E s kk qq => wpAny_bind ((looks_clsIn X₂ hcl) A _ E s kk (wpAny_pure qq))) rfl X₂ hm (I₂.type.andThen (looks_subIn X₂ T.veC)) (ks_ne X₂ I₂ hcl) rfl ?_
  have up₃ : ∀ b o, h₂.get? b = some o → (h₂.push (kxs_mw "ValueError.__init__" x)).get? b = some o := fun b o e => Heap.get?_push_of_some _ e
  have hu₃ : (h₂.push (kxs_mw "ValueError.__init__" x)).get? h₂.objs.size = some (kxs_mw "ValueError.__init__" x) := Heap.get?_push_at rfl rfl
  generalize h₂.objs.size = u at hu₃
  have k₃ : ∀ b o, h₁.get? b = some o → (h₂.push (kxs_mw "ValueError.__init__" x)).get? b = some o := fun b o e => up₃ b o (k₂ b o e)
  generalize (h₂.push (kxs_mw "ValueError.__init__" x)) = h₃ at up₃ hu₃ k₃
  have ns₃ := hns.keeps k₃
  have hx₃ := k₃ _ _ hx₁
  have X₃ : K.In h₃ := X₁.keeps k₃
  refine kxs_callWith (x := x) (i := "ValueError.__init__") rfl (evalArgs_plain (args_cons (wpAny_JoinedStr ?_) rfl))
  refine wpAny_Constant_str ⟨"thing ", _, rfl, by decide, ?_⟩
  refine wpAny_FormattedValue_plain (wpAny_Name (wpAny_loadName_local rfl rfl ns₃ rfl ?_) (by decide))
  refine wpAny_formatField_int hz ⟨_, _, rfl, ?_, ?_⟩
  · refine Nat.le_trans ?_ (msg_len hz)
    rw [Str.length_append (_ ++ _ ++ _)]
    exact Nat.le_add_right _ _
  refine wpAny_Constant_str ⟨" of the plan is no round", _, rfl, ?_, ?_⟩
  · exact msg_len hz
  refine ⟨?_, args_nil ⟨hu₃, ?_⟩⟩
  · exact msg_len hz
  show wpAny _ _ (call (Value.ref u) [_]) _ _ _
  refine run_mw (X₃ _ _ hC) hx₃ hu₃ (by show 1 ≤ sizeLine; decide) (fun h₄ t1 k₄ hx₄ => ?_)
  have kk₄ : ∀ b o, b ≠ x → h₁.get? b = some o → h₄.get? b = some o := fun b o nb e => k₄ b o nb (k₃ b o e)
  have hxL : s.heap.objs.size ≠ x := Nat.ne_of_gt (Heap.lt_size hx)
  obtain ⟨oL, esL, epL, hL, rL⟩ := hns
  have ns₄ : h₄.Ns s.heap.objs.size (fun y => ([(PySem.Str.ofString "self", Value.ref x), (PySem.Str.ofString "number", Value.int n tn)] : List (Str × Value)).reverse.lookup y) := ⟨oL, esL, epL, kk₄ _ _ hxL hL, rL⟩
  have X₄ : K.In h₄ := fun b o e => k₄ b o (fun z => by rw [z, hnx] at e; cases e) (X₃ b o e)
  refine ks_wpAt_execs_cons (wpAt_of_wpAny (plainObj_wpAny_Assign_Attribute ?_))
  refine wpAny_Name (wpAny_loadName_local rfl rfl ns₄ rfl ?_) (by decide)
  refine wpAny_Name (wpAny_loadName_local rfl rfl ns₄ rfl ?_) (by decide)
  refine set_plain X₄ (ox := excO C t1) (od := none) ⟨hx₄, rfl, rfl, trivial⟩ T.sa ?_
  refine exc_osa X₄ hx₄ hcl (show refsVE (.ref C :: bm) = true from hbm) rfl T.noN (fun h₅ tk₅ dx k₅ dn dne hx₅ hn₅ => ?_)
  exact wpAt_of_wpAny (wpAny_execs_nil (hq h₅ tk₅ dx t1 ⟨fun b o nb e => k₅ b o nb (kk₄ b o nb (k b o e)), hx₅, Nat.le_trans (Nat.le_of_lt ns₄.lt) dn, dne, hn₅⟩))
end
end BrX
end PySem

set_option Elab.async false
set_option linter.all false
set_option maxRecDepth 100000
set_option maxHeartbeats 4000000
namespace PySem
namespace BrX
open PySem.W PySem.Calls PyProof.Rows PySem.HandSPX
/-- a made BadRound -/
structure OwnMade (h h' : Heap) (e C d : Addr) (v : Value) : Prop where
  keep : ∀ b o, h.get? b = some o → h'.get? b = some o
  new : h.objs.size ≤ e
  obj : ∃ oe vs, h'.get? e = some oe ∧ oe.cls = .ref C ∧ oe.dict = some d ∧ oe.data = .fields vs ∧ vs[1]? = some .none
  dbig : h.objs.size ≤ d
  dne : d ≠ e
  ns : h'.Ns1 d (fun y => if y = "number" then some v else none)
section
variable {prog : Program} {w : World} {A : Around} {E : Value → Shared → Prop} {R : Result → Shared → Prop} {s : Shared} {K : Frag} {mg : Str → Option Value} {C fI : Addr}
theorem one_size (v : Value) : [v].length ≤ sizeLine := by
  rw [sizeLine_eq]
  exact (by decide : 1 ≤ 16777216)
theorem br_made (T : BrTxt prog K mg C fI) {n : Int} {tn : Tok} (X : K.In s.heap) (hg : s.heap.Ns mainGlobals mg) (hb : ∃ mb, s.heap.Ns builtinsNs mb ∧ mb "super" = some (.type "super")) (hlim : s.heap.NoLimit) (hz : n.natAbs.log2 < 1920) (hroom : A.depth + 1 < recursionLimit)
    (hq : ∀ h' tk e d, OwnMade s.heap h' e C d (.int n tn) → R (.ok (.ret (.ref e))) { s with heap := h', toks := tk }) :
    codeAny (model prog w) A (.call (.ref C) ⟨[.int n tn], []⟩) R s := by
  obtain ⟨nm, q, N, bs, bm, sn, sub, ab, col, dd, k0, k1, k2, k3, k5, hC, hbm⟩ := T.cls
  obtain ⟨mb, hmb, hsup⟩ := hb
  obtain ⟨hp, g, dr, tk, os⟩ := s
  have k : ∀ b o, hp.get? b = some o → ((hp.push (kdv_tup [.int n tn])).push (excO C hp.objs.size)).get? b = some o := fun b o e => Heap.get?_push_of_some _ (Heap.get?_push_of_some _ e)
  have hget : ((hp.push (kdv_tup [.int n tn])).push (excO C hp.objs.size)).get? (hp.objs.size + 1) = some (excO C hp.objs.size) := by heap_get
  have hnx : K.lookup (hp.objs.size + 1) = none := by
    cases e : K.lookup (hp.objs.size + 1) with
    | none => rfl
    | some o =>
      have z : hp.get? (hp.objs.size + 1) = some o := X _ _ e
      exact absurd (Nat.lt_of_succ_lt (Heap.lt_size z)) (Nat.lt_irrefl _)
  refine call_own F.excBase_ValueError (fun X => refsVE_contains X bm hbm) (X _ _ hC) (looks_findIn X T.iC) (fun self => bind_fn X self T.tC) (one_size _) ?_
  refine br_init (s := ⟨(hp.push (kdv_tup [.int n tn])).push (excO C hp.objs.size), g, dr, tk, os⟩) T (X.keeps k) (hg.keeps k) ⟨mb, hmb.keeps k, hsup⟩ (hlim.keeps k) hget hnx hz ?_ fun h' tk' dx t1 ⟨k', hx, dn, dne, hns⟩ => ?_
  · show A.depth + 1 < recursionLimit
    exact hroom
  · have old : ∀ b o, hp.get? b = some o → h'.get? b = some o := fun b o e => k' b o (Nat.ne_of_lt (Nat.lt_succ_of_lt (Heap.lt_size e))) (k b o e)
    have z : hp.objs.size + 1 + 1 ≤ dx := by
      first
        | (simpa only [Heap.size_push] using dn)
        | exact dn
        | (have q := dn; rw [Heap.size_push, Heap.size_push] at q; exact q)
    exact ⟨rfl, hq h' tk' (hp.objs.size + 1) dx ⟨old, Nat.le_succ _, ⟨_, _, hx, rfl, rfl, rfl, rfl⟩, Nat.le_trans (Nat.le_trans (Nat.le_succ _) (Nat.le_succ _)) z, dne, hns⟩⟩
end
end BrX
end PySem
namespace L2
open PySem PySem.Spec PyProof.Rows
theorem relO_br {v : V} {v' : Value} (r : RelV v v') (f : Str) : RelO (List.lookup f [(("number" : Str), v)]) (if f = "number" then some v' else none) := by
  by_cases hw : f = "number"
  · subst hw
    rw [if_pos rfl]
    have q : List.lookup ("number" : Str) [(("number" : Str), v)] = some v := by simp [List.lookup]
    rw [q]
    exact r
  · rw [if_neg hw]
    have qw : (f == ("number" : Str)) = false := by simpa using hw
    have q2 : List.lookup f [(("number" : Str), v)] = none := by simp [List.lookup, qw]
    rw [q2]
    trivial
section
variable {X : Cx} {C fI : Addr}
/-- BadRound(e) -/
def tMkBr (C : Addr) (ta : TA) : St → Hp → XK → Prop := fun σ H Q => ta σ H fun vs H1 => ∃ n : Int, vs = [.int n] ∧ n.natAbs.log2 < 1920 ∧ ∀ d, H1 d = none → Q (.ref C) (some d) (upd H1 d (.xd [(("number" : Str), .int n)]))
theorem pmk_br {a : Expr} {ta : TA} {p pos : Pos} {k : Nat} (T : PySem.BrX.BrTxt X.prog X.K X.mg C fI) (hr : Room k X.A) (ha : PA X [a] ta) (hg : Gl X "BadRound" := by rfl)
    (he : starEach (a :: []) X.env = (false, eval a X.env) :: starEach [] X.env := by rfl) (hpl : (backTo pos (starEach [] X.env)).any (·.1) = false := by rfl) :
    PMk X (.Call (.Name "BadRound" p) [a] [] pos) (tMkBr C ta) := by
  intro pins s σ H Q I h
  refine wpAny_Call_Name_kw (ld_glob I hg T.gC ?_)
  refine PySem.W.callWith_K (h₀ := X.base) I.ok.mod.kin T.kC (thn (ha.run pos pins s σ H _ I h) fun us s1 hh => ?_) he hpl
  obtain ⟨vs, H1, I1, r1, n, ev, hz, q1⟩ := hh
  subst ev
  refine ⟨I1.kIn, ?_⟩
  cases r1 with
  | cons rv rn =>
    rename_i v' us'
    cases rn
    obtain ⟨tn, rfl⟩ := rv
    show wpAny _ _ (call (.ref C) [.int n tn]) _ _ _
    have hlim := I1.nolimit
    have hglob : s1.heap.Ns mainGlobals X.mg := I1.mod.glob.keeps I1.bk
    have hblt : ∃ mb, s1.heap.Ns builtinsNs mb ∧ mb "super" = some (.type "super") := by
      obtain ⟨mb, h1, h2⟩ := I1.mod.blt
      exact ⟨mb, h1.keeps I1.bk, (h2 "super" (by decide)).trans (by first | rfl | decide +kernel)⟩
    obtain ⟨hp, g, dr, tk, os⟩ := s1
    refine wpAny_call (PySem.BrX.br_made T I1.kIn hglob hblt hlim hz (by have := hr.dp; omega) fun h' tk' e d M => ?_)
    show MkP X pins σ Q (.ref e) ⟨h', g, dr, tk', os⟩
    obtain ⟨oe, fv, hoe, hc, hd, hdat, h1⟩ := M.obj
    have hns := M.ns
    obtain ⟨G', g1, g2⟩ := restrict h' fun b => decide (b ≠ e)
    have gk : ∀ b, b ≠ e → G'.get? b = h'.get? b := fun b hb => g1 b (decide_eq_true hb)
    have ge : G'.get? e = none := g2 e (by simp)
    have old : ∀ b o, hp.get? b = some o → G'.get? b = some o := fun b o q => (gk b (Nat.ne_of_lt (Nat.lt_of_lt_of_le (Heap.lt_size q) M.new))).trans (M.keep b o q)
    have ob : ObjOk X.prog X.w (upd H1 d (.xd [(("number" : Str), .int n)])) G' d (.xd [(("number" : Str), .int n)]) :=
      ⟨_, hns.at (fun o q => (gk d M.dne).trans q), fun f => relO_br (v := .int n) (v' := .int n tn) ⟨tn, rfl⟩ f⟩
    have J : Inv X pins σ (upd H1 d (.xd [(("number" : Str), .int n)])) ⟨G', g, dr, tk', os⟩ := I1.laid (t' := tk') old M.dbig ob
    refine ⟨e, oe, fv, ⟨G', g, dr, tk', os⟩, _, .ref C, some d, rfl, J, fun b o q => ?_, ge, hoe, ⟨hc, hd⟩, hdat, h1, ?_, rfl, I1.bare, raises_own T.exC T.tyC, q1 d (I1.hok.fresh M.dbig)⟩
    · by_cases hb : b = e
      · have q' : G'.get? b = some o := q
        rw [hb, ge] at q'; cases q'
      · exact (gk b hb).symm.trans q
    · rw [upd_ne (Ne.symm M.dne)]
      exact I1.hok.fresh M.new
/-- raise BadRound(e) -/
def tRaiseBr (C : Addr) (W : WX) (ta : TA) : TS := fun _ σ H => tMkBr C ta σ H fun cls d H' => W cls d σ H'
theorem ps_raiseBr {a : Expr} {ta : TA} {W : WX} {p pos pos2 : Pos} {k : Nat} (hc : X.calm = true) (T : PySem.BrX.BrTxt X.prog X.K X.mg C fI) (hr : Room k X.A) (tk : Takes X W) (ha : PA X [a] ta) (hg : Gl X "BadRound" := by rfl)
    (he : starEach (a :: []) X.env = (false, eval a X.env) :: starEach [] X.env := by rfl) (hpl : (backTo pos (starEach [] X.env)).any (·.1) = false := by rfl) :
    PS X (.Raise (some (.Call (.Name "BadRound" p) [a] [] pos)) none pos2) (tRaiseBr C W ta) := ps_raise hc tk (pmk_br T hr ha hg he hpl)
/-- e.number, e the exception that the suite holds (at a; its class cls, its dict d) -/
def tByBr (C : Addr) (a : Addr) (cls : Value) (d : Option Addr) (te : TE) : TE := fun σ H Q => te σ H fun x H1 => x = .ref a ∧ cls = .ref C ∧ ∃ (dd : Addr) (v : V), d = some dd ∧ H1 dd = some (.xd [(("number" : Str), v)]) ∧ Q v H1
theorem pe_byBr {a : Addr} {oe : Obj} {cls : Value} {d : Option Addr} {pn : List (Addr × Obj)} {e : Expr} {te : TE} {pos : Pos} (T : PySem.BrX.BrTxt X.prog X.K X.mg C fI) (hz : Zc cls d oe) (hf : ∃ vs, oe.data = .fields vs) (he : PE (X.suite a ((a, oe) :: pn)) e te)
    (hb : attributeBase e "number" X.env (eval e X.env) = eval e X.env := by rfl) :
    PE (X.suite a ((a, oe) :: pn)) (.Attribute e "number" pos) (tByBr C a cls d te) := by
  refine ⟨fun pins s σ H Q I h => ?_⟩
  refine attr_of hb (thn (he.run pins s σ H _ I h) fun u s1 hh => ?_)
  obtain ⟨x, H1, I1, rx, ex, ec, dd, v, ed, ea, q⟩ := hh
  subst ex
  obtain rfl : u = Value.ref a := rx
  subst ec
  subst ed
  obtain ⟨ha, _⟩ := I1.pin (a, oe) (List.mem_append_left _ List.mem_cons_self)
  obtain ⟨vs, hd⟩ := hf
  have hx : ObjOk X.prog X.w H1 s1.heap dd (.xd [(("number" : Str), v)]) := I1.hok dd _ ea
  obtain ⟨mA, hns, hr⟩ := hx
  obtain ⟨od, ho, hl⟩ := lookIn_ns hns
  have l : List.lookup ("number" : Str) [(("number" : Str), v)] = some v := by simp [List.lookup]
  obtain ⟨u, hu, ru⟩ := RelO.some_of (v := v) (o := mA "number") (by rw [← l]; exact hr "number")
  have J : PySem.W.InstAt s1.heap a oe C (some od) := ⟨ha, hz.1, by unfold PySem.W.notCls; rw [hd] <;> rfl, by rw [hz.2]; exact ho⟩
  exact HandSPX.exc_get I1.kIn J T.ga T.gg T.exC (PySem.W.findObj_own T.hdC T.noN rfl (by rw [hl, hu])) (handed_of ru) ⟨v, H1, I1.tok _, ru, q⟩
end
end L2

set_option Elab.async false
set_option linter.all false
set_option maxRecDepth 100000
set_option maxHeartbeats 4000000
namespace L2
open PySem PySem.Spec PyProof.Rows
/-- what the class D says, so that isinstance asks its instances rightly (they have a dict) -/
structure ExcD (K : PySem.W.Frag) (D : Addr) : Prop where
  hc : (PySem.W.clsIn K D).isSome = true
  hg : PySem.W.findIn K (.ref D) "__getattribute__" = some (some (.builtin "BaseException.__getattribute__"))
  hk : PySem.W.findIn K (.ref D) "__getattr__" = some none
  hs : PySem.W.subIn K (.ref D) (.type "BaseException") = some true
  ha : PySem.W.findIn K (.ref D) "__class__" = some (some (.builtin "object.__class__"))
  hn : PySem.W.specialIn K (.builtin "object.__class__") "__get__" = some (some (.builtin "getset_descriptor.__get__"))
  ht : PySem.W.takesIn K (.builtin "object.__class__") = some true
  hm : PySem.W.mroIn K D (.type "object") = some true
/-- isinstance(e, c), e the exception that the suite holds, of the class at D, with a dict at dd -/
def rIsD (K : PySem.W.Frag) (D a : Addr) (cls : Value) (d : Option Addr) : List V → Hp → VK → Prop := fun xs H Q => ∃ (c : V) (cv : Value) (b : Bool) (fs : List (Str × V)) (dd : Addr), cls = .ref D ∧ d = some dd ∧ xs = [.ref a, c] ∧ (∀ u, RelV c u → u = cv) ∧ PySem.W.kitOne K (.ref D) cv = some b ∧ H dd = some (.xd fs) ∧ Q (.bl b) H
theorem call_isD {X : Cx} {a D : Addr} {cls : Value} {d : Option Addr} {oe : Obj} {pn : List (Addr × Obj)} (C : ExcD X.K D) (hz : Zc cls d oe) (hf : ∃ vs, oe.data = .fields vs) : CallR (X.suite a ((a, oe) :: pn)) (.builtin "isinstance") (rIsD X.K D a cls d) := by
  intro pins s σ H xs us Q I r h
  obtain ⟨c, cv, b, fs, dd, rfl, rfl, rfl, hcv, e, ed, q⟩ := h
  cases r with
  | cons rx rr =>
    cases rr with
    | cons rt rr =>
      cases rr
      cases rx
      have ec := hcv _ rt
      subst ec
      obtain ⟨hget, _⟩ := I.pin (a, oe) (List.mem_append_left _ List.mem_cons_self)
      obtain ⟨vs, hv⟩ := hf
      have hx : ObjOk X.prog X.w H s.heap dd (.xd fs) := I.hok dd _ ed
      obtain ⟨mA, hns, hr⟩ := hx
      obtain ⟨od, ho, hl⟩ := lookIn_ns hns
      have J : PySem.W.InstAt s.heap a oe D (some od) := ⟨hget, hz.1, by unfold PySem.W.notCls; rw [hv] <;> rfl, by rw [hz.2]; exact ho⟩
      exact PySem.W.kia_one (PySem.W.kitx_exc C.hc C.hg C.hk C.hs C.ha C.hn C.ht C.hm) I.kIn J e (fun z => nomatch z) fun tk => ⟨.bl b, H, I.kept (t' := tk) fun _ _ z => z, rfl, q⟩
end L2

set_option Elab.async false
set_option linter.all false
set_option maxRecDepth 100000
set_option maxHeartbeats 4000000
namespace Nf
open PySem PySem.Spec PyProof.Rows L2
variable {P : Program} {w : World} {K : PySem.W.Frag} {mg : Str → Option Value} {base : Heap}
/-! ### check_plan of a plan with a thing that is no round -/
/-- thing k is the first that is no round -/
def FirstBad (g s : Int) (rs : List Rnd) (k : Nat) : Prop := ∃ r, rs[k]? = some r ∧ ¬ IsRound g s r ∧ ∀ i, i < k → ∀ r, rs[i]? = some r → IsRound g s r
def spCheckBad (K : PySem.W.Frag) (C CB : Addr) : Sp := fun vs H _ E => ∃ (p l : Addr) (g s : Int) (rs : List Rnd) (k : Nat), vs = [.ref p, .ref l] ∧ PartyV C H p g s ∧ IsParty g s ∧ PlanV K H l rs ∧ Small rs ∧ FirstBad g s rs k ∧
  ∀ H' d, Same H H' → H d = none → H' d = some (.xd [(("number" : Str), .int (k : Nat))]) → E (.ref CB) (some d) H'
theorem ok_checkBad {f fI C CB fB : Addr} {fd fdI : FuncData} (F : Fun K "check_plan" "check_plan" sCheck f fd) (B : Blt mg) (TB : PySem.BrX.BrTxt P K mg CB fB) (GI : FnOk P w K mg base CX0 3 fI fdI ["party", "thing"] (spIsRound C)) (FI : Fun K "is_round" "is_round" sIsRound fI fdI) (bI : Binds K fdI ["party", "thing"] []) (gI : mg "is_round" = some (.ref fI)) :
    FnOk P w K mg base (L2.CX P w) 4 f fd ["party", "plan"] (spCheckBad K C CB) := by
  refine F.okX scCheck (fun vs H Q E h => ?_) (fun cdv A outer s H vs Q E hr h => ?_)
  · obtain ⟨p, l, g, s, rs, k, rfl, _⟩ := h
    rfl
  · obtain ⟨p, l, g, z, rs, kb, rfl, hP, hI, ⟨xs, hl, hxs⟩, hS, hbad, q⟩ := h
    refine ⟨_, pss_one (ps_for (passes_of rfl) rfl (pi_enum (by rfl) B.enumerate (pa_cons (pv 1) pa_nil)) (pg_tup rfl (pgs_cons (pg_name (i := 2) scCheck.nd rfl (.inl rfl)) (pgs_cons (pg_name (i := 3) scCheck.nd rfl (.inl rfl)) pgs_nil)))
        (pss_one (ps_if (pt_not (pt_val (pe_call GI hr (by rfl) gI FI.kp bI .nil pass0 (pa_cons (pv 0) (pa_cons (pv 3) pa_nil))))) (pss_one (ps_raiseBr rfl TB hr (takes_of rfl rfl rfl rfl) (pa_cons (pv 2) pa_nil))) pss_nil))), ?_⟩
    have hxl := paired_len hxs
    obtain ⟨rb, hrb, hnb, hgood⟩ := hbad
    refine ⟨.ref l, rfl, l, xs, rfl, hl, ?_⟩
    refine for_it (walk_enum (xs := xs)) (fun i σ H2 => ∃ (y3 y4 : Option V), σ = [some (.ref p), some (.ref l), y3, y4] ∧ Same H H2 ∧ i ≤ kb)
      ⟨none, none, rfl, Same.refl _, Nat.zero_le _⟩ (fun i σ H2 _ h => ?_) (fun i x σ H2 H3 hi hI2 y => ?_) (fun σ H2 hI2 => ?_)
    · obtain ⟨_, _, _, sm, _⟩ := h
      exact sm.seq hl
    · obtain ⟨y3, y4, rfl, sm, hik⟩ := hI2
      obtain ⟨T, v1, v2, rfl, nT, rfl, g1, g2⟩ := y
      have e1 : v1 = .int ((i : Nat) : Int) := (Option.some.inj g1).symm
      subst e1
      obtain ⟨r, hr0, hrx⟩ := paired_getL hxs g2
      have hmem : r ∈ rs := List.mem_of_getElem? hr0
      have sT : Same H2 (upd H2 T (.tup [.int ((i : Nat) : Int), v2])) := same_new nT
      refine ⟨T, _, rfl, SqT.of upd_same, rfl, _, _, rfl, _, _, rfl, ⟨rfl, ?_⟩⟩
      have sm3 := sm.trans sT
      refine ⟨.ref p, rfl, v2, rfl, p, g, z, v2, r, rfl, hP.same sm3, hI, hrx.mono (same_toT sm3), hS.r r hmem, hS.t r hmem, fun b H4 s4 hb => ?_⟩
      have sm4 := sm3.trans s4
      by_cases hk : i = kb
      · subst hk
        rw [hrb] at hr0
        cases hr0
        have eb : b = false := by
          cases b with
          | false => rfl
          | true => exact absurd (hb.mp rfl) hnb
        subst eb
        have hi64 : i < 2 ^ 1000 := by
          have := hS.n
          have e : (1000 : Nat) < 2 ^ 1000 := by decide +kernel
          omega
        refine ⟨_, rfl, iteT ?_⟩
        refine ⟨.int ((i : Nat) : Int), rfl, ((i : Nat) : Int), rfl, ?_, fun d hd => q _ d (sm4.trans (same_new hd)) (sm4.free hd) upd_same⟩
        show ((i : Nat) : Int).natAbs.log2 < 1920
        rw [Int.natAbs_natCast]
        exact Nat.lt_of_le_of_lt (Nat.log2_le_self i) (by have := hS.n; omega)
      · have eb : b = true := hb.mpr (hgood i (by omega) r hr0)
        subst eb
        exact ⟨_, rfl, iteF ⟨_, _, rfl, sm4, by omega⟩⟩
    · obtain ⟨_, _, rfl, sm, hik⟩ := hI2
      have := (List.getElem?_eq_some_iff.mp hrb).1
      omega
/-- the same of met -/
theorem ok_metBad {f fC C CB : Addr} {fd fdC : FuncData} (F : Fun K "met" "met" sMet f fd) (GC : FnOk P w K mg base (L2.CX P w) 4 fC fdC ["party", "plan"] (spCheckBad K C CB)) (FC : Fun K "check_plan" "check_plan" sCheck fC fdC) (bC : Binds K fdC ["party", "plan"] []) (gC : mg "check_plan" = some (.ref fC)) :
    FnOk P w K mg base (L2.CX P w) 5 f fd ["party", "plan"] (spCheckBad K C CB) := by
  refine F.okX scMet (fun vs H Q E h => ?_) (fun cdv A outer s H vs Q E hr h => ?_)
  · obtain ⟨p, l, g, s, rs, k, rfl, _⟩ := h
    rfl
  · obtain ⟨p, l, g, z, rs, kb, rfl, hP, hI, hPl, hS, hbad, q⟩ := h
    refine ⟨_, pss_cons (ps_expr (pe_call GC hr (by rfl) gC FC.kp bC .nil (passes_call (takes_of rfl rfl rfl rfl) (fun _ _ _ _ h => h)) (pa_cons (pv 0) (pa_cons (pv 1) pa_nil)))) pss_never, ?_⟩
    exact ⟨.ref p, rfl, .ref l, rfl, p, l, g, z, rs, kb, rfl, hP, hI, hPl, hS, hbad, q⟩
end Nf

set_option Elab.async false
set_option linter.all false
set_option maxRecDepth 100000
set_option maxHeartbeats 4000000
namespace Nf
open PySem PySem.Spec PyProof.Rows L2
variable {P : Program} {w : World} {K : PySem.W.Frag} {mg : Str → Option Value} {base : Heap}
/-! ### two ways of one def -/
theorem fnOk_toX {CX : CXT} {k : Nat} {f : Addr} {fd : FuncData} {ps : List Str} {sp : Sp} (F : FnOk P w K mg base CX0 k f fd ps sp) : FnOk P w K mg base CX k f fd ps sp :=
  ⟨F.len, fun A outer s H args us vs Q E hr he hb hv hs => codeAny_mono (F.run A outer s H args us vs Q E hr he hb hv hs) fun r s' h => by
    cases r with
    | error e => exact False.elim h
    | ok fl => cases fl <;> exact h⟩
theorem fnOk_or {CX : CXT} {k : Nat} {f : Addr} {fd : FuncData} {ps : List Str} {sp sp' sp'' : Sp} (F : FnOk P w K mg base CX k f fd ps sp) (G : FnOk P w K mg base CX k f fd ps sp') (h : ∀ vs H Q E, sp'' vs H Q E → sp vs H Q E ∨ sp' vs H Q E) : FnOk P w K mg base CX k f fd ps sp'' :=
  ⟨fun vs H Q E hs => (h vs H Q E hs).elim (F.len vs H Q E) (G.len vs H Q E), fun A outer s H args us vs Q E hr he hb hv hs => (h vs H Q E hs).elim (F.run A outer s H args us vs Q E hr he hb hv) (G.run A outer s H args us vs Q E hr he hb hv)⟩
theorem first_bad {g s : Int} : ∀ {rs : List Rnd}, (∀ r ∈ rs, IsRound g s r) ∨ ∃ k, FirstBad g s rs k
  | [] => .inl fun _ h => by simp at h
  | r :: rs => by
    by_cases hr : IsRound g s r
    · rcases first_bad (g := g) (s := s) (rs := rs) with h | ⟨k, rb, h1, h2, h3⟩
      · exact .inl fun x hx => by
          rcases List.mem_cons.mp hx with rfl | hx
          · exact hr
          · exact h x hx
      · refine .inr ⟨k + 1, rb, by simpa using h1, h2, fun i hi x hx => ?_⟩
        cases i with
        | zero =>
          have e : r = x := by simpa using hx
          rw [← e]
          exact hr
        | succ i => exact h3 i (by omega) x (by simpa using hx)
    · exact .inr ⟨0, r, rfl, hr, fun i hi => by omega⟩
/-! ### unmet refuses -/
theorem ok_unmetBad {f fM fG C CB : Addr} {fd fdM fdG : FuncData} (F : Fun K "unmet" "unmet" sUnmet f fd) (B : Blt mg) (T : Txt K mg C) (GM : FnOk P w K mg base (L2.CX P w) 5 fM fdM ["party", "plan"] (spCheckBad K C CB)) (FM : Fun K "met" "met" sMet fM fdM) (bM : Binds K fdM ["party", "plan"] []) (gM : mg "met" = some (.ref fM))
    (FG : Fun K "guests" "Party.guests" sGuests fG fdG) (bG : Binds K fdG ["self"] []) (mG : Meth K C "guests" fG) :
    FnOk P w K mg base (L2.CX P w) 6 f fd ["party", "plan"] (spCheckBad K C CB) := by
  have GG : FnOk P w K mg base CX0 1 fG fdG ["self"] (spGuests C) := ok_guests FG T
  have ng : ∀ g s, (pf g s).lookup ("guests" : Str) = none := fun g s => pf_no _ _ (by decide +kernel) (by decide +kernel)
  refine F.okX scUnmet (fun vs H Q E h => ?_) (fun cdv A outer s H vs Q E hr h => ?_)
  · obtain ⟨p, l, g, s, rs, k, rfl, _⟩ := h
    rfl
  · obtain ⟨p, l, g, z, rs, kb, rfl, hP, hI, ⟨xs, hl, hxs⟩, hS, hbad, q⟩ := h
    have hr1 : Room 1 _ := hr.mono (by decide)
    refine ⟨_, pss_cons (ps_set (i := 2) scUnmet.nd rfl (.inr rfl) (pe_listRg rfl (by rfl) B.list (prg_1 (by rfl) B.range (pe_meth0 (pv 0) T.cl mG GG hr1 bG .nil pass0))))
      (pss_one (ps_ret (pe_lc (own := [("guest", 3), ("others", 4)]) (g := gTup K 2 (gCons (gName 3) (gCons (gName 4) gNil))) (tt := tYes) (by rfl) scUnmet.nd (pi_enum (by rfl) B.enumerate (pa_cons (pe_call GM hr (by rfl) gM FM.kp bM .nil (passes_call (takes_of rfl rfl rfl rfl) (fun _ _ _ _ h => h)) (pa_cons (pv 0) (pa_cons (pv 1) pa_nil))) pa_nil))
          (blkOk_by (N := ["party", "plan", "everyone", "guest", "others", "other"]) (sc := defScope sUnmet) (by decide +kernel))
          (fun _ _ _ _ _ => pg_tup rfl (pgs_cons (pg_name (i := 3) (x := "guest") scUnmet.nd rfl (.inr rfl) (.inl rfl)) (pgs_cons (pg_name (i := 4) (x := "others") scUnmet.nd rfl (.inr rfl) (.inl rfl)) pgs_nil))) (fun _ _ _ _ _ => pts_nil)
          (fun _ _ _ _ _ => pe_lc (own := [("other", 5)]) (g := gName 5) (wi := iList K (tVar 2)) (tt := tAnd (tTest (tOp rNe (tVar 5) (tVar 3))) (tTest (tOp (rIn K true) (tVar 5) (tVar 4)))) (te := tVar 5) (by rfl) scUnmet.nd (pi_list (pv 2))
            (blkOk_by (N := ["party", "plan", "everyone", "guest", "others", "other"]) (sc := oSc) (by decide +kernel))
            (fun _ _ _ _ _ => pg_name (i := 5) (x := "other") scUnmet.nd rfl (.inl rfl) (.inr rfl))
            (fun _ _ _ _ _ => pts_one (PW.pt (pw_and (pt_cmpR op_ne (pv 5) (pv 3) (nomark _)) (pw_and1 (pt_cmpR op_notIn_seq (pv 5) (pv 4) (by rfl))))))
            (fun _ _ _ _ _ => pv 5))))), ?_⟩
    obtain ⟨dx, hp⟩ := id hP
    refine ⟨.ref p, rfl, p, dx, _, rfl, hp, ng _ _, p, g, z, rfl, hP, g, rfl, ?_, fun ev nev => ?_⟩
    · exact RgOk.of_le (by decide) (by have := hI.g64; omega) (by decide) (by have := hI.g2; omega)
    have s1 : Same H (upd H ev (.lst (rgV 0 g))) := same_new nev
    refine ⟨.ref p, rfl, .ref l, rfl, p, l, g, z, rs, kb, rfl, hP.same s1, hI, ⟨xs, s1.seq hl, paired_mono (fun _ _ h => h.mono (same_toT s1)) hxs⟩, hS, hbad, fun H' d sm nd hd => ?_⟩
    exact q H' d (s1.trans sm) (s1.free nd) hd
/-- met and unmet, asked of any plan: a list, or the number of the first thing that is no round -/
def spAskX (K : PySem.W.Frag) (C CB : Addr) (F : Nat → List (Int × Int) → Int → List Int) : Sp := fun vs H Q E => ∃ (p l : Addr) (g : Nat) (s : Int) (rs : List Rnd), vs = [.ref p, .ref l] ∧ PartyV C H p g s ∧ IsParty g s ∧ PlanV K H l rs ∧ Small rs ∧
  ((∀ r ∈ rs, IsRound g s r) → ∀ H' q, Same H H' → NewLL H H' q (rowsM (F g (pairsP rs)) g) → Q (.ref q) H') ∧ ∀ k, FirstBad g s rs k → ∀ H' d, Same H H' → H d = none → H' d = some (.xd [(("number" : Str), .int (k : Nat))]) → E (.ref CB) (some d) H'
theorem ask_or {C CB : Addr} {vs : List V} {H : Hp} {Q : VK} {E : XK} {F : Nat → List (Int × Int) → Int → List Int} (h : spAskX K C CB F vs H Q E) :
    (∃ (p l : Addr) (g : Nat) (s : Int) (rs : List Rnd), vs = [.ref p, .ref l] ∧ PartyV C H p g s ∧ IsParty g s ∧ PlanV K H l rs ∧ Small rs ∧ (∀ r ∈ rs, IsRound g s r) ∧ ∀ H' q, Same H H' → NewLL H H' q (rowsM (F g (pairsP rs)) g) → Q (.ref q) H') ∨ spCheckBad K C CB vs H Q E := by
  obtain ⟨p, l, g, s, rs, e, h1, h2, h3, h4, h5, h6⟩ := h
  rcases first_bad (g := (g : Int)) (s := s) (rs := rs) with hr | ⟨k, hk⟩
  · exact .inl ⟨p, l, g, s, rs, e, h1, h2, h3, h4, hr, h5 hr⟩
  · exact .inr ⟨p, l, g, s, rs, k, e, h1, h2, h3, h4, hk, h6 k hk⟩
end Nf

set_option Elab.async false
set_option linter.all false
set_option maxRecDepth 100000
set_option maxHeartbeats 4000000
namespace Nf
open PySem PySem.Spec PyProof.Rows L2
variable {P : Program} {w : World} {K : PySem.W.Frag} {mg : Str → Option Value} {base : Heap}
/-! ### the law's refused -/
/-- the classes of refusals, as the suite asks for them -/
structure Kinds (K : PySem.W.Frag) (mg : Str → Option Value) (CB PE CP CT CX : Addr) : Prop where
  gE : mg "PartyError" = some (.ref PE)
  gP : mg "BadParty" = some (.ref CP)
  gT : mg "BadText" = some (.ref CT)
  gX : mg "BadTurning" = some (.ref CX)
  gV : mg "ValueError" = none
  te : PySem.W.exmOne K (.ref CB) (.ref PE) = some true
  kP : PySem.W.kitOne K (.ref CB) (.ref CP) = some false
  kT : PySem.W.kitOne K (.ref CB) (.ref CT) = some false
  kX : PySem.W.kitOne K (.ref CB) (.ref CX) = some false
  kB : PySem.W.kitOne K (.ref CB) (.ref CB) = some true
  kV : PySem.W.kitOne K (.ref CB) (.type "ValueError") = some true
  ed : ExcD K CB
theorem scRefused : FnScope ["_law_party", "_law_plan_here", "_law_way", "e", "_law_other"] ["_law_party", "_law_plan_here", "_law_way"] (defScope lRefused) := ⟨rfl, rfl, rfl, by decide +kernel, rfl, by decide +kernel, by decide +kernel⟩
def spRefused (K : PySem.W.Frag) (C : Addr) : Sp := fun vs H Q _ => ∃ (p l : Addr) (g : Nat) (s : Int) (rs : List Rnd) (way : Int), vs = [.ref p, .ref l, .int way] ∧ PartyV C H p g s ∧ IsParty g s ∧ PlanV K H l rs ∧ Small rs ∧
  ((∀ r ∈ rs, IsRound g s r) → ∀ H', Same H H' → Q .non H') ∧ ∀ k, FirstBad g s rs k → ∀ H', Same H H' → Q (.int (k : Nat)) H'
theorem ok_refused {f fM fU fB C CB PE CP CT CX : Addr} {fd fdM fdU : FuncData} (F : Fun K "_law_refused" "_law_refused" lRefused f fd) (B : Blt mg) (TB : PySem.BrX.BrTxt P K mg CB fB) (TK : Kinds K mg CB PE CP CT CX)
    (GM : FnOk P w K mg base (L2.CX P w) 5 fM fdM ["party", "plan"] (spAskX K C CB metM)) (FM : Fun K "met" "met" sMet fM fdM) (bM : Binds K fdM ["party", "plan"] []) (gM : mg "met" = some (.ref fM))
    (GU : FnOk P w K mg base (L2.CX P w) 6 fU fdU ["party", "plan"] (spAskX K C CB unmetM)) (FU : Fun K "unmet" "unmet" sUnmet fU fdU) (bU : Binds K fdU ["party", "plan"] []) (gU : mg "unmet" = some (.ref fU)) :
    FnOk P w K mg base CX0 7 f fd ["_law_party", "_law_plan_here", "_law_way"] (spRefused K C) := by
  refine F.ok scRefused (fun vs H Q E h => ?_) (fun cdv A outer s H vs Q E hr h => ?_)
  · obtain ⟨p, l, g, s, rs, way, rfl, _⟩ := h
    rfl
  · obtain ⟨p, l, g, z, rs, way, rfl, hP, hI, hPl, hS, hok, hbad⟩ := h
    have hr5 : Room 5 _ := hr.mono (by decide)
    refine ⟨_, pss_cons (ps_try_as (i := 3) (Wout := fun _ _ _ _ => False) (ts := fun a cls d => tSeq (tAsg (tOrV (tCB (rIsD K CB a cls d) (tCons (tVar 3) (tCons (tC (.ref CP)) tNil))) (tOrV (tCB (rIsD K CB a cls d) (tCons (tVar 3) (tCons (tC (.ref CT)) tNil))) (tCB (rIsD K CB a cls d) (tCons (tVar 3) (tCons (tC (.ref CX)) tNil))))) (gName 4)) (tRet (tIf (tAnd (tB (tCB (rIsD K CB a cls d) (tCons (tVar 3) (tCons (tC (.ref CB)) tNil)))) (tAnd (tB (tCB (rIsD K CB a cls d) (tCons (tVar 3) (tCons (tC (.ty "ValueError")) tNil)))) (tNot (tB (tVar 4))))) (tByBr CB a cls d (tVar 3)) (tC .non)))) (tb := fun W => tIfS (tTest (tOp rEq (tVar 2) (tC (.int 0)))) (tDrop (tCallS (spAskX K C CB metM) (WE W) (tCons (tVar 0) (tCons (tVar 1) tNil)))) (tDrop (tCallS (spAskX K C CB unmetM) (WE W) (tCons (tVar 0) (tCons (tVar 1) tNil))))) rfl rfl scRefused.nd rfl rfl ⟨rfl, by decide, .inl TK.gE⟩ takes0
        (fun W pn xe tk _ => pss_one (ps_if (pt_cmpR op_eq (pv 2) pe_int (nomark _)) (pss_one (ps_expr (by exact (pe_callS GM hr5 (by rfl) gM FM.kp bM (fun σ => passAt tk σ) (by exact (pa_cons (pv 0) (pa_cons (pv 1) pa_nil)))))))
          (pss_one (ps_expr (by exact (pe_callS GU hr (by rfl) gU FU.kp bU (fun σ => passAt tk σ) (by exact (pa_cons (pv 0) (pa_cons (pv 1) pa_nil)))))))))
        (fun a oe cls d pn hz hf => pss_cons (ps_set (i := 4) scRefused.nd rfl (.inl rfl) (by exact (pe_or (pe_callB (call_isD TK.ed hz hf) (by rfl) B.isinstance (by decide +kernel) (by exact (pa_cons (pv 3) (pa_cons (pe_glob rfl TK.gP rfl) pa_nil))))
            (pe_or (pe_callB (call_isD TK.ed hz hf) (by rfl) B.isinstance (by decide +kernel) (by exact (pa_cons (pv 3) (pa_cons (pe_glob rfl TK.gT rfl) pa_nil)))) (pe_one (pe_callB (call_isD TK.ed hz hf) (by rfl) B.isinstance (by decide +kernel) (by exact (pa_cons (pv 3) (pa_cons (pe_glob rfl TK.gX rfl) pa_nil)))))))))
          (pss_one (ps_ret (by exact (pe_ifExp (PW.pt (pw_and (pt_val (pe_callB (call_isD TK.ed hz hf) (by rfl) B.isinstance (by decide +kernel) (by exact (pa_cons (pv 3) (pa_cons (pe_glob rfl TB.gC rfl) pa_nil)))))
            (pw_and (pt_val (pe_callB (call_isD TK.ed hz hf) (by rfl) B.isinstance (by decide +kernel) (by exact (pa_cons (pv 3) (pa_cons (pe_bltn (v := .ty "ValueError") (by rfl) TK.gV (by decide +kernel) rfl) pa_nil))))) (pw_and1 (pt_not (pt_val (pv 4))))))) (pe_byBr TB hz hf (pv 3)) pe_non)))))) (pss_one (ps_ret pe_non)), ?_⟩
    refine ⟨.int way, rfl, rfl, _, rfl, ite2 (fun h1 => ?_) (fun h1 => ?_)⟩
    · refine ⟨.ref p, rfl, .ref l, rfl, p, l, g, z, rs, rfl, hP, hI, hPl, hS, fun hall H' q sm hnew => hok hall H' sm, fun k hk H' d sm nd hd => ⟨true, TK.te, fun _ a na => ?_, fun q => Bool.noConfusion q⟩⟩
      refine ⟨.ref a, rfl, .ref CP, .ref CP, false, _, d, rfl, rfl, rfl, fun u r => r, TK.kP, hd, ⟨_, rfl, iteF ?_⟩⟩
      refine ⟨.ref a, rfl, .ref CT, .ref CT, false, _, d, rfl, rfl, rfl, fun u r => r, TK.kT, hd, ⟨_, rfl, iteF ?_⟩⟩
      refine ⟨.ref a, rfl, .ref CX, .ref CX, false, _, d, rfl, rfl, rfl, fun u r => r, TK.kX, hd, ?_⟩
      refine ⟨.ref a, rfl, .ref CB, .ref CB, true, _, d, rfl, rfl, rfl, fun u r => r, TK.kB, hd, ⟨_, rfl, iteT ?_⟩⟩
      refine ⟨.ref a, rfl, .ty "ValueError", .type "ValueError", true, _, d, rfl, rfl, rfl, fun u r => r, TK.kV, hd, ⟨_, rfl, iteT ?_⟩⟩
      refine ⟨.bl false, rfl, false, rfl, iteT ?_⟩
      exact ⟨.ref a, rfl, rfl, rfl, d, _, rfl, hd, hbad k hk H' sm⟩
    · refine ⟨.ref p, rfl, .ref l, rfl, p, l, g, z, rs, rfl, hP, hI, hPl, hS, fun hall H' q sm hnew => hok hall H' sm, fun k hk H' d sm nd hd => ⟨true, TK.te, fun _ a na => ?_, fun q => Bool.noConfusion q⟩⟩
      refine ⟨.ref a, rfl, .ref CP, .ref CP, false, _, d, rfl, rfl, rfl, fun u r => r, TK.kP, hd, ⟨_, rfl, iteF ?_⟩⟩
      refine ⟨.ref a, rfl, .ref CT, .ref CT, false, _, d, rfl, rfl, rfl, fun u r => r, TK.kT, hd, ⟨_, rfl, iteF ?_⟩⟩
      refine ⟨.ref a, rfl, .ref CX, .ref CX, false, _, d, rfl, rfl, rfl, fun u r => r, TK.kX, hd, ?_⟩
      refine ⟨.ref a, rfl, .ref CB, .ref CB, true, _, d, rfl, rfl, rfl, fun u r => r, TK.kB, hd, ⟨_, rfl, iteT ?_⟩⟩
      refine ⟨.ref a, rfl, .ty "ValueError", .type "ValueError", true, _, d, rfl, rfl, rfl, fun u r => r, TK.kV, hd, ⟨_, rfl, iteT ?_⟩⟩
      refine ⟨.bl false, rfl, false, rfl, iteT ?_⟩
      exact ⟨.ref a, rfl, rfl, rfl, d, _, rfl, hd, hbad k hk H' sm⟩
end Nf

set_option Elab.async false
set_option linter.all false
set_option maxRecDepth 100000
set_option maxHeartbeats 4000000
namespace PySem.W
open PySem
/-! ### what isinstance and except ask of own classes, from the parts -/
theorem kit_ref {K : Frag} {C D : Addr} {b : Bool} (hd : hasDictIn K C = true) (ht : typeIn K (.ref C) = some (.type "type")) (hs : subIn K (.ref D) (.ref C) = some b) (ne : D ≠ C) : kitOne K (.ref D) (.ref C) = some b := by
  obtain ⟨cd, hc, _⟩ := any_some hd
  have e1 : (Value.ref D == Value.ref C) = false := by simpa using ne
  have e2 : ((clsIn K C).isSome && typeIn K (.ref C) == some (.type "type")) = true := by rw [hc, ht] <;> rfl
  unfold kitOne
  rw [e1, if_neg Bool.false_ne_true]
  show (if ((clsIn K C).isSome && typeIn K (.ref C) == some (.type "type")) = true then subIn K (.ref D) (.ref C) else none) = some b
  rw [if_pos e2]
  exact hs
theorem sub_ne {K : Frag} {C D : Addr} (h1 : subIn K (.ref D) (.ref D) = some true) (h2 : subIn K (.ref D) (.ref C) = some false) : D ≠ C := fun e => by
  subst e
  rw [h1] at h2
  cases h2
theorem kit_self {K : Frag} {D : Addr} : kitOne K (.ref D) (.ref D) = some true := by
  unfold kitOne
  rw [if_pos (by simp)]
theorem kit_ve {K : Frag} {D : Addr} (h : subIn K (.ref D) (.type "ValueError") = some true) : kitOne K (.ref D) (.type "ValueError") = some true := by
  have e1 : (Value.ref D == Value.type "ValueError") = false := by simp
  have e2 : kitMeta "ValueError" = true := by decide +kernel
  unfold kitOne
  rw [e1, if_neg Bool.false_ne_true]
  show (if kitMeta "ValueError" = true then subIn K (.ref D) (.type "ValueError") else none) = some true
  rw [if_pos e2]
  exact h
theorem super_of {K : Frag} {C PE : Addr} {name : Str} {r : Option (Option Value)} {tl : List Value} {nm q nm' q' : Str} {N N' : Addr} {bs bs' : List Value} {h1 h1' : Bool} {sn sn' : List Str} {sb sb' : List Value} {ab ab' : Bool} {col col' : Option Bool} {dd dd' : Option Addr} {k0 k1 k2 k3 k5 k0' k1' k2' k3' k5' : Option Value} {nw nw' : String}
    (hC : K.lookup C = some (excClassObj nm q C N bs (.ref PE :: tl) h1 sn sb ab col dd k0 k1 k2 k3 k5 nw)) (hE : K.lookup PE = some (excClassObj nm' q' PE N' bs' tl h1' sn' sb' ab' col' dd' k0' k1' k2' k3' k5' nw')) (hf : findIn K (.ref PE) name = r) : ks_superIn K C C name = r := by
  have e2 : findIn K (.ref PE) name = alongIn K name (.ref PE :: tl) := by
    show (match K.lookup PE with
      | some ⟨_, _, .cls cd, _⟩ => alongIn K name cd.mro
      | _ => none) = _
    rw [hE]
  rw [← hf, e2]
  have e1 : clsIn K C = some { name := nm, bases := bs, mro := .ref C :: .ref PE :: tl, ns := N, qualname := q, hasDict := h1, slotNames := sn, subclasses := sb, abstract := ab, collection := col, hasDel := false } := by
    unfold clsIn
    rw [hC] <;> rfl
  unfold ks_superIn
  rw [e1]
  show alongIn K name (((Value.ref C :: Value.ref PE :: tl).dropWhile (· != Value.ref C)).drop 1) = alongIn K name (Value.ref PE :: tl)
  simp [List.dropWhile_cons]
theorem cls_some {K : Frag} {C N : Addr} {bm bs : List Value} {nm q : Str} {h1 : Bool} {sn : List Str} {sb : List Value} {ab : Bool} {col : Option Bool} {dd : Option Addr} {k0 k1 k2 k3 k5 : Option Value} {nw : String} (hC : K.lookup C = some (excClassObj nm q C N bs bm h1 sn sb ab col dd k0 k1 k2 k3 k5 nw)) : (clsIn K C).isSome = true := by
  unfold clsIn
  rw [hC] <;> rfl
end PySem.W

set_option Elab.async false
set_option linter.all false
set_option maxRecDepth 100000
set_option maxHeartbeats 4000000
namespace Nf
open PySem PySem.Spec PyProof.Rows L2
variable {P : Program} {w : World} {K : PySem.W.Frag} {mg : Str → Option Value} {base : Heap}
/-! ### the law's own list of whom each met, of whom not -/
theorem rangeI_get {g m : Nat} (h : m < g) : (rangeI g)[m]? = some ((m : Nat) : Int) := by
  unfold rangeI
  rw [List.getElem?_map, List.getElem?_range h]
  rfl
theorem minmax_mem {ps : List (Int × Int)} {c d : Int} (h : ∀ p ∈ ps, p.1 < p.2) : ((if d < c then d else c), (if d > c then d else c)) ∈ ps ↔ (c, d) ∈ dirs ps := by
  rw [mem_dirs]
  rcases Int.lt_trichotomy c d with z | z | z
  · rw [if_neg (by omega), if_pos z]
    constructor
    · exact .inl
    · rintro (q | q)
      · exact q
      · have := h _ q
        simp only at this
        omega
  · subst z
    rw [show (if c < c then c else c) = c from ite_self _]
    exact ⟨.inl, fun q => q.elim id id⟩
  · rw [if_pos z, if_neg (by omega)]
    constructor
    · exact .inr
    · rintro (q | q)
      · have := h _ q
        simp only at this
        omega
      · exact q
def rMn : List V → Hp → VK → Prop := fun xs H Q => ∃ i j : Int, xs = [.int i, .int j] ∧ Q (.int (if j < i then j else i)) H
def rMx : List V → Hp → VK → Prop := fun xs H Q => ∃ i j : Int, xs = [.int i, .int j] ∧ Q (.int (if j > i then j else i)) H
theorem scDue2 : FnScope ["_law_guests", "_law_plan_here", "_law_want", "_law_known_here", "_law_found", "_law_one", "_law_some", "_law_rest", "_law_other"] ["_law_guests", "_law_plan_here", "_law_want"] (defScope lDue) := ⟨rfl, rfl, rfl, by decide +kernel, rfl, by decide +kernel, by decide +kernel⟩
def spDue2 (K : PySem.W.Frag) : Sp := fun vs H Q _ => ∃ (l : Addr) (g : Nat) (rs : List Rnd) (want : Bool), vs = [.int g, .ref l, .bl want] ∧ PlanV K H l rs ∧ rs.length ≤ 1000 ∧ (∀ r ∈ rs, (pairsR r).length ≤ 4096 ∧ ∀ t ∈ r, t.length ≤ 100000) ∧ g ≤ 64 ∧ (∀ p ∈ pairsP rs, 0 ≤ p.1 ∧ p.1 < p.2 ∧ p.2 < g) ∧
  ∀ H' q, Same H H' → NewLL H H' q (rowsM (if want then metM g (pairsP rs) else unmetM g (pairsP rs)) g) → Q (.ref q) H'
theorem ok_due2 {f fK : Addr} {fd fdK : FuncData} (F : Fun K "_law_due" "_law_due" lDue f fd) (B : Blt mg) (GK : FnOk P w K mg base CX0 2 fK fdK ["_law_plan_here"] (spLKnown K)) (FK : Fun K "_law_known" "_law_known" lKnown fK fdK) (bK : Binds K fdK ["_law_plan_here"] []) (gK : mg "_law_known" = some (.ref fK)) :
    FnOk P w K mg base CX0 3 f fd ["_law_guests", "_law_plan_here", "_law_want"] (spDue2 K) := by
  refine F.ok scDue2 (fun vs H Q E h => ?_) (fun cdv A outer s H vs Q E hr h => ?_)
  · obtain ⟨l, g, rs, want, rfl, _⟩ := h
    rfl
  · obtain ⟨l, g, rs, want, rfl, hPl, hn, hS, hg64, hpp, q⟩ := h
    have hu := hu_of hr
    refine ⟨_, pss_cons (ps_set (i := 3) scDue2.nd rfl (.inr rfl) (pe_call GK hr (by rfl) gK FK.kp bK .nil pass0 (pa_cons (pv 1) pa_nil)))
      (pss_cons (ps_set (i := 4) scDue2.nd rfl (.inl rfl) (pe_lst pa_nil))
      (pss_cons (ps_for PassesOwn.never rfl (pi_range1 (by rfl) B.range (pa_cons (pv 0) pa_nil)) (pg_name (i := 5) scDue2.nd rfl (.inr rfl))
        (pss_cons (ps_set (i := 6) scDue2.nd rfl (.inr rfl) (pe_lc (own := [("_law_other", 8)]) (g := gName 8) (tt := tB (tDIn (tTup (tCons (tCB rMn (tCons (tVar 5) (tCons (tVar 8) tNil))) (tCons (tCB rMx (tCons (tVar 5) (tCons (tVar 8) tNil))) tNil))) (tVar 3))) (te := tVar 8) (by rfl) scDue2.nd (pi_range1 (by rfl) B.range (pa_cons (pv 0) pa_nil))
            (blkOk_by (N := ["_law_guests", "_law_plan_here", "_law_want", "_law_known_here", "_law_found", "_law_one", "_law_some", "_law_rest", "_law_other"]) (sc := defScope lDue) (by decide +kernel))
            (fun _ _ _ _ _ => pg_name (i := 8) (x := "_law_other") scDue2.nd rfl (.inl rfl) (.inr rfl))
            (fun _ _ _ _ _ => pts_one (pt_cmp (pc_din hu (pe_tup (pa_cons (pe_callB (call_min2 rfl) (by rfl) B.min (by decide +kernel) (pa_cons (pv 5) (pa_cons (pv 8) pa_nil))) (pa_cons (pe_callB (call_max2 rfl) (by rfl) B.max (by decide +kernel) (pa_cons (pv 5) (pa_cons (pv 8) pa_nil))) pa_nil))) (pv 3)))) (fun _ _ _ _ _ => pv 8)))
        (pss_cons (ps_setLc (i := 7) (own := [("_law_other", 8)]) (g := gName 8) (tt := tAnd (tTest (tOp rNe (tVar 8) (tVar 5))) (tTest (tOp (rIn K true) (tVar 8) (tVar 6)))) (te := tVar 8) (by rfl) scDue2.nd rfl rfl (sw_true rfl rfl rfl (by decide +kernel)) (pi_range1 (by rfl) B.range (pa_cons (pv 0) pa_nil))
            (blkOk_by (N := ["_law_guests", "_law_plan_here", "_law_want", "_law_known_here", "_law_found", "_law_one", "_law_some", "_law_rest", "_law_other"]) (sc := defScope lDue) (by decide +kernel))
            (fun _ _ _ _ _ => pg_name (i := 8) (x := "_law_other") scDue2.nd rfl (.inl rfl) (.inr rfl))
            (fun _ _ _ _ _ => pts_one (PW.pt (pw_and (pt_cmpR op_ne (pv 8) (pv 5) (nomark _)) (pw_and1 (pt_cmpR op_notIn_seq (pv 8) (pv 6) (by rfl)))))) (fun _ _ _ _ _ => pv 8))
        (pss_one (ps_expr (pe_bm PySem.F.plainAttrs_list PySem.F.slot_list_append PySem.F.type_list_append mt_append (pv 4) (pa_cons (pe_ifExp (pt_val (pv 2)) (pv 6) (pv 7)) pa_nil)))))))
      (pss_one (ps_ret (pv 4))))), ?_⟩
    have big : (5000000 : Nat) < sizeLine := by decide
    have hlt : ∀ p ∈ pairsP rs, p.1 < p.2 := fun p hp => (hpp p hp).2.1
    refine ⟨.ref l, rfl, l, rs, rfl, hPl, hn, hS, fun H1 d s1 nd hK => ?_⟩
    refine ⟨Nat.zero_le _, fun D nD => ?_⟩
    have nD0 : H D = none := s1.free nD
    have sD : Same H1 (upd H1 D (.lst [])) := same_new nD
    refine ⟨.int g, rfl, g, rfl, by omega, by omega, ?_⟩
    refine for_it walk_range (fun i σ H2 => ∃ (y5 y6 y7 : Option V) (acc : List V), σ = [some (.int g), some (.ref l), some (.bl want), some (.ref d), some (.ref D), y5, y6, y7, none] ∧ Same H1 H2 ∧ H2 D = some (.lst acc) ∧ acc.length = i ∧
        Paired (NewL H H2) acc (rowsM (if want then metM g (pairsP rs) else unmetM g (pairsP rs)) i) ∧ ∀ y ∈ acc, ∀ q, y = .ref q → q ≠ D)
      ⟨none, none, none, [], rfl, sD, upd_same, rfl, .nil, by simp⟩ (fun _ _ _ _ _ => trivial) (fun i x σ H2 H3 hi hI y => ?_) (fun σ H2 hI => ?_)
    · obtain ⟨y5, y6, y7, acc, rfl, sm, hD, hal, hrow, hne⟩ := hI
      obtain ⟨rfl, hxv⟩ := y
      have ei : (0 : Int) + (i : Nat) = ((i : Nat) : Int) := by omega
      have hxv : x = V.int ((i : Nat) : Int) := hxv.trans (by show V.int (0 + (i : Nat)) = _; rw [ei])
      subst hxv
      have hig : i < g := by omega
      -- some
      refine ⟨.int g, rfl, g, rfl, by omega, by omega, fun S nS => ?_⟩
      have nS0 : H S = none := (s1.trans sm).free nS
      have nSD : S ≠ D := fun z => by
        rw [z, hD] at nS
        cases nS
      have sS : Same H3 (upd H3 S (.lst [])) := same_new nS
      refine lc_it walk_range (fun m H5 => Same H3 H5 ∧ H5 S = some (.lst ((((rangeI g).take m).filter fun e => decide ((((i : Nat) : Int), e) ∈ dirs (pairsP rs))).map V.int))) ⟨sS, by rw [List.take_zero]; exact upd_same⟩ (fun _ _ _ _ => trivial) (fun m x H5 H6 hm hM y => ?_) (fun H5 hM => ?_)
      · obtain ⟨sm5, hS5⟩ := hM
        obtain ⟨rfl, hxv⟩ := y
        have em : (0 : Int) + (m : Nat) = ((m : Nat) : Int) := by omega
        have hxv : x = V.int ((m : Nat) : Int) := hxv.trans (by show V.int (0 + (m : Nat)) = _; rw [em])
        subst hxv
        have hmg : m < g := by omega
        have hd : (rangeI g)[m]? = some ((m : Nat) : Int) := rangeI_get hmg
        refine ⟨wipe_put (by decide), ?_⟩
        refine ⟨.int ((i : Nat) : Int), rfl, .int ((m : Nat) : Int), rfl, _, _, rfl, .int ((i : Nat) : Int), rfl, .int ((m : Nat) : Int), rfl, _, _, rfl, two_le, fun T0 nT0 => ?_⟩
        generalize hc1 : (if ((m : Nat) : Int) < ((i : Nat) : Int) then ((m : Nat) : Int) else ((i : Nat) : Int)) = c1 at nT0 ⊢
        generalize hc2 : (if ((m : Nat) : Int) > ((i : Nat) : Int) then ((m : Nat) : Int) else ((i : Nat) : Int)) = c2 at nT0 ⊢
        have hiff : (c1, c2) ∈ pairsP rs ↔ (((i : Nat) : Int), ((m : Nat) : Int)) ∈ dirs (pairsP rs) := by
          rw [← hc1, ← hc2]
          exact minmax_mem hlt
        have sT : Same H6 (upd H6 T0 (.tup [.int c1, .int c2])) := same_new nT0
        have sm6 := sm5.trans sT
        obtain ⟨kvs, hdd, hkl, hkv, _⟩ := knS_same (knS_same hK sm) sm6
        refine ⟨.ref d, rfl, d, _, rfl, DGet.t (k := [Sum.inl c1, Sum.inl c2]) hdd upd_same, _, rfl, ite2 (fun h1 => ?_) (fun h1 => ?_)⟩
        · have hh := hiff.mp ((hkv c1 c2).mp h1)
          refine ⟨.int ((m : Nat) : Int), rfl, _, sT _ _ hS5, ?_, same_put sm6 nS, ?_⟩
          · have e1 := (List.filter_sublist (p := fun e => decide ((((i : Nat) : Int), e) ∈ dirs (pairsP rs))) (l := (rangeI g).take m)).length_le
            rw [List.length_take, rangeI_len] at e1
            rw [List.length_map]
            omega
          · rw [upd_same, takeSucc hd, List.filter_append, List.map_append]
            simp [hh]
        · have hh : (((i : Nat) : Int), ((m : Nat) : Int)) ∉ dirs (pairsP rs) := fun z => h1 ((hkv c1 c2).mpr (hiff.mpr z))
          refine ⟨sm6, ?_⟩
          rw [sT _ _ hS5, takeSucc hd, List.filter_append]
          simp [hh]
      · obtain ⟨sm5, hS5⟩ := hM
        rw [List.take_of_length_le (by rw [rangeI_len]; omega)] at hS5
        have hS5 : H5 S = some (.lst ((metM g (pairsP rs) ((i : Nat) : Int)).map V.int)) := hS5
        -- rest
        refine ⟨.int g, rfl, g, rfl, by omega, by omega, fun T nT => ?_⟩
        have nT0 : H T = none := ((s1.trans sm).trans sm5).free nT
        have nTD : T ≠ D := fun z => by
          rw [z, sm5 _ _ hD] at nT
          cases nT
        have sT : Same H5 (upd H5 T (.lst [])) := same_new nT
        refine lc_it walk_range (fun m H7 => Same H5 H7 ∧ H7 T = some (.lst ((((rangeI g).take m).filter fun e => decide (e ≠ ((i : Nat) : Int) ∧ e ∉ metM g (pairsP rs) ((i : Nat) : Int))).map V.int))) ⟨sT, by rw [List.take_zero]; exact upd_same⟩ (fun _ _ _ _ => trivial) (fun m x H7 H8 hm hM y => ?_) (fun H7 hM => ?_)
        · obtain ⟨sm7, hT7⟩ := hM
          obtain ⟨rfl, hxv⟩ := y
          have em : (0 : Int) + (m : Nat) = ((m : Nat) : Int) := by omega
          have hxv : x = V.int ((m : Nat) : Int) := hxv.trans (by show V.int (0 + (m : Nat)) = _; rw [em])
          subst hxv
          have hmg : m < g := by omega
          have hd : (rangeI g)[m]? = some ((m : Nat) : Int) := rangeI_get hmg
          refine ⟨wipe_put (by decide), ?_⟩
          refine ⟨.int ((m : Nat) : Int), rfl, .int ((i : Nat) : Int), rfl, rfl, _, rfl, ite2 (fun h1 => ?_) (fun h1 => ?_)⟩
          · refine ⟨.int ((m : Nat) : Int), rfl, .ref S, rfl, S, _, rfl, .inl (SqL.of (sm7 _ _ hS5)), rfl, flat_ints _, _, rfl, ite2 (fun h2 => ?_) (fun h2 => ?_)⟩
            · refine ⟨.int ((m : Nat) : Int), rfl, _, hT7, ?_, same_put sm7 nT, ?_⟩
              · have e1 := (List.filter_sublist (p := fun e => decide (e ≠ ((i : Nat) : Int) ∧ e ∉ metM g (pairsP rs) ((i : Nat) : Int))) (l := (rangeI g).take m)).length_le
                rw [List.length_take, rangeI_len] at e1
                rw [List.length_map]
                omega
              · have hnn : ((m : Nat) : Int) ≠ ((i : Nat) : Int) := fun e => by
                  rw [e] at h1
                  simp at h1
                have hmm : ((m : Nat) : Int) ∉ metM g (pairsP rs) ((i : Nat) : Int) := fun e => by
                  rw [inV_ints] at h2
                  simp [e] at h2
                rw [upd_same, takeSucc hd, List.filter_append, List.map_append]
                simp [hnn, hmm]
            · refine ⟨sm7, ?_⟩
              have hmm : ((m : Nat) : Int) ∈ metM g (pairsP rs) ((i : Nat) : Int) := by
                rw [inV_ints] at h2
                simpa using h2
              rw [hT7, takeSucc hd, List.filter_append]
              simp [hmm]
          · refine ⟨sm7, ?_⟩
            have hnn : ((m : Nat) : Int) = ((i : Nat) : Int) := by simpa using h1
            rw [hT7, takeSucc hd, List.filter_append]
            simp [hnn]
        · obtain ⟨sm7, hT7⟩ := hM
          rw [List.take_of_length_le (by rw [rangeI_len]; omega)] at hT7
          have hT7 : H7 T = some (.lst ((unmetM g (pairsP rs) ((i : Nat) : Int)).map V.int)) := hT7
          have sm37 := sm5.trans sm7
          have hD7 := sm37 _ _ hD
          have hrow7 := paired_mono (fun _ _ h => NewL.keep h sm37) hrow
          refine ⟨.ref D, rfl, .inl ⟨rfl, _, SqL.of hD7⟩, .bl want, rfl, want, rfl, ?_⟩
          have fin : ∀ (x : Addr), x ≠ D → NewL H H7 (.ref x) ((if want then metM g (pairsP rs) else unmetM g (pairsP rs)) ((i : Nat) : Int)) → Same H1 (upd H7 D (.lst (acc ++ [.ref x]))) ∧ Paired (NewL H (upd H7 D (.lst (acc ++ [.ref x])))) (acc ++ [.ref x]) (rowsM (if want then metM g (pairsP rs) else unmetM g (pairsP rs)) (i + 1)) ∧ ∀ y ∈ acc ++ [.ref x], ∀ q, y = .ref q → q ≠ D := fun x nx hx => by
            refine ⟨same_put (sm.trans sm37) nD, ?_, fun y hy q e => ?_⟩
            · rw [rowsM_succ]
              refine newLL_snoc hD7 hrow7 hx (fun q e => ?_) hne
              cases e
              exact nx
            · rcases List.mem_append.mp hy with hy | hy
              · exact hne y hy q e
              · rw [List.mem_singleton.mp hy] at e
                cases e
                exact nx
          cases want with
          | true =>
            obtain ⟨f1, f2, f3⟩ := fin S nSD ⟨S, rfl, sm7 _ _ hS5, nS0⟩
            exact iteT ⟨.ref S, rfl, D, acc, .ref S, rfl, rfl, hD7, by omega, _, _, _, acc ++ [.ref S], rfl, f1, upd_same, by simp [hal], f2, f3⟩
          | false =>
            obtain ⟨f1, f2, f3⟩ := fin T nTD ⟨T, rfl, hT7, nT0⟩
            exact iteF ⟨.ref T, rfl, D, acc, .ref T, rfl, rfl, hD7, by omega, _, _, _, acc ++ [.ref T], rfl, f1, upd_same, by simp [hal], f2, f3⟩
    · obtain ⟨y5, y6, y7, acc, rfl, sm, hD, hal, hrow, hne⟩ := hI
      have e : ((g : Nat) : Int).toNat = g := by omega
      rw [e] at hrow
      exact ⟨.ref D, rfl, q H2 D (s1.trans sm) ⟨nD0, acc, hD, hrow⟩⟩
end Nf

set_option Elab.async false
set_option linter.all false
set_option maxRecDepth 100000
set_option maxHeartbeats 4000000
namespace Nf
open PySem PySem.Spec PyProof.Rows L2
variable {P : Program} {w : World} {K : PySem.W.Frag} {mg : Str → Option Value} {base : Heap}
/-! ### law_k02 -/
theorem tree_flat {H : Hp} : ∀ row : List Int, Paired (Tree H 0) (row.map V.int) (row.map V.int)
  | [] => .nil
  | n :: row => .cons ⟨rfl, .inr (.inr (.inl ⟨n, rfl⟩))⟩ (tree_flat row)
theorem tree_row {H0 H0' H : Hp} {row : List Int} {x y : V} (hl : row.length ≤ 100000) (h1 : NewL H0 H x row) (h2 : NewL H0' H y row) : Tree H 1 x y := by
  obtain ⟨q, rfl, e1, _⟩ := h1
  obtain ⟨q', rfl, e2, _⟩ := h2
  exact .inr ⟨q, q', _, _, rfl, rfl, .inr ⟨e1, e2⟩, by rw [List.length_map]; exact hl, tree_flat row⟩
theorem tree_rows {H0 H0' H : Hp} : ∀ {rows : List (List Int)} {xs ys : List V}, (∀ r ∈ rows, r.length ≤ 100000) → Paired (NewL H0 H) xs rows → Paired (NewL H0' H) ys rows → Paired (Tree H 1) xs ys
  | _, _, _, _, .nil, .nil => .nil
  | _, _, _, hl, .cons a t, .cons b u => .cons (tree_row (hl _ (by simp)) a b) (tree_rows (fun r hr => hl r (by simp [hr])) t u)
theorem tree_ll {H0 H0' H : Hp} {q q' : Addr} {rows : List (List Int)} (hn : rows.length ≤ 100000) (hl : ∀ r ∈ rows, r.length ≤ 100000) (h1 : NewLL H0 H q rows) (h2 : NewLL H0' H q' rows) : Tree H 2 (.ref q) (.ref q') := by
  obtain ⟨_, xs, e1, p1⟩ := h1
  obtain ⟨_, ys, e2, p2⟩ := h2
  exact .inr ⟨q, q', xs, ys, rfl, rfl, .inr ⟨e1, e2⟩, by rw [paired_len p1]; exact hn, tree_rows hl p1 p2⟩
theorem NewLL.keep {H0 H H' : Hp} {q : Addr} {rows : List (List Int)} (h : NewLL H0 H q rows) (s : Same H H') : NewLL H0 H' q rows := by
  obtain ⟨n, xs, e, p⟩ := h
  exact ⟨n, xs, s _ _ e, paired_mono (fun _ _ z => NewL.keep z s) p⟩
theorem NewLL.from {H0 H1 H : Hp} {q : Addr} {rows : List (List Int)} (h : NewLL H1 H q rows) (s : Same H0 H1) : NewLL H0 H q rows := by
  obtain ⟨n, xs, e, p⟩ := h
  exact ⟨s.free n, xs, e, paired_mono (fun _ _ ⟨q, e, h1, h2⟩ => ⟨q, e, h1, s.free h2⟩) p⟩
/-- the told lists, while they are changed: D one of the two at D1, D2; all that stood in H0 stays -/
def Loose (H0 H : Hp) (D1 D2 D : Addr) (N : Nat) : Prop := ∃ xs, H D = some (.lst xs) ∧ xs.length ≤ 64 ∧ ∀ x ∈ xs, ∃ (q : Addr) (ys : List V), x = .ref q ∧ H q = some (.lst ys) ∧ ys.length ≤ N ∧ H0 q = none ∧ q ≠ D1 ∧ q ≠ D2
theorem Loose.put {H0 H : Hp} {D1 D2 D q : Addr} {N : Nat} {ys : List V} {v : V} (h : Loose H0 H D1 D2 D N) (hD : D = D1 ∨ D = D2) (hq : H q = some (.lst ys)) (hl : ys.length ≤ N) (n1 : q ≠ D1) (n2 : q ≠ D2) : Loose H0 (upd H q (.lst (ys ++ [v]))) D1 D2 D (N + 1) := by
  obtain ⟨xs, e, hx, h⟩ := h
  refine ⟨xs, ?_, hx, fun x hxm => ?_⟩
  · rw [upd_ne (by rcases hD with rfl | rfl <;> exact Ne.symm (by assumption))]
    exact e
  · obtain ⟨p, zs, rfl, h1, h2, h3⟩ := h x hxm
    by_cases hp : p = q
    · subst hp
      refine ⟨p, _, rfl, upd_same, ?_, h3⟩
      rw [List.length_append, List.length_singleton]
      omega
    · exact ⟨p, zs, rfl, (upd_ne hp).trans h1, by omega, h3⟩
theorem Loose.rev {H0 H : Hp} {D1 D2 D D' : Addr} {N : Nat} {xs : List V} (h : Loose H0 H D1 D2 D N) (hD' : D' = D1 ∨ D' = D2) (hx : H D' = some (.lst xs)) : Loose H0 (upd H D' (.lst xs.reverse)) D1 D2 D N := by
  obtain ⟨zs, e, hz, h⟩ := h
  have keep : ∀ {x : V}, x ∈ zs → ∃ (q : Addr) (ys : List V), x = .ref q ∧ (upd H D' (.lst xs.reverse)) q = some (.lst ys) ∧ ys.length ≤ N ∧ H0 q = none ∧ q ≠ D1 ∧ q ≠ D2 := fun {x} hxm => by
    obtain ⟨p, us, rfl, h1, h2, h3, h4, h5⟩ := h x hxm
    exact ⟨p, us, rfl, (upd_ne (by rcases hD' with rfl | rfl <;> assumption)).trans h1, h2, h3, h4, h5⟩
  by_cases hd : D = D'
  · subst hd
    rw [e] at hx
    cases hx
    exact ⟨_, upd_same, by rw [List.length_reverse]; exact hz, fun x hxm => keep (List.mem_reverse.mp hxm)⟩
  · exact ⟨zs, (upd_ne hd).trans e, hz, fun x hxm => keep hxm⟩
theorem Loose.wide {H0 H : Hp} {D1 D2 D : Addr} {N M : Nat} (h : Loose H0 H D1 D2 D N) (hn : N ≤ M) : Loose H0 H D1 D2 D M := by
  obtain ⟨xs, e, hx, h⟩ := h
  refine ⟨xs, e, hx, fun x hxm => ?_⟩
  obtain ⟨p, zs, e1, h1, h2, h3⟩ := h x hxm
  exact ⟨p, zs, e1, h1, by omega, h3⟩
theorem if_join {c : Bool} {Ok : Hp → Prop} {A : Prop} {N : Hp → Prop} {H : Hp} (hA : (∀ H', Ok H' → N H') → A) (hN : ∀ H', Ok H' → N H') (h : Ok H) : if c = true then A else N H := by
  cases c with
  | true => exact iteT (hA hN)
  | false => exact iteF (hN H h)
theorem scLaw : FnScope ["_law_script", "_law_row", "_law_guests", "_law_size", "_law_party", "_law_plan_here", "_law_handed", "_law_turn", "_law_told", "_law_due_here", "_law_some", "_law_one", "_law_k", "_law_bad", "_law_way"] ["_law_script"] (defScope lLaw) := ⟨rfl, rfl, rfl, by decide +kernel, rfl, by decide +kernel, by decide +kernel⟩
def spLaw (K : PySem.W.Frag) : Sp := fun vs H Q _ => ∃ (a : Addr) (ns : List Int), vs = [.ref a] ∧ SqL K H a (ns.map V.int) ∧ ns.length ≤ 63 ∧ ∀ H', Q (.bl true) H'
theorem ok_law {f C fi fT fA fMy fM fS fPl fSp fI fD fR fE fU : Addr} {fd fdi fdT fdA fdMy fdM fdS fdPl fdSp fdI fdD fdR fdE fdU : FuncData} (F : Fun K "law" "law" lLaw f fd) (B : Blt mg) (T : Txt K mg C) (M : Mk K C fi) (GI : FnOk P w K mg base CX0 2 fi fdi ["self", "guests", "size"] (spInit C)) (bi : Binds K fdi ["self", "guests", "size"] [])
    (HT : Has P w K mg base 1 "_law_taken" fT fdT ["_law_row", "_law_many_here"] (spTaken K)) (HA : Has P w K mg base 4 "_law_alike" fA fdA ["_law_found", "_law_due_here"] (spTree 3)) (HMy : Has P w K mg base 3 "_law_many" fMy fdMy ["_law_row"] (spMany K)) (HM : Has P w K mg base 2 "_law_mixed" fM fdM ["_law_row", "_law_some"] (spMixed K))
    (HS : Has P w K mg base 1 "_law_seated" fS fdS ["_law_guests", "_law_size"] (spSeated K)) (HPl : Has P w K mg base 4 "_law_plan" fPl fdPl ["_law_row", "_law_guests", "_law_size", "_law_most"] (spPlan K))
    (HSp : Has P w K mg base 2 "_law_spoilt" fSp fdSp ["_law_row", "_law_guests", "_law_tables"] (spSpoilt K)) (HI : Has P w K mg base 1 "_law_is_round" fI fdI ["_law_guests", "_law_size", "_law_tables"] spLIsRound)
    (HD : Has P w K mg base 3 "_law_due" fD fdD ["_law_guests", "_law_plan_here", "_law_want"] (spDue2 K)) (HR : Has P w K mg base 7 "_law_refused" fR fdR ["_law_party", "_law_plan_here", "_law_way"] (spRefused K C)) (HE : Has P w K mg base 5 "met" fE fdE ["party", "plan"] (spMetOk K C)) (HU : Has P w K mg base 6 "unmet" fU fdU ["party", "plan"] (spUnmetOk K C)) :
    FnOk P w K mg base CX0 8 f fd ["_law_script"] (spLaw K) := by
  refine F.ok scLaw (fun vs H Q E h => ?_) (fun cdv A outer s H vs Q E hr h => ?_)
  · obtain ⟨a, ns, rfl, _⟩ := h
    rfl
  · obtain ⟨a, ns, rfl, hS, hlen, q⟩ := h
    have hr1 : Room 1 _ := hr.mono (by decide)
    have hr2 : Room 2 _ := hr.mono (by decide)
    have hr3 : Room 3 _ := hr.mono (by decide)
    have hr4 : Room 4 _ := hr.mono (by decide)
    have hr5 : Room 5 _ := hr.mono (by decide)
    have hr6 : Room 6 _ := hr.mono (by decide)
    refine ⟨_, pss_cons (ps_set (i := 1) scLaw.nd rfl (.inl rfl) (pe_lst (pa_cons (pv 0) (pa_cons pe_int (pa_cons pe_int (pa_cons pe_int pa_nil))))))
      (pss_cons (ps_asg (pe_call HMy.ok hr3 (by rfl) HMy.g HMy.kp HMy.b .nil pass0 (pa_cons (pv 1) pa_nil)) (pg_tup rfl (pgs_cons (pg_name (i := 2) scLaw.nd rfl (.inl rfl)) (pgs_cons (pg_name (i := 3) scLaw.nd rfl (.inl rfl)) pgs_nil))))
      (pss_cons (ps_set (i := 4) scLaw.nd rfl (.inl rfl) (pe_make M GI hr3 (by rfl) T.mgC bi .nil pass0 (pa_cons (pv 2) (pa_cons (pv 3) pa_nil))))
      (pss_cons (ps_set (i := 5) scLaw.nd rfl (.inl rfl) (pe_call HPl.ok hr4 (by rfl) HPl.g HPl.kp HPl.b .nil pass0 (pa_cons (pv 1) (pa_cons (pv 2) (pa_cons (pv 3) (pa_cons pe_int pa_nil))))))
      (pss_cons (ps_if (pt_cmpR op_eq (pe_call HT.ok hr1 (by rfl) HT.g HT.kp HT.b .nil pass0 (pa_cons (pv 1) (pa_cons pe_int pa_nil))) pe_int (nomark _))
        (pss_one (ps_expr (pe_bm PySem.F.plainAttrs_list PySem.F.slot_list_append PySem.F.type_list_append mt_append (pv 5)
            (pa_cons (pe_call HS.ok hr1 (by rfl) HS.g HS.kp HS.b .nil pass0 (pa_cons (pe_call HM.ok hr2 (by rfl) HM.g HM.kp HM.b .nil pass0 (pa_cons (pv 1) (pa_cons (pe_listRg rfl (by rfl) B.list (prg_1 (by rfl) B.range (pv 2))) pa_nil))) (pa_cons (pv 3) pa_nil))) pa_nil)))) pss_nil)
      (pss_cons (ps_set (i := 6) scLaw.nd rfl (.inl rfl) (pe_callTy call_list_of (by rfl) B.list (by decide +kernel) (pa_cons (pv 5) pa_nil)))
      (pss_cons (ps_for PassesOwn.never rfl (pi_range1 (by rfl) B.range (pa_cons pe_int pa_nil)) (pg_name (i := 7) scLaw.nd rfl (.inl rfl))
        (pss_cons (ps_set (i := 8) scLaw.nd rfl (.inl rfl) (pe_tup (pa_cons (pe_call HE.ok hr5 (by rfl) HE.g HE.kp HE.b .nil pass0 (pa_cons (pv 4) (pa_cons (pv 6) pa_nil))) (pa_cons (pe_call HU.ok hr6 (by rfl) HU.g HU.kp HU.b .nil pass0 (pa_cons (pv 4) (pa_cons (pv 6) pa_nil))) pa_nil))))
        (pss_cons (ps_set (i := 9) scLaw.nd rfl (.inl rfl) (pe_tup (pa_cons (pe_call HD.ok hr3 (by rfl) HD.g HD.kp HD.b .nil pass0 (pa_cons (pv 2) (pa_cons (pv 5) (pa_cons pe_bl pa_nil)))) (pa_cons (pe_call HD.ok hr3 (by rfl) HD.g HD.kp HD.b .nil pass0 (pa_cons (pv 2) (pa_cons (pv 5) (pa_cons pe_bl pa_nil)))) pa_nil))))
        (pss_cons (ps_if (PW.pt (pw_or (pt_not (pt_val (pe_call HA.ok hr4 (by rfl) HA.g HA.kp HA.b .nil pass0 (pa_cons (pv 8) (pa_cons (pv 9) pa_nil))))) (pw_or1 (pt_cmpR (op_neD hr.units) (pv 6) (pv 5) (nomark _))))) pss_never pss_nil)
        (pss_one (ps_for PassesOwn.never rfl (pi_tup (pv 8)) (pg_name (i := 10) scLaw.nd rfl (.inl rfl))
          (pss_cons (ps_for PassesOwn.never rfl (pi_list (pv 10)) (pg_name (i := 11) scLaw.nd rfl (.inl rfl))
            (pss_one (ps_expr (pe_bm PySem.F.plainAttrs_list PySem.F.slot_list_append PySem.F.type_list_append mt_append (pv 11) (pa_cons pe_int pa_nil)))))
          (pss_one (ps_expr (pe_bm0 PySem.F.plainAttrs_list PySem.F.slot_list_reverse PySem.F.type_list_reverse mt_reverse (pv 10)))))))))))
      (pss_cons (ps_for PassesOwn.never rfl (pi_range1 (by rfl) B.range (pa_cons (pe_callB call_len_seq (by rfl) B.len PySem.boot_len (pa_cons (pv 5) pa_nil)) pa_nil)) (pg_name (i := 12) scLaw.nd rfl (.inl rfl))
        (pss_cons (ps_set (i := 13) scLaw.nd rfl (.inl rfl) (pe_callTy call_list_of (by rfl) B.list (by decide +kernel) (pa_cons (pv 5) pa_nil)))
        (pss_cons (ps_asg (pe_call HSp.ok hr2 (by rfl) HSp.g HSp.kp HSp.b .nil pass0 (pa_cons (pv 1) (pa_cons (pv 2) (pa_cons (pe_ix ix_list (pv 5) (pv 12) (fun _ _ => rfl)) pa_nil)))) (pg_sub (pv 13) (pv 12) set_list))
        (pss_cons (ps_set (i := 9) scLaw.nd rfl (.inl rfl) (pe_ifExp (pt_val (pe_call HI.ok hr1 (by rfl) HI.g HI.kp HI.b .nil pass0 (pa_cons (pv 2) (pa_cons (pv 3) (pa_cons (pe_ix ix_list (pv 13) (pv 12) (fun _ _ => rfl)) pa_nil))))) pe_non (pv 12)))
        (pss_one (ps_for PassesOwn.never rfl (pi_range1 (by rfl) B.range (pa_cons pe_int pa_nil)) (pg_name (i := 14) scLaw.nd rfl (.inl rfl))
          (pss_one (ps_if (pt_not (pt_val (pe_call HA.ok hr4 (by rfl) HA.g HA.kp HA.b .nil pass0 (pa_cons (pe_call HR.ok hr (by rfl) HR.g HR.kp HR.b .nil pass0 (pa_cons (pv 4) (pa_cons (pv 13) (pa_cons (pv 14) pa_nil)))) (pa_cons (pv 9) pa_nil))))) pss_never pss_nil))))))))
      (pss_one (ps_ret pe_bl))))))))), ?_⟩
    -- row = [script, 0, 0, 0]
    refine ⟨.ref a, rfl, four_le, fun r nr => ?_⟩
    have R0 : RowAt K (upd H r (.lst [.ref a, .int 0, .int 0, .int 0])) r a ns := RowAt.new hS nr
    -- guests, size = many(row)
    refine ⟨.ref r, rfl, r, a, ns, rfl, R0, fun x H4 g z R4 s4 hx hI => ?_⟩
    obtain ⟨T1, rfl, hT1⟩ := hx
    refine ⟨T1, _, rfl, SqT.of hT1, rfl, _, _, rfl, _, _, rfl, rfl, ?_⟩
    -- party = Party(guests, size)
    refine ⟨.int g, rfl, .int z, rfl, fun p dx np ndx nex => ?_⟩
    refine ⟨p, dx, g, z, rfl, upd_same, hI, rfl, ?_⟩
    rw [upd_upd]
    have s5 : Same H4 (upd (upd H4 dx (.own p)) p (.ins C dx (pf g z))) := (same_new (o := .own p) ndx).trans (same_new (by rw [upd_ne nex.symm]; exact np))
    have hp5 : (upd (upd H4 dx (.own p)) p (.ins C dx (pf g z))) p = some (.ins C dx (pf g z)) := upd_same
    have R5 := R4.keep s5
    generalize (upd (upd H4 dx (.own p)) p (.ins C dx (pf g z))) = H5 at s5 hp5 R5 ⊢
    obtain ⟨xr5, hxr5⟩ := R5.lst
    -- plan
    refine ⟨.ref r, rfl, .int g, rfl, .int z, rfl, r, a, ns, g, z, 5, rfl, R5, hI, by decide, by decide, fun l H6 rs0 R6 s6 nl hPM hG hl4 => ?_⟩
    have npr : p ≠ r := ne_of hp5 hxr5 (by intro e; cases e)
    have nlr : l ≠ r := fun e => by
      rw [e, hxr5] at nl
      cases nl
    have I6 : LawP K H6 r a l ns g z rs0 5 := ⟨R6, hPM, nlr, by omega, hG.rd, fun H' o R => row_put R5 nl R⟩
    have hp6 := s6 _ _ npr hp5
    obtain ⟨n, zn, ez, eg, hz1, hz8, hn64⟩ := party_nat hI
    have egN : g = ((g.toNat : Nat) : Int) := by
      have := hI.g2
      omega
    have hI' : IsParty ((g.toNat : Nat) : Int) z := egN ▸ hI
    have big : (100000 : Nat) < sizeLine := by decide
    -- if taken(row, 2) == 1
    refine ⟨.ref r, rfl, r, a, ns, 2, rfl, I6.row, by decide, by decide, fun cA JA cA0 cA1 RA sA => ?_⟩
    have IA := I6.keep RA sA
    have hpA := sA _ _ npr hp6
    refine ⟨rfl, _, rfl, if_join (H := JA) (Ok := fun H' => ∃ rs, LawP K H' r a l ns g z rs 6 ∧ H' p = some (.ins C dx (pf g z))) (fun hN => ?_) (fun JB hB => ?_) ⟨rs0, ⟨IA.row, IA.pl, IA.nlr, by have := IA.cnt; omega, IA.rd, IA.put⟩, hpA⟩⟩
    · obtain ⟨xs, hl, hxs⟩ := id IA.pl
      refine ⟨.ref l, rfl, .inl ⟨rfl, _, SqL.of hl⟩, .ref r, rfl, .int g, rfl, g, rfl, ?_, fun b1 nb1 => ?_⟩
      · exact RgOk.of_le (by decide) (by have := hI.g64; omega) (by decide) (by have := hI.g2; omega)
      have er : rgV 0 g = (rangeI (n * zn)).map V.int := by
        rw [eg]
        exact rgV_range _
      rw [er]
      have sb1 : Same JA (upd JA b1 (.lst ((rangeI (n * zn)).map V.int))) := same_new nb1
      have IB1 := IA.same sb1
      refine ⟨r, a, b1, ns, rangeI (n * zn), rfl, IB1.row, SqL.of upd_same, by rw [rangeI_len]; omega, fun c JE l' RD sD nc hc hp => ?_⟩
      have ID := IB1.keep RD sD
      refine ⟨.int z, rfl, c, l', zn, n, by rw [ez]; rfl, SqL.of hc, hz1, by omega, by rw [hp.length_eq, rangeI_len], by omega, fun x JF sE hx => ?_⟩
      have IE := ID.same sE
      have hRd : IsRound g z (seatedM l' zn n) := drawn_round hI ez eg hz1 hp
      generalize seatedM l' zn n = rd at hx hRd
      obtain ⟨xs2, hl2, hxs2⟩ := id IE.pl
      have hxl := paired_len hxs2
      have hcnt := IE.cnt
      have hpF : JF p = some (.ins C dx (pf g z)) := sE _ _ (sD _ _ npr (sb1 _ _ hpA))
      refine ⟨l, xs2, x, rfl, rfl, hl2, by omega, hN _ ⟨rs0 ++ [rd], IE.putL (paired_snoc hxs2 hx) ?_ fun q1 hq1 => ?_, ?_⟩⟩
      · rw [List.length_append, List.length_singleton]
        omega
      · rcases List.mem_append.mp hq1 with hq1 | hq1
        · exact IE.rd q1 hq1
        · rw [List.mem_singleton.mp hq1]
          exact hRd
      · rw [upd_ne (ne_of hpF hl2 (by intro e; cases e))]
        exact hpF
    obtain ⟨rs, IB, hpB⟩ := hB
    obtain ⟨xs, hl, hxs⟩ := id IB.pl
    have hxl := paired_len hxs
    have hcnt := IB.cnt
    -- handed = list(plan)
    refine ⟨.ref l, rfl, l, xs, rfl, .inl (SqL.of hl), fun b1 nb1 => ?_⟩
    have sg : Same JB (upd JB b1 (.lst xs)) := same_new nb1
    have IG := IB.same sg
    have hpG := sg _ _ hpB
    have hb1 : (upd JB b1 (.lst xs)) b1 = some (.lst xs) := upd_same
    have hlG := sg _ _ hl
    have hxsG : Paired (RndV (upd JB b1 (.lst xs))) xs rs := paired_mono (fun _ _ h => RndV.mono h (same_toT sg)) hxs
    generalize (upd JB b1 (.lst xs)) = JG at sg IG hpG hb1 hlG hxsG ⊢
    have hsm : Small rs := ⟨by omega, fun rd hr => (good_small hI (IB.rd rd hr)).2.1, fun rd hr => (good_small hI (IB.rd rd hr)).2.2⟩
    have hrd' : ∀ rd ∈ rs, IsRound ((g.toNat : Nat) : Int) z rd := fun rd hr => egN ▸ IB.rd rd hr
    have hg64 : g.toNat ≤ 64 := by have := hI.g64; omega
    have hbnd : ∀ rd ∈ rs, (pairsR rd).length ≤ 4096 ∧ ∀ t ∈ rd, t.length ≤ 100000 := fun rd hr => ⟨(good_small hI (IB.rd rd hr)).1, (good_small hI (IB.rd rd hr)).2.2⟩
    have hrowsM : ∀ (f : Int → List Int), (∀ c, (f c).length ≤ 100000) → ∀ rw ∈ rowsM f g.toNat, rw.length ≤ 100000 := fun f hf rw hrw => by
      obtain ⟨c, _, rfl⟩ := List.mem_map.mp hrw
      exact hf c
    have hm1 : ∀ c, (metM g.toNat (pairsP rs) c).length ≤ 100000 := fun c => by
      have := metD_len g.toNat (dirs (pairsP rs)) c
      unfold metM
      omega
    have hm2 : ∀ c, (unmetM g.toNat (pairsP rs) c).length ≤ 100000 := fun c => by
      have e1 := (List.filter_sublist (p := fun d => decide (d ≠ c ∧ d ∉ metM g.toNat (pairsP rs) c)) (l := rangeI g.toNat)).length_le
      rw [rangeI_len] at e1
      unfold unmetM
      omega
    refine ⟨2, rfl, by decide, by decide, ?_⟩
    refine for_it walk_range (fun i σ H2 => ∃ (y7 y8 y9 y10 y11 : Option V), σ = [some (.ref a), some (.ref r), some (.int g), some (.int z), some (.ref p), some (.ref l), some (.ref b1), y7, y8, y9, y10, y11, none, none, none] ∧ Same JG H2)
      ⟨none, none, none, none, none, rfl, Same.refl _⟩ (fun _ _ _ _ _ => trivial) (fun i x σ H2 H3 hi hI2 y => ?_) (fun σ H2 hI2 => ?_)
    · obtain ⟨y7, y8, y9, y10, y11, rfl, sJ⟩ := hI2
      obtain ⟨rfl, rfl⟩ := y
      have hP3 : PartyV C H3 p ((g.toNat : Nat) : Int) z := ⟨dx, by rw [← egN]; exact sJ _ _ hpG⟩
      have hx3 := paired_mono (fun _ _ h => RndV.mono h (same_toT sJ)) hxsG
      -- told
      refine ⟨.ref p, rfl, .ref b1, rfl, p, b1, g.toNat, z, rs, rfl, hP3, hI', ⟨xs, SqL.of (sJ _ _ hb1), hx3⟩, hsm, hrd', fun K1 D1 t1 hD1 => ?_⟩
      refine ⟨.ref p, rfl, .ref b1, rfl, p, b1, g.toNat, z, rs, rfl, hP3.same t1, hI', ⟨xs, SqL.of (t1 _ _ (sJ _ _ hb1)), paired_mono (fun _ _ h => RndV.mono h (same_toT t1)) hx3⟩, hsm, hrd', fun K2 D2 t2 hD2 => ?_⟩
      refine ⟨two_le, fun TT nTT => ?_⟩
      have t3 : Same K2 (upd K2 TT (.tup [.ref D1, .ref D2])) := same_new nTT
      have hTT : (upd K2 TT (.tup [.ref D1, .ref D2])) TT = some (.tup [.ref D1, .ref D2]) := upd_same
      generalize (upd K2 TT (.tup [.ref D1, .ref D2])) = K3 at t3 hTT ⊢
      have t13 := (t1.trans t2).trans t3
      -- due
      refine ⟨.int g, rfl, .ref l, rfl, l, g.toNat, rs, true, by rw [← egN]; rfl, ⟨xs, SqL.of (t13 _ _ (sJ _ _ hlG)), paired_mono (fun _ _ h => RndV.mono h (same_toT t13)) hx3⟩, by omega, hbnd, hg64, plan_pair hrd', fun K4 E1 t4 hE1 => ?_⟩
      have t14 := t13.trans t4
      refine ⟨.int g, rfl, .ref l, rfl, l, g.toNat, rs, false, by rw [← egN]; rfl, ⟨xs, SqL.of (t14 _ _ (sJ _ _ hlG)), paired_mono (fun _ _ h => RndV.mono h (same_toT t14)) hx3⟩, by omega, hbnd, hg64, plan_pair hrd', fun K5 E2 t5 hE2 => ?_⟩
      refine ⟨two_le, fun TD nTD => ?_⟩
      have t6 : Same K5 (upd K5 TD (.tup [.ref E1, .ref E2])) := same_new nTD
      have hTD : (upd K5 TD (.tup [.ref E1, .ref E2])) TD = some (.tup [.ref E1, .ref E2]) := upd_same
      generalize (upd K5 TD (.tup [.ref E1, .ref E2])) = K6 at t6 hTD ⊢
      have t36 := (t4.trans t5).trans t6
      have t16 := t13.trans t36
      have hD1' := hD1.keep ((t2.trans t3).trans t36)
      have hD2' := hD2.keep (t3.trans t36)
      have hE1' := hE1.keep (t5.trans t6)
      have hE2' := hE2.keep t6
      have hTT' := t36 _ _ hTT
      have hrl : ∀ (f : Int → List Int), (rowsM f g.toNat).length ≤ 100000 := fun f => by rw [rowsM_len]; omega
      refine ⟨.ref TT, rfl, .ref TD, rfl, .ref TT, .ref TD, rfl, .inr ⟨TT, TD, _, _, rfl, rfl, .inl ⟨hTT', hTD⟩, by simp, .cons (tree_ll (hrl _) (hrowsM _ hm1) hD1' hE1') (.cons (tree_ll (hrl _) (hrowsM _ hm2) hD2' hE2') .nil)⟩, fun K7 t7 => ⟨true, rfl, iteF ?_⟩⟩
      have t17 := t16.trans t7
      have hx7 := paired_mono (fun _ _ h => RndV.mono h (same_toT t17)) hx3
      refine ⟨.ref b1, rfl, .ref l, rfl, .list (rs.map fun r => .tuple (r.map dT)), .list (rs.map fun r => .tuple (r.map dT)), dp_lst (fun _ _ h => dp_rnd h) (SqL.of (t17 _ _ (sJ _ _ hb1))) hx7, dp_lst (fun _ _ h => dp_rnd h) (SqL.of (t17 _ _ (sJ _ _ hlG))) hx7, shRnds _, shRnds _, ?_⟩
      have een : PyData.eqv (.list (rs.map fun r => .tuple (r.map dT))) (.list (rs.map fun r => .tuple (r.map dT))) = true := by
        simp only [PyData.eqv]
        exact eqvRnds.mpr rfl
      rw [een]
      refine ⟨_, rfl, iteF ?_⟩
      -- what was told is changed
      have hD17 := hD1'.keep t7
      have hD27 := (hD2'.keep t7).from t1
      have n12 : D1 ≠ D2 := fun e => by
        obtain ⟨_, xs1, e1, _⟩ := hD1
        rw [e, hD2.1] at e1
        cases e1
      have L1 : Loose H3 K7 D1 D2 D1 64 := by
        obtain ⟨n1, us, e1, p1⟩ := hD17
        refine ⟨us, e1, by rw [paired_len p1, rowsM_len]; exact hg64, fun x hx => ?_⟩
        obtain ⟨i0, hi0⟩ := List.mem_iff_getElem?.mp hx
        obtain ⟨row, hrow, q0, e2, h3, h4⟩ := paired_getL p1 hi0
        refine ⟨q0, _, e2, h3, ?_, h4, fun e => ?_, fun e => ?_⟩
        · rw [List.length_map]
          obtain ⟨c, _, rfl⟩ := List.mem_map.mp (List.mem_of_getElem? hrow)
          exact Nat.le_trans (metD_len _ _ _) hg64
        · rw [e, e1] at h3
          injection h3 with h3
          injection h3 with h3
          rw [h3] at hx
          obtain ⟨n0, _, e9⟩ := List.mem_map.mp hx
          rw [e2] at e9
          cases e9
        · obtain ⟨_, us1, e1', p1'⟩ := hD1
          have e6 : us1 = us := by
            have := ((((t2.trans t3).trans t36).trans t7) _ _ e1').symm.trans e1
            injection this with this
            injection this
          subst e6
          obtain ⟨row', _, q6, e7, h7, _⟩ := paired_getL p1' hi0
          rw [e2] at e7
          cases e7
          rw [e, hD2.1] at h7
          cases h7
      have L2 : Loose H3 K7 D1 D2 D2 64 := by
        obtain ⟨n1, us, e1, p1⟩ := hD2'.keep t7
        refine ⟨us, e1, by rw [paired_len p1, rowsM_len]; exact hg64, fun x hx => ?_⟩
        obtain ⟨i0, hi0⟩ := List.mem_iff_getElem?.mp hx
        obtain ⟨row, hrow, q0, e2, h3, h4⟩ := paired_getL p1 hi0
        refine ⟨q0, _, e2, h3, ?_, t1.free h4, fun e => ?_, fun e => ?_⟩
        · rw [List.length_map]
          obtain ⟨c, _, rfl⟩ := List.mem_map.mp (List.mem_of_getElem? hrow)
          have e1 := (List.filter_sublist (p := fun d => decide (d ≠ c ∧ d ∉ metM g.toNat (pairsP rs) c)) (l := rangeI g.toNat)).length_le
          rw [rangeI_len] at e1
          exact Nat.le_trans e1 hg64
        · obtain ⟨_, us1, e1', _⟩ := hD1
          rw [e, e1'] at h4
          cases h4
        · rw [e, e1] at h3
          injection h3 with h3
          injection h3 with h3
          rw [h3] at hx
          obtain ⟨n0, _, e9⟩ := List.mem_map.mp hx
          rw [e2] at e9
          cases e9
      have hTT7 := t7 _ _ hTT'
      refine ⟨.ref TT, rfl, TT, rfl, ⟨_, SqT.of hTT7⟩, ?_⟩
      refine for_it (walk_tup (xs := [.ref D1, .ref D2])) (fun j σ H9 => ∃ (y10 y11 : Option V), σ = [some (.ref a), some (.ref r), some (.int g), some (.int z), some (.ref p), some (.ref l), some (.ref b1), some (.int (0 + (i : Nat))), some (.ref TT), some (.ref TD), y10, y11, none, none, none] ∧ Same H3 H9 ∧ H9 TT = some (.tup [.ref D1, .ref D2]) ∧ Loose H3 H9 D1 D2 D1 (64 + 100 * j) ∧ Loose H3 H9 D1 D2 D2 (64 + 100 * j))
        ⟨y10, y11, rfl, t17, hTT7, L1, L2⟩ (fun j σ H9 _ h => ?_) (fun j x σ H9 H9' hj hJ y => ?_) (fun σ H9 hJ => ?_)
      · obtain ⟨_, _, _, _, h, _⟩ := h
        exact SqT.of h
      · obtain ⟨y10, y11, rfl, s9, hT9, l1, l2⟩ := hJ
        obtain ⟨rfl, hx⟩ := y
        obtain ⟨D, hD, rfl⟩ : ∃ D, (D = D1 ∨ D = D2) ∧ x = .ref D := by
          match j, hx with
          | 0, hx => exact ⟨D1, .inl rfl, (Option.some.inj hx).symm⟩
          | 1, hx => exact ⟨D2, .inr rfl, (Option.some.inj hx).symm⟩
          | j + 2, hx => simp at hx
        have lD : Loose H3 H9' D1 D2 D (64 + 100 * j) := by
          rcases hD with rfl | rfl <;> assumption
        obtain ⟨us, eD, hus, _⟩ := id lD
        refine ⟨.ref D, rfl, D, rfl, ⟨_, SqL.of eD⟩, ?_⟩
        refine for_it (walk_list (xs := us)) (fun m σ Ha => ∃ (y11 : Option V), σ = [some (.ref a), some (.ref r), some (.int g), some (.int z), some (.ref p), some (.ref l), some (.ref b1), some (.int (0 + (i : Nat))), some (.ref TT), some (.ref TD), some (.ref D), y11, none, none, none] ∧ Same H3 Ha ∧ Ha TT = some (.tup [.ref D1, .ref D2]) ∧ Loose H3 Ha D1 D2 D1 (64 + 100 * j + m) ∧ Loose H3 Ha D1 D2 D2 (64 + 100 * j + m) ∧ Ha D = some (.lst us))
          ⟨y11, rfl, s9, hT9, l1, l2, eD⟩ (fun m σ Ha _ h => ?_) (fun m x σ Ha Hb hm hM y => ?_) (fun σ Ha hM => ?_)
        · obtain ⟨_, _, _, _, _, _, h⟩ := h
          exact SqL.of h
        · obtain ⟨y11, rfl, sa, hTa, la1, la2, eDa⟩ := hM
          obtain ⟨rfl, hx⟩ := y
          have lDa : Loose H3 Hb D1 D2 D (64 + 100 * j + m) := by
            rcases hD with rfl | rfl <;> assumption
          obtain ⟨us', eD', _, hmem⟩ := lDa
          rw [eDa] at eD'
          cases eD'
          obtain ⟨q0, ys, rfl, hq, hyl, hq0, nq1, nq2⟩ := hmem x (List.mem_of_getElem? hx)
          have hj2 : j < 2 := hj
          refine ⟨.ref q0, rfl, .inl ⟨rfl, _, SqL.of hq⟩, q0, ys, .int 7, rfl, rfl, hq, by omega, ?_⟩
          exact ⟨_, rfl, same_put sa hq0, by rw [upd_ne (ne_of hTa hq (by intro e; cases e))]; exact hTa, la1.put (.inl rfl) hq hyl nq1 nq2, la2.put (.inr rfl) hq hyl nq1 nq2, by rw [upd_ne (by rcases hD with rfl | rfl <;> exact Ne.symm (by assumption))]; exact eDa⟩
        · obtain ⟨y11, rfl, sa, hTa, la1, la2, eDa⟩ := hM
          refine ⟨.ref D, rfl, .inl ⟨rfl, _, SqL.of eDa⟩, D, us, rfl, rfl, eDa, ?_⟩
          have nD3 : H3 D = none := by
            rcases hD with rfl | rfl
            · exact hD1.1
            · exact hD27.1
          exact ⟨_, _, rfl, same_put sa nD3, by rw [upd_ne (ne_of hTa eDa (by intro e; cases e))]; exact hTa, (la1.rev hD eDa).wide (by omega), (la2.rev hD eDa).wide (by omega)⟩
      · obtain ⟨y10, y11, rfl, s9, _⟩ := hJ
        exact ⟨_, _, _, _, _, rfl, sJ.trans s9⟩
    · obtain ⟨y7, y8, y9, y10, y11, rfl, sJ⟩ := hI2
      have IM := IG.same sJ
      have hpM := sJ _ _ hpG
      clear IG hxsG
      -- for k in range(len(plan))
      refine ⟨.ref l, rfl, l, xs, rfl, .inl (SqL.of (sJ _ _ hlG)), _, rfl, by omega, by omega, ?_⟩
      refine for_it walk_range (fun k σ H2 => ∃ (y7 y8 y9 y10 y11 y12 y13 y14 : Option V), σ = [some (.ref a), some (.ref r), some (.int g), some (.int z), some (.ref p), some (.ref l), some (.ref b1), y7, y8, y9, y10, y11, y12, y13, y14] ∧ LawP K H2 r a l ns g z rs 6 ∧ H2 p = some (.ins C dx (pf g z)))
        ⟨y7, y8, y9, y10, y11, none, none, none, rfl, IM, hpM⟩ (fun _ _ _ _ _ => trivial) (fun k x σ JC JC' hk hC y => ?_) (fun σ JC hC => q _)
      obtain ⟨y7, y8, y9, y10, y11, y12, y13, y14, rfl, IC, hpC⟩ := hC
      obtain ⟨rfl, hxv⟩ := y
      have ek0 : (0 : Int) + (k : Nat) = ((k : Nat) : Int) := by omega
      have hxv : x = V.int ((k : Nat) : Int) := hxv.trans (by show V.int (0 + (k : Nat)) = _; rw [ek0])
      subst hxv
      obtain ⟨us, hus, hps⟩ := id IC.pl
      have hul := paired_len hps
      have hkr : k < rs.length := by omega
      have hr0 : rs[k]? = some rs[k] := List.getElem?_eq_getElem hkr
      have hrm := List.getElem_mem hkr
      generalize rs[k] = q0 at hr0 hrm
      obtain ⟨v0, hv0, hvr⟩ := paired_get hps hr0
      obtain ⟨hb1', hb2'⟩ := round_bd hI (IC.rd q0 hrm)
      -- bad = list(plan)
      refine ⟨.ref l, rfl, l, us, rfl, .inl (SqL.of hus), fun b nb => ?_⟩
      have sb : Same JC' (upd JC' b (.lst us)) := same_new nb
      have IC2 := IC.same sb
      have hbb : (upd JC' b (.lst us)) b = some (.lst us) := upd_same
      have hpC2 := sb _ _ hpC
      have hus2 := sb _ _ hus
      have hvr2 := hvr.mono (same_toT sb)
      generalize (upd JC' b (.lst us)) = JD at sb IC2 hbb hpC2 hus2 hvr2 ⊢
      obtain ⟨xrC, hxrC⟩ := IC.row.lst
      have nbr : b ≠ r := fun e => by
        rw [e, hxrC] at nb
        cases nb
      have nlb : l ≠ b := fun e => by
        rw [← e, hus] at nb
        cases nb
      -- bad[k] = spoilt(row, guests, plan[k])
      refine ⟨.ref r, rfl, .int g, rfl, .ref l, rfl, .int ((k : Nat) : Int), rfl, l, us, _, v0, rfl, rfl, SqL.of hus2, atI_nat hv0, r, a, ns, g, v0, q0, 32, 8, rfl, IC2.row, hvr2, hb1', hb2', by decide, by decide, fun v1 JI q1 RI sI hv1 hc1 hc2 => ?_⟩
      have II := IC2.keep RI sI
      have hbI := sI _ _ nbr hbb
      have hpI := sI _ _ npr hpC2
      refine ⟨.ref b, rfl, .int ((k : Nat) : Int), rfl, b, us, _, k, rfl, rfl, hbI, ixN_of (by omega) (by omega), ?_⟩
      have T9 : SameT JI (upd JI b (.lst (us.set k v1))) := fun a2 u2 e2 => by
        rw [upd_ne (ne_of e2 hbI (by intro e; cases e))]
        exact e2
      have IJ : LawP K (upd JI b (.lst (us.set k v1))) r a l ns g z rs 6 := by
        obtain ⟨ws, hw, hpw⟩ := II.pl
        exact ⟨row_put IC.row nb II.row, ⟨ws, (upd_ne nlb).trans hw, paired_mono (fun _ _ h => RndV.mono h T9) hpw⟩, II.nlr, II.cnt, II.rd, II.put⟩
      have hbJ : (upd JI b (.lst (us.set k v1))) b = some (.lst (us.set k v1)) := upd_same
      have hpJ : (upd JI b (.lst (us.set k v1))) p = some (.ins C dx (pf g z)) := by
        rw [upd_ne (ne_of hpI hbI (by intro e; cases e))]
        exact hpI
      have hv1J := hv1.mono T9
      have hpsJ : Paired (RndV (upd JI b (.lst (us.set k v1)))) (us.set k v1) (rs.set k q1) := paired_set k (paired_mono (fun _ _ h => RndV.mono h ((((same_toT sb).trans (IC2.toT sI))).trans T9)) hps) hv1J
      generalize (upd JI b (.lst (us.set k v1))) = JJ at T9 IJ hbJ hpJ hv1J hpsJ ⊢
      have hgk : (us.set k v1)[k]? = some v1 := List.getElem?_set_self (by omega)
      have hqk : (rs.set k q1)[k]? = some q1 := List.getElem?_set_self hkr
      -- is_round(guests, size, bad[k])
      refine ⟨.int g, rfl, .int z, rfl, .ref b, rfl, .int ((k : Nat) : Int), rfl, b, _, _, v1, rfl, rfl, SqL.of hbJ, atI_nat hgk, g, z, v1, q1, rfl, hI, hv1J, by omega, fun t ht => by have := hc2 t ht; omega, fun bb JK sK hbr => ⟨bb, rfl, ?_⟩⟩
      have IK := IJ.same sK
      have hpK := sK _ _ hpJ
      have hbK := sK _ _ hbJ
      have hbs := paired_mono (fun _ _ h => RndV.mono h (same_toT sK)) hpsJ
      have hsmB : Small (rs.set k q1) := by
        refine ⟨by rw [List.length_set]; omega, fun rd hr => ?_, fun rd hr => ?_⟩
        · rcases List.mem_or_eq_of_mem_set hr with hr | rfl
          · exact hsm.r rd hr
          · omega
        · rcases List.mem_or_eq_of_mem_set hr with hr | rfl
          · exact hsm.t rd hr
          · exact fun t ht => by have := hc2 t ht; omega
      cases bb with
      | true =>
        have hq1 : IsRound g z q1 := hbr.mp rfl
        have hallB : ∀ rb ∈ rs.set k q1, IsRound g z rb := fun rb hm => by
          rcases List.mem_or_eq_of_mem_set hm with hm | rfl
          · exact IC.rd rb hm
          · exact hq1
        refine iteT ?_
        refine ⟨2, rfl, by decide, by decide, ?_⟩
        refine for_it walk_range (fun _ σ H9 => ∃ (y14 : Option V), σ = [some (.ref a), some (.ref r), some (.int g), some (.int z), some (.ref p), some (.ref l), some (.ref b1), y7, y8, some .non, y10, y11, some (.int ((k : Nat) : Int)), some (.ref b), y14] ∧ Same JK H9)
          ⟨y14, rfl, Same.refl _⟩ (fun _ _ _ _ _ => trivial) (fun m x σ H9 H9' hm hM y => ?_) (fun σ H9 hM => ?_)
        · obtain ⟨y14, rfl, s9⟩ := hM
          obtain ⟨rfl, rfl⟩ := y
          have IL := IK.same s9
          refine ⟨.ref p, rfl, .ref b, rfl, .int (0 + (m : Nat)), rfl, p, b, g.toNat, z, rs.set k q1, 0 + (m : Nat), rfl, ⟨dx, by rw [← egN]; exact s9 _ _ hpK⟩, hI', ⟨_, SqL.of (s9 _ _ hbK), paired_mono (fun _ _ h => RndV.mono h (same_toT s9)) hbs⟩, hsmB, fun hall H8 t8 => ?_, fun k' hk' H8 t8 => ?_⟩
          · exact ⟨.non, rfl, .non, .non, rfl, .inl ⟨rfl, .inl rfl⟩, fun H7 t7 => ⟨true, rfl, iteF ⟨_, rfl, (s9.trans t8).trans t7⟩⟩⟩
          · obtain ⟨rb, e1, e2, _⟩ := hk'
            exact absurd (egN ▸ hallB rb (List.mem_of_getElem? e1)) e2
        · obtain ⟨y14, rfl, s9⟩ := hM
          exact ⟨_, _, _, _, _, _, _, _, rfl, (IK.same s9), s9 _ _ hpK⟩
      | false =>
        have hnq : ¬ IsRound g z q1 := fun h => by
          have := hbr.mpr h
          cases this
        refine iteF ⟨_, rfl, ?_⟩
        refine ⟨2, rfl, by decide, by decide, ?_⟩
        refine for_it walk_range (fun _ σ H9 => ∃ (y14 : Option V), σ = [some (.ref a), some (.ref r), some (.int g), some (.int z), some (.ref p), some (.ref l), some (.ref b1), y7, y8, some (.int ((k : Nat) : Int)), y10, y11, some (.int ((k : Nat) : Int)), some (.ref b), y14] ∧ Same JK H9)
          ⟨y14, rfl, Same.refl _⟩ (fun _ _ _ _ _ => trivial) (fun m x σ H9 H9' hm hM y => ?_) (fun σ H9 hM => ?_)
        · obtain ⟨y14, rfl, s9⟩ := hM
          obtain ⟨rfl, rfl⟩ := y
          have IL := IK.same s9
          refine ⟨.ref p, rfl, .ref b, rfl, .int (0 + (m : Nat)), rfl, p, b, g.toNat, z, rs.set k q1, 0 + (m : Nat), rfl, ⟨dx, by rw [← egN]; exact s9 _ _ hpK⟩, hI', ⟨_, SqL.of (s9 _ _ hbK), paired_mono (fun _ _ h => RndV.mono h (same_toT s9)) hbs⟩, hsmB, fun hall H8 t8 => ?_, fun k' hk' H8 t8 => ?_⟩
          · exact absurd (egN ▸ hall q1 (List.mem_of_getElem? hqk)) hnq
          · obtain ⟨rb, e1, e2, _⟩ := hk'
            have ek : k' = k := by
              by_cases e : k' = k
              · exact e
              · rw [List.getElem?_set_ne (Ne.symm e)] at e1
                exact absurd (egN ▸ IC.rd rb (List.mem_of_getElem? e1)) e2
            subst ek
            exact ⟨.int ((k' : Nat) : Int), rfl, .int ((k' : Nat) : Int), .int ((k' : Nat) : Int), rfl, .inl ⟨rfl, .inr (.inr (.inl ⟨_, rfl⟩))⟩, fun H7 t7 => ⟨true, rfl, iteF ⟨_, rfl, (s9.trans t8).trans t7⟩⟩⟩
        · obtain ⟨y14, rfl, s9⟩ := hM
          exact ⟨_, _, _, _, _, _, _, _, rfl, (IK.same s9), s9 _ _ hpK⟩
end Nf

set_option Elab.async false
set_option linter.all false
set_option maxRecDepth 100000
set_option maxHeartbeats 4000000
namespace Nf
open PySem L2
/-! ### what the top has laid, the end -/
theorem all_mk {l : PySem.W.OpenLaw} {w : World} {K : PySem.W.Frag} {h : Heap} {mg : Str → Option Value} {fa C f_check_plan f_is_round f_is_table f_rises f_pairs f_met f_unmet f_is_party f_L_taken f_L_alike f_L_few f_L_many f_L_mixed f_L_seated f_L_pairs f_L_known f_L_new f_L_thin f_L_plan f_L_is_round f_L_spoilt f_L_due f_L_refused f_M_init f_M_guests f_M_size f_M_tables f_law : Addr} (X : K.In h) (G : h.Ns mainGlobals mg) (hfa : mg "law" = some (.ref fa))
    {od_check_plan an_check_plan od_is_round an_is_round od_is_table an_is_table od_rises an_rises od_pairs an_pairs od_met an_met od_unmet an_unmet od_is_party an_is_party od_L_taken an_L_taken od_L_alike an_L_alike od_L_few an_L_few od_L_many an_L_many od_L_mixed an_L_mixed od_L_seated an_L_seated od_L_pairs an_L_pairs od_L_known an_L_known od_L_new an_L_new od_L_thin an_L_thin od_L_plan an_L_plan od_L_is_round an_L_is_round od_L_spoilt an_L_spoilt od_L_due an_L_due od_L_refused an_L_refused od_M_init an_M_init od_M_guests an_M_guests od_M_size an_M_size od_M_tables an_M_tables od_law an_law : Option Addr} {sl_check_plan sl_is_round sl_is_table sl_rises sl_pairs sl_met sl_unmet sl_is_party sl_L_taken sl_L_alike sl_L_few sl_L_many sl_L_mixed sl_L_seated sl_L_pairs sl_L_known sl_L_new sl_L_thin sl_L_plan sl_L_is_round sl_L_spoilt sl_L_due sl_L_refused sl_M_init sl_M_guests sl_M_size sl_M_tables sl_law : Array (Option Value)} {oc_check_plan kV_check_plan dc_check_plan pm_check_plan cd_check_plan ct_check_plan oc_is_round kV_is_round dc_is_round pm_is_round cd_is_round ct_is_round oc_is_table kV_is_table dc_is_table pm_is_table cd_is_table ct_is_table oc_rises kV_rises dc_rises pm_rises cd_rises ct_rises oc_pairs kV_pairs dc_pairs pm_pairs cd_pairs ct_pairs oc_met kV_met dc_met pm_met cd_met ct_met oc_unmet kV_unmet dc_unmet pm_unmet cd_unmet ct_unmet oc_is_party kV_is_party dc_is_party pm_is_party cd_is_party ct_is_party oc_L_taken kV_L_taken dc_L_taken pm_L_taken cd_L_taken ct_L_taken oc_L_alike kV_L_alike dc_L_alike pm_L_alike cd_L_alike ct_L_alike oc_L_few kV_L_few dc_L_few pm_L_few cd_L_few ct_L_few oc_L_many kV_L_many dc_L_many pm_L_many cd_L_many ct_L_many oc_L_mixed kV_L_mixed dc_L_mixed pm_L_mixed cd_L_mixed ct_L_mixed oc_L_seated kV_L_seated dc_L_seated pm_L_seated cd_L_seated ct_L_seated oc_L_pairs kV_L_pairs dc_L_pairs pm_L_pairs cd_L_pairs ct_L_pairs oc_L_known kV_L_known dc_L_known pm_L_known cd_L_known ct_L_known oc_L_new kV_L_new dc_L_new pm_L_new cd_L_new ct_L_new oc_L_thin kV_L_thin dc_L_thin pm_L_thin cd_L_thin ct_L_thin oc_L_plan kV_L_plan dc_L_plan pm_L_plan cd_L_plan ct_L_plan oc_L_is_round kV_L_is_round dc_L_is_round pm_L_is_round cd_L_is_round ct_L_is_round oc_L_spoilt kV_L_spoilt dc_L_spoilt pm_L_spoilt cd_L_spoilt ct_L_spoilt oc_L_due kV_L_due dc_L_due pm_L_due cd_L_due ct_L_due oc_L_refused kV_L_refused dc_L_refused pm_L_refused cd_L_refused ct_L_refused oc_M_init kV_M_init dc_M_init pm_M_init cd_M_init ct_M_init oc_M_guests kV_M_guests dc_M_guests pm_M_guests cd_M_guests ct_M_guests oc_M_size kV_M_size dc_M_size pm_M_size cd_M_size ct_M_size oc_M_tables kV_M_tables dc_M_tables pm_M_tables cd_M_tables ct_M_tables oc_law kV_law dc_law pm_law cd_law ct_law : Value} {CB PE CP CT CX fB cc cda : Addr} {nm qq : Str} {NN : Addr} {bss snv : List Value} {sn : List Str} {ab : Bool} {col : Option Bool} {dd : Option Addr} {m0 m1 m2 m3 m5 : Option Value} {ocB : Value} {odB anB cldB cddB : Option Addr} {docB pmB ctB clB cclB : Value} {oslB cslB ccsB : Array (Option Value)} {vsB : Array Value} {fileB : Str} {tfB : Tok} {nmE qqE : Str} {NE : Addr} {bsE svE : List Value} {hE : Bool} {snE : List Str} {abE : Bool} {colE : Option Bool} {ddE : Option Addr} {p0 p1 p2 p3 p5 : Option Value} {nwE : String}
    (aC : PySem.W.nsIn K mainGlobals "Party" = some (some (.ref C)))
    (a_check_plan : PySem.W.nsIn K mainGlobals "check_plan" = some (some (.ref f_check_plan)))
    (l_check_plan : K.lookup f_check_plan = some ⟨oc_check_plan, od_check_plan, .func (PySem.W.fnOf "check_plan" "check_plan" (defArgs sCheck) (defBody sCheck) (defScope sCheck) .none kV_check_plan dc_check_plan pm_check_plan an_check_plan cd_check_plan ct_check_plan), sl_check_plan⟩)
    (c_check_plan : PySem.W.codeIn K cd_check_plan "check_plan" = true)
    (k_check_plan : PySem.W.keepIn K (.ref f_check_plan) = true)
    (a_is_round : PySem.W.nsIn K mainGlobals "is_round" = some (some (.ref f_is_round)))
    (l_is_round : K.lookup f_is_round = some ⟨oc_is_round, od_is_round, .func (PySem.W.fnOf "is_round" "is_round" (defArgs sIsRound) (defBody sIsRound) (defScope sIsRound) .none kV_is_round dc_is_round pm_is_round an_is_round cd_is_round ct_is_round), sl_is_round⟩)
    (c_is_round : PySem.W.codeIn K cd_is_round "is_round" = true)
    (k_is_round : PySem.W.keepIn K (.ref f_is_round) = true)
    (a_is_table : PySem.W.nsIn K mainGlobals "is_table" = some (some (.ref f_is_table)))
    (l_is_table : K.lookup f_is_table = some ⟨oc_is_table, od_is_table, .func (PySem.W.fnOf "is_table" "is_table" (defArgs sIsTable) (defBody sIsTable) (defScope sIsTable) .none kV_is_table dc_is_table pm_is_table an_is_table cd_is_table ct_is_table), sl_is_table⟩)
    (c_is_table : PySem.W.codeIn K cd_is_table "is_table" = true)
    (k_is_table : PySem.W.keepIn K (.ref f_is_table) = true)
    (a_rises : PySem.W.nsIn K mainGlobals "rises" = some (some (.ref f_rises)))
    (l_rises : K.lookup f_rises = some ⟨oc_rises, od_rises, .func (PySem.W.fnOf "rises" "rises" (defArgs sRises) (defBody sRises) (defScope sRises) .none kV_rises dc_rises pm_rises an_rises cd_rises ct_rises), sl_rises⟩)
    (c_rises : PySem.W.codeIn K cd_rises "rises" = true)
    (k_rises : PySem.W.keepIn K (.ref f_rises) = true)
    (a_pairs : PySem.W.nsIn K mainGlobals "pairs" = some (some (.ref f_pairs)))
    (l_pairs : K.lookup f_pairs = some ⟨oc_pairs, od_pairs, .func (PySem.W.fnOf "pairs" "pairs" (defArgs sPairs) (defBody sPairs) (defScope sPairs) .none kV_pairs dc_pairs pm_pairs an_pairs cd_pairs ct_pairs), sl_pairs⟩)
    (c_pairs : PySem.W.codeIn K cd_pairs "pairs" = true)
    (k_pairs : PySem.W.keepIn K (.ref f_pairs) = true)
    (a_met : PySem.W.nsIn K mainGlobals "met" = some (some (.ref f_met)))
    (l_met : K.lookup f_met = some ⟨oc_met, od_met, .func (PySem.W.fnOf "met" "met" (defArgs sMet) (defBody sMet) (defScope sMet) .none kV_met dc_met pm_met an_met cd_met ct_met), sl_met⟩)
    (c_met : PySem.W.codeIn K cd_met "met" = true)
    (k_met : PySem.W.keepIn K (.ref f_met) = true)
    (a_unmet : PySem.W.nsIn K mainGlobals "unmet" = some (some (.ref f_unmet)))
    (l_unmet : K.lookup f_unmet = some ⟨oc_unmet, od_unmet, .func (PySem.W.fnOf "unmet" "unmet" (defArgs sUnmet) (defBody sUnmet) (defScope sUnmet) .none kV_unmet dc_unmet pm_unmet an_unmet cd_unmet ct_unmet), sl_unmet⟩)
    (c_unmet : PySem.W.codeIn K cd_unmet "unmet" = true)
    (k_unmet : PySem.W.keepIn K (.ref f_unmet) = true)
    (a_is_party : PySem.W.nsIn K mainGlobals "is_party" = some (some (.ref f_is_party)))
    (l_is_party : K.lookup f_is_party = some ⟨oc_is_party, od_is_party, .func (PySem.W.fnOf "is_party" "is_party" (defArgs sIsParty) (defBody sIsParty) (defScope sIsParty) .none kV_is_party dc_is_party pm_is_party an_is_party cd_is_party ct_is_party), sl_is_party⟩)
    (c_is_party : PySem.W.codeIn K cd_is_party "is_party" = true)
    (k_is_party : PySem.W.keepIn K (.ref f_is_party) = true)
    (a_L_taken : PySem.W.nsIn K mainGlobals "_law_taken" = some (some (.ref f_L_taken)))
    (l_L_taken : K.lookup f_L_taken = some ⟨oc_L_taken, od_L_taken, .func (PySem.W.fnOf "_law_taken" "_law_taken" (defArgs lTaken) (defBody lTaken) (defScope lTaken) .none kV_L_taken dc_L_taken pm_L_taken an_L_taken cd_L_taken ct_L_taken), sl_L_taken⟩)
    (c_L_taken : PySem.W.codeIn K cd_L_taken "_law_taken" = true)
    (k_L_taken : PySem.W.keepIn K (.ref f_L_taken) = true)
    (a_L_alike : PySem.W.nsIn K mainGlobals "_law_alike" = some (some (.ref f_L_alike)))
    (l_L_alike : K.lookup f_L_alike = some ⟨oc_L_alike, od_L_alike, .func (PySem.W.fnOf "_law_alike" "_law_alike" (defArgs lAlike) (defBody lAlike) (defScope lAlike) .none kV_L_alike dc_L_alike pm_L_alike an_L_alike cd_L_alike ct_L_alike), sl_L_alike⟩)
    (c_L_alike : PySem.W.codeIn K cd_L_alike "_law_alike" = true)
    (k_L_alike : PySem.W.keepIn K (.ref f_L_alike) = true)
    (a_L_few : PySem.W.nsIn K mainGlobals "_law_few" = some (some (.ref f_L_few)))
    (l_L_few : K.lookup f_L_few = some ⟨oc_L_few, od_L_few, .func (PySem.W.fnOf "_law_few" "_law_few" (defArgs lFew) (defBody lFew) (defScope lFew) .none kV_L_few dc_L_few pm_L_few an_L_few cd_L_few ct_L_few), sl_L_few⟩)
    (c_L_few : PySem.W.codeIn K cd_L_few "_law_few" = true)
    (k_L_few : PySem.W.keepIn K (.ref f_L_few) = true)
    (a_L_many : PySem.W.nsIn K mainGlobals "_law_many" = some (some (.ref f_L_many)))
    (l_L_many : K.lookup f_L_many = some ⟨oc_L_many, od_L_many, .func (PySem.W.fnOf "_law_many" "_law_many" (defArgs lMany) (defBody lMany) (defScope lMany) .none kV_L_many dc_L_many pm_L_many an_L_many cd_L_many ct_L_many), sl_L_many⟩)
    (c_L_many : PySem.W.codeIn K cd_L_many "_law_many" = true)
    (k_L_many : PySem.W.keepIn K (.ref f_L_many) = true)
    (a_L_mixed : PySem.W.nsIn K mainGlobals "_law_mixed" = some (some (.ref f_L_mixed)))
    (l_L_mixed : K.lookup f_L_mixed = some ⟨oc_L_mixed, od_L_mixed, .func (PySem.W.fnOf "_law_mixed" "_law_mixed" (defArgs lMixed) (defBody lMixed) (defScope lMixed) .none kV_L_mixed dc_L_mixed pm_L_mixed an_L_mixed cd_L_mixed ct_L_mixed), sl_L_mixed⟩)
    (c_L_mixed : PySem.W.codeIn K cd_L_mixed "_law_mixed" = true)
    (k_L_mixed : PySem.W.keepIn K (.ref f_L_mixed) = true)
    (a_L_seated : PySem.W.nsIn K mainGlobals "_law_seated" = some (some (.ref f_L_seated)))
    (l_L_seated : K.lookup f_L_seated = some ⟨oc_L_seated, od_L_seated, .func (PySem.W.fnOf "_law_seated" "_law_seated" (defArgs lSeated) (defBody lSeated) (defScope lSeated) .none kV_L_seated dc_L_seated pm_L_seated an_L_seated cd_L_seated ct_L_seated), sl_L_seated⟩)
    (c_L_seated : PySem.W.codeIn K cd_L_seated "_law_seated" = true)
    (k_L_seated : PySem.W.keepIn K (.ref f_L_seated) = true)
    (a_L_pairs : PySem.W.nsIn K mainGlobals "_law_pairs" = some (some (.ref f_L_pairs)))
    (l_L_pairs : K.lookup f_L_pairs = some ⟨oc_L_pairs, od_L_pairs, .func (PySem.W.fnOf "_law_pairs" "_law_pairs" (defArgs lPairs) (defBody lPairs) (defScope lPairs) .none kV_L_pairs dc_L_pairs pm_L_pairs an_L_pairs cd_L_pairs ct_L_pairs), sl_L_pairs⟩)
    (c_L_pairs : PySem.W.codeIn K cd_L_pairs "_law_pairs" = true)
    (k_L_pairs : PySem.W.keepIn K (.ref f_L_pairs) = true)
    (a_L_known : PySem.W.nsIn K mainGlobals "_law_known" = some (some (.ref f_L_known)))
    (l_L_known : K.lookup f_L_known = some ⟨oc_L_known, od_L_known, .func (PySem.W.fnOf "_law_known" "_law_known" (defArgs lKnown) (defBody lKnown) (defScope lKnown) .none kV_L_known dc_L_known pm_L_known an_L_known cd_L_known ct_L_known), sl_L_known⟩)
    (c_L_known : PySem.W.codeIn K cd_L_known "_law_known" = true)
    (k_L_known : PySem.W.keepIn K (.ref f_L_known) = true)
    (a_L_new : PySem.W.nsIn K mainGlobals "_law_new" = some (some (.ref f_L_new)))
    (l_L_new : K.lookup f_L_new = some ⟨oc_L_new, od_L_new, .func (PySem.W.fnOf "_law_new" "_law_new" (defArgs lNew) (defBody lNew) (defScope lNew) .none kV_L_new dc_L_new pm_L_new an_L_new cd_L_new ct_L_new), sl_L_new⟩)
    (c_L_new : PySem.W.codeIn K cd_L_new "_law_new" = true)
    (k_L_new : PySem.W.keepIn K (.ref f_L_new) = true)
    (a_L_thin : PySem.W.nsIn K mainGlobals "_law_thin" = some (some (.ref f_L_thin)))
    (l_L_thin : K.lookup f_L_thin = some ⟨oc_L_thin, od_L_thin, .func (PySem.W.fnOf "_law_thin" "_law_thin" (defArgs lThin) (defBody lThin) (defScope lThin) .none kV_L_thin dc_L_thin pm_L_thin an_L_thin cd_L_thin ct_L_thin), sl_L_thin⟩)
    (c_L_thin : PySem.W.codeIn K cd_L_thin "_law_thin" = true)
    (k_L_thin : PySem.W.keepIn K (.ref f_L_thin) = true)
    (a_L_plan : PySem.W.nsIn K mainGlobals "_law_plan" = some (some (.ref f_L_plan)))
    (l_L_plan : K.lookup f_L_plan = some ⟨oc_L_plan, od_L_plan, .func (PySem.W.fnOf "_law_plan" "_law_plan" (defArgs lPlan) (defBody lPlan) (defScope lPlan) .none kV_L_plan dc_L_plan pm_L_plan an_L_plan cd_L_plan ct_L_plan), sl_L_plan⟩)
    (c_L_plan : PySem.W.codeIn K cd_L_plan "_law_plan" = true)
    (k_L_plan : PySem.W.keepIn K (.ref f_L_plan) = true)
    (a_L_is_round : PySem.W.nsIn K mainGlobals "_law_is_round" = some (some (.ref f_L_is_round)))
    (l_L_is_round : K.lookup f_L_is_round = some ⟨oc_L_is_round, od_L_is_round, .func (PySem.W.fnOf "_law_is_round" "_law_is_round" (defArgs lIsRound) (defBody lIsRound) (defScope lIsRound) .none kV_L_is_round dc_L_is_round pm_L_is_round an_L_is_round cd_L_is_round ct_L_is_round), sl_L_is_round⟩)
    (c_L_is_round : PySem.W.codeIn K cd_L_is_round "_law_is_round" = true)
    (k_L_is_round : PySem.W.keepIn K (.ref f_L_is_round) = true)
    (a_L_spoilt : PySem.W.nsIn K mainGlobals "_law_spoilt" = some (some (.ref f_L_spoilt)))
    (l_L_spoilt : K.lookup f_L_spoilt = some ⟨oc_L_spoilt, od_L_spoilt, .func (PySem.W.fnOf "_law_spoilt" "_law_spoilt" (defArgs lSpoilt) (defBody lSpoilt) (defScope lSpoilt) .none kV_L_spoilt dc_L_spoilt pm_L_spoilt an_L_spoilt cd_L_spoilt ct_L_spoilt), sl_L_spoilt⟩)
    (c_L_spoilt : PySem.W.codeIn K cd_L_spoilt "_law_spoilt" = true)
    (k_L_spoilt : PySem.W.keepIn K (.ref f_L_spoilt) = true)
    (a_L_due : PySem.W.nsIn K mainGlobals "_law_due" = some (some (.ref f_L_due)))
    (l_L_due : K.lookup f_L_due = some ⟨oc_L_due, od_L_due, .func (PySem.W.fnOf "_law_due" "_law_due" (defArgs lDue) (defBody lDue) (defScope lDue) .none kV_L_due dc_L_due pm_L_due an_L_due cd_L_due ct_L_due), sl_L_due⟩)
    (c_L_due : PySem.W.codeIn K cd_L_due "_law_due" = true)
    (k_L_due : PySem.W.keepIn K (.ref f_L_due) = true)
    (a_L_refused : PySem.W.nsIn K mainGlobals "_law_refused" = some (some (.ref f_L_refused)))
    (l_L_refused : K.lookup f_L_refused = some ⟨oc_L_refused, od_L_refused, .func (PySem.W.fnOf "_law_refused" "_law_refused" (defArgs lRefused) (defBody lRefused) (defScope lRefused) .none kV_L_refused dc_L_refused pm_L_refused an_L_refused cd_L_refused ct_L_refused), sl_L_refused⟩)
    (c_L_refused : PySem.W.codeIn K cd_L_refused "_law_refused" = true)
    (k_L_refused : PySem.W.keepIn K (.ref f_L_refused) = true)
    (a_M_init : PySem.W.findIn K (.ref C) "__init__" = some (some (.ref f_M_init)))
    (i_M_init : PySem.W.isFn K (.ref f_M_init) = true)
    (l_M_init : K.lookup f_M_init = some ⟨oc_M_init, od_M_init, .func (PySem.W.fnOf "__init__" "Party.__init__" (defArgs sInit) (defBody sInit) (defScope sInit) .none kV_M_init dc_M_init pm_M_init an_M_init cd_M_init ct_M_init), sl_M_init⟩)
    (c_M_init : PySem.W.codeIn K cd_M_init "Party.__init__" = true)
    (k_M_init : PySem.W.keepIn K (.ref f_M_init) = true)
    (a_M_guests : PySem.W.findIn K (.ref C) "guests" = some (some (.ref f_M_guests)))
    (i_M_guests : PySem.W.isFn K (.ref f_M_guests) = true)
    (l_M_guests : K.lookup f_M_guests = some ⟨oc_M_guests, od_M_guests, .func (PySem.W.fnOf "guests" "Party.guests" (defArgs sGuests) (defBody sGuests) (defScope sGuests) .none kV_M_guests dc_M_guests pm_M_guests an_M_guests cd_M_guests ct_M_guests), sl_M_guests⟩)
    (c_M_guests : PySem.W.codeIn K cd_M_guests "Party.guests" = true)
    (k_M_guests : PySem.W.keepIn K (.ref f_M_guests) = true)
    (a_M_size : PySem.W.findIn K (.ref C) "size" = some (some (.ref f_M_size)))
    (i_M_size : PySem.W.isFn K (.ref f_M_size) = true)
    (l_M_size : K.lookup f_M_size = some ⟨oc_M_size, od_M_size, .func (PySem.W.fnOf "size" "Party.size" (defArgs sSize) (defBody sSize) (defScope sSize) .none kV_M_size dc_M_size pm_M_size an_M_size cd_M_size ct_M_size), sl_M_size⟩)
    (c_M_size : PySem.W.codeIn K cd_M_size "Party.size" = true)
    (k_M_size : PySem.W.keepIn K (.ref f_M_size) = true)
    (a_M_tables : PySem.W.findIn K (.ref C) "tables" = some (some (.ref f_M_tables)))
    (i_M_tables : PySem.W.isFn K (.ref f_M_tables) = true)
    (l_M_tables : K.lookup f_M_tables = some ⟨oc_M_tables, od_M_tables, .func (PySem.W.fnOf "tables" "Party.tables" (defArgs sTables) (defBody sTables) (defScope sTables) .none kV_M_tables dc_M_tables pm_M_tables an_M_tables cd_M_tables ct_M_tables), sl_M_tables⟩)
    (c_M_tables : PySem.W.codeIn K cd_M_tables "Party.tables" = true)
    (k_M_tables : PySem.W.keepIn K (.ref f_M_tables) = true)
    (a_law : PySem.W.nsIn K mainGlobals "law" = some (some (.ref f_law)))
    (l_law : K.lookup f_law = some ⟨oc_law, od_law, .func (PySem.W.fnOf "law" "law" (defArgs lLaw) (defBody lLaw) (defScope lLaw) .none kV_law dc_law pm_law an_law cd_law ct_law), sl_law⟩)
    (c_law : PySem.W.codeIn K cd_law "law" = true)
    (k_law : PySem.W.keepIn K (.ref f_law) = true)
    (pg : PySem.W.plainGet K C Str.empty = true)
    (hd : PySem.W.hasDictIn K C = true)
    (po : PySem.W.plainOver K C = true)
    (sa : PySem.W.findIn K (.ref C) "__setattr__" = some (some (.builtin "object.__setattr__")))
    (mk : PySem.W.makesIn K C = true)
    (kc : PySem.W.keepIn K (.ref C) = true)
    (nM : PySem.W.findIn K (.ref C) "many" = some none)
    (nS : PySem.W.findIn K (.ref C) "seats" = some none)
    (zFG : ∃ t, PySem.W.nsIn K mainGlobals "FEWEST_GUESTS" = some (some (.int 2 t)))
    (zMO : ∃ t, PySem.W.nsIn K mainGlobals "MOST_GUESTS" = some (some (.int 64 t)))
    (zSS : ∃ t, PySem.W.nsIn K mainGlobals "SMALLEST_SIZE" = some (some (.int 2 t)))
    (zLS : ∃ t, PySem.W.nsIn K mainGlobals "LARGEST_SIZE" = some (some (.int 8 t)))
    (b_len : PySem.W.nsIn K mainGlobals "len" = some none)
    (b_all : PySem.W.nsIn K mainGlobals "all" = some none)
    (b_zip : PySem.W.nsIn K mainGlobals "zip" = some none)
    (b_set : PySem.W.nsIn K mainGlobals "set" = some none)
    (b_sorted : PySem.W.nsIn K mainGlobals "sorted" = some none)
    (b_enumerate : PySem.W.nsIn K mainGlobals "enumerate" = some none)
    (b_list : PySem.W.nsIn K mainGlobals "list" = some none)
    (b_tuple : PySem.W.nsIn K mainGlobals "tuple" = some none)
    (b_range : PySem.W.nsIn K mainGlobals "range" = some none)
    (b_isinstance : PySem.W.nsIn K mainGlobals "isinstance" = some none)
    (b_min : PySem.W.nsIn K mainGlobals "min" = some none)
    (b_max : PySem.W.nsIn K mainGlobals "max" = some none)
    (b_int : PySem.W.nsIn K mainGlobals "int" = some none)
    (b_bool : PySem.W.nsIn K mainGlobals "bool" = some none)
    (b_str : PySem.W.nsIn K mainGlobals "str" = some none)
    (x_gB : PySem.W.nsIn K mainGlobals "BadRound" = some (some (.ref CB)))
    (x_gE : PySem.W.nsIn K mainGlobals "PartyError" = some (some (.ref PE)))
    (x_gP : PySem.W.nsIn K mainGlobals "BadParty" = some (some (.ref CP)))
    (x_gT : PySem.W.nsIn K mainGlobals "BadText" = some (some (.ref CT)))
    (x_gX : PySem.W.nsIn K mainGlobals "BadTurning" = some (some (.ref CX)))
    (x_cls : K.lookup CB = some (excClassObj nm qq CB NN bss [.ref PE, .type "ValueError", .type "Exception", .type "BaseException", .type "object"] true sn snv ab col dd m0 m1 m2 m3 m5 "ValueError.__new__"))
    (x_sa : PySem.W.findIn K (.ref CB) "__setattr__" = some (some (.builtin "object.__setattr__")))
    (x_ga : PySem.W.findIn K (.ref CB) "__getattribute__" = some (some (.builtin "BaseException.__getattribute__")))
    (x_gg : PySem.W.findIn K (.ref CB) "__getattr__" = some none)
    (x_no : PySem.W.findIn K (.ref CB) "number" = some none)
    (x_iC : PySem.W.findIn K (.ref CB) "__init__" = some (some (.ref fB)))
    (x_tC : PySem.W.typeIn K (.ref fB) = some (.type "function"))
    (x_kC : PySem.W.keepIn K (.ref CB) = true)
    (x_exC : PySem.W.subIn K (.ref CB) (.type "BaseException") = some true)
    (x_veC : PySem.W.subIn K (.ref CB) (.type "ValueError") = some true)
    (x_tyC : PySem.W.typeIn K (.ref CB) = some (.type "type"))
    (x_hdC : PySem.W.hasDictIn K CB = true)
    (x_sBB : PySem.W.subIn K (.ref CB) (.ref CB) = some true)
    (x_mro : PySem.W.mroIn K CB (.ref CB) = some true)
    (x_clsE : K.lookup PE = some (excClassObj nmE qqE PE NE bsE [.type "ValueError", .type "Exception", .type "BaseException", .type "object"] hE snE svE abE colE ddE p0 p1 p2 p3 p5 nwE))
    (x_fiE : PySem.W.findIn K (.ref PE) "__init__" = some (some (.builtin "ValueError.__init__")))
    (x_opq : PySem.W.nsIn K cStatics "thirdparty.any" = some none)
    (x_gS : PySem.W.nsIn K mainGlobals "super" = some none)
    (x_top : (l.prog.main.scope.names.lookup ("super" : Str)).isSome = false)
    (x_f1 : K.lookup fB = some ⟨ocB, odB, .func (PySem.W.ksFn "__init__" "BadRound.__init__" (defArgs sBRInit) (defBody sBRInit) (defScope sBRInit) .none .none docB pmB anB (.ref cda) ctB cc), oslB⟩)
    (x_f2 : PySem.W.codeIn K (.ref cda) "BadRound.__init__" = true)
    (x_f3 : K.lookup cc = some ⟨clB, cldB, .cell (some (.ref CB)), cslB⟩)
    (x_f4 : K.lookup cda = some ⟨cclB, cddB, .fields vsB, ccsB⟩)
    (x_f5 : vsB[2]? = some (.str fileB tfB))
    (x_f6 : ((l.prog.main.file : Str) == fileB) = true)
    (x_gV : PySem.W.nsIn K mainGlobals "ValueError" = some none)
    (x_pEx : PySem.W.subIn K (.ref PE) (.type "BaseException") = some true)
    (x_phd : PySem.W.hasDictIn K PE = true)
    (x_pty : PySem.W.typeIn K (.ref PE) = some (.type "type"))
    (x_sBE : PySem.W.subIn K (.ref CB) (.ref PE) = some true)
    (x_hP : PySem.W.hasDictIn K CP = true)
    (x_tP : PySem.W.typeIn K (.ref CP) = some (.type "type"))
    (x_sP : PySem.W.subIn K (.ref CB) (.ref CP) = some false)
    (x_hT : PySem.W.hasDictIn K CT = true)
    (x_tT : PySem.W.typeIn K (.ref CT) = some (.type "type"))
    (x_sT : PySem.W.subIn K (.ref CB) (.ref CT) = some false)
    (x_hX : PySem.W.hasDictIn K CX = true)
    (x_tX : PySem.W.typeIn K (.ref CX) = some (.type "type"))
    (x_sX : PySem.W.subIn K (.ref CB) (.ref CX) = some false)
    (x_kV : PySem.W.subIn K (.ref CB) (.type "ValueError") = some true)
    (x_ea : PySem.W.findIn K (.ref CB) "__class__" = some (some (.builtin "object.__class__")))
    (x_en : PySem.W.specialIn K (.builtin "object.__class__") "__get__" = some (some (.builtin "getset_descriptor.__get__")))
    (x_et : PySem.W.takesIn K (.builtin "object.__class__") = some true)
    (x_em : PySem.W.mroIn K CB (.type "object") = some true) :
    ∃ fd : FuncData, (∀ (s : Shared) (v : Value), BindsTo s fd ⟨[v], []⟩ [("_law_script", v)]) ∧ ∀ base : Heap, K.In base → base.Ns mainGlobals mg → FnOk l.prog w K mg base CX0 8 fa fd ["_law_script"] (spLaw K) := by
  have e := hfa.symm.trans (PySem.W.mg_of X G a_law)
  cases e
  obtain ⟨tFG, zFG⟩ := zFG
  obtain ⟨tMO, zMO⟩ := zMO
  obtain ⟨tSS, zSS⟩ := zSS
  obtain ⟨tLS, zLS⟩ := zLS
  have T : Txt K mg C := ⟨⟨pg, hd, po, sa⟩, nM, nS, PySem.W.mg_of X G aC, ⟨tFG, PySem.W.mg_of X G zFG⟩, ⟨tMO, PySem.W.mg_of X G zMO⟩, ⟨tSS, PySem.W.mg_of X G zSS⟩, ⟨tLS, PySem.W.mg_of X G zLS⟩⟩
  have B : Blt mg := ⟨PySem.W.mg_none_of X G b_len, PySem.W.mg_none_of X G b_all, PySem.W.mg_none_of X G b_zip, PySem.W.mg_none_of X G b_set, PySem.W.mg_none_of X G b_sorted, PySem.W.mg_none_of X G b_enumerate, PySem.W.mg_none_of X G b_list, PySem.W.mg_none_of X G b_tuple, PySem.W.mg_none_of X G b_range, PySem.W.mg_none_of X G b_isinstance, PySem.W.mg_none_of X G b_min, PySem.W.mg_none_of X G b_max, PySem.W.mg_none_of X G b_int, PySem.W.mg_none_of X G b_bool, PySem.W.mg_none_of X G b_str⟩
  have TB : PySem.BrX.BrTxt l.prog K mg CB fB := ⟨PySem.W.mg_of X G x_gB, ⟨nm, qq, NN, bss, _, sn, snv, ab, col, dd, m0, m1, m2, m3, m5, x_cls, (by first | rfl | decide +kernel | simp [PySem.HandSPX.refsVE])⟩, x_sa, x_ga, x_gg, x_no, x_iC, x_tC, x_kC, x_exC, x_veC, x_tyC, x_hdC, PySem.W.exm_ref x_exC x_hdC x_tyC x_sBB, x_mro, PySem.W.super_of x_cls x_clsE x_fiE, x_opq, PySem.W.mg_none_of X G x_gS, x_top,
    ⟨ocB, odB, docB, pmB, anB, cda, ctB, oslB, cc, clB, cldB, cslB, cclB, cddB, vsB, ccsB, fileB, tfB, x_f1, x_f2, x_f3, x_f4, x_f5, x_f6⟩⟩
  have TK : Kinds K mg CB PE CP CT CX := ⟨PySem.W.mg_of X G x_gE, PySem.W.mg_of X G x_gP, PySem.W.mg_of X G x_gT, PySem.W.mg_of X G x_gX, PySem.W.mg_none_of X G x_gV, PySem.W.exm_ref x_pEx x_phd x_pty x_sBE, PySem.W.kit_ref x_hP x_tP x_sP (PySem.W.sub_ne x_sBB x_sP), PySem.W.kit_ref x_hT x_tT x_sT (PySem.W.sub_ne x_sBB x_sT), PySem.W.kit_ref x_hX x_tX x_sX (PySem.W.sub_ne x_sBB x_sX), PySem.W.kit_self, PySem.W.kit_ve x_kV, ⟨PySem.W.cls_some x_cls, x_ga, x_gg, x_exC, x_ea, x_en, x_et, x_em⟩⟩
  have F_check_plan := fun_mk (st := sCheck) l_check_plan c_check_plan k_check_plan
  have B_check_plan := F_check_plan.binds (ps := ["party", "plan"]) fun _ _ _ _ _ _ us hl => match us, hl with | [_, _], _ => rfl
  have G_check_plan := PySem.W.mg_of X G a_check_plan
  have F_is_round := fun_mk (st := sIsRound) l_is_round c_is_round k_is_round
  have B_is_round := F_is_round.binds (ps := ["party", "thing"]) fun _ _ _ _ _ _ us hl => match us, hl with | [_, _], _ => rfl
  have G_is_round := PySem.W.mg_of X G a_is_round
  have F_is_table := fun_mk (st := sIsTable) l_is_table c_is_table k_is_table
  have B_is_table := F_is_table.binds (ps := ["party", "table"]) fun _ _ _ _ _ _ us hl => match us, hl with | [_, _], _ => rfl
  have G_is_table := PySem.W.mg_of X G a_is_table
  have F_rises := fun_mk (st := sRises) l_rises c_rises k_rises
  have B_rises := F_rises.binds (ps := ["numbers"]) fun _ _ _ _ _ _ us hl => match us, hl with | [_], _ => rfl
  have G_rises := PySem.W.mg_of X G a_rises
  have F_pairs := fun_mk (st := sPairs) l_pairs c_pairs k_pairs
  have B_pairs := F_pairs.binds (ps := ["tables"]) fun _ _ _ _ _ _ us hl => match us, hl with | [_], _ => rfl
  have G_pairs := PySem.W.mg_of X G a_pairs
  have F_met := fun_mk (st := sMet) l_met c_met k_met
  have B_met := F_met.binds (ps := ["party", "plan"]) fun _ _ _ _ _ _ us hl => match us, hl with | [_, _], _ => rfl
  have G_met := PySem.W.mg_of X G a_met
  have F_unmet := fun_mk (st := sUnmet) l_unmet c_unmet k_unmet
  have B_unmet := F_unmet.binds (ps := ["party", "plan"]) fun _ _ _ _ _ _ us hl => match us, hl with | [_, _], _ => rfl
  have G_unmet := PySem.W.mg_of X G a_unmet
  have F_is_party := fun_mk (st := sIsParty) l_is_party c_is_party k_is_party
  have B_is_party := F_is_party.binds (ps := ["guests", "size"]) fun _ _ _ _ _ _ us hl => match us, hl with | [_, _], _ => rfl
  have G_is_party := PySem.W.mg_of X G a_is_party
  have F_L_taken := fun_mk (st := lTaken) l_L_taken c_L_taken k_L_taken
  have B_L_taken := F_L_taken.binds (ps := ["_law_row", "_law_many_here"]) fun _ _ _ _ _ _ us hl => match us, hl with | [_, _], _ => rfl
  have G_L_taken := PySem.W.mg_of X G a_L_taken
  have F_L_alike := fun_mk (st := lAlike) l_L_alike c_L_alike k_L_alike
  have B_L_alike := F_L_alike.binds (ps := ["_law_found", "_law_due_here"]) fun _ _ _ _ _ _ us hl => match us, hl with | [_, _], _ => rfl
  have G_L_alike := PySem.W.mg_of X G a_L_alike
  have F_L_few := fun_mk (st := lFew) l_L_few c_L_few k_L_few
  have B_L_few := F_L_few.binds (ps := ["_law_row"]) fun _ _ _ _ _ _ us hl => match us, hl with | [_], _ => rfl
  have G_L_few := PySem.W.mg_of X G a_L_few
  have F_L_many := fun_mk (st := lMany) l_L_many c_L_many k_L_many
  have B_L_many := F_L_many.binds (ps := ["_law_row"]) fun _ _ _ _ _ _ us hl => match us, hl with | [_], _ => rfl
  have G_L_many := PySem.W.mg_of X G a_L_many
  have F_L_mixed := fun_mk (st := lMixed) l_L_mixed c_L_mixed k_L_mixed
  have B_L_mixed := F_L_mixed.binds (ps := ["_law_row", "_law_some"]) fun _ _ _ _ _ _ us hl => match us, hl with | [_, _], _ => rfl
  have G_L_mixed := PySem.W.mg_of X G a_L_mixed
  have F_L_seated := fun_mk (st := lSeated) l_L_seated c_L_seated k_L_seated
  have B_L_seated := F_L_seated.binds (ps := ["_law_guests", "_law_size"]) fun _ _ _ _ _ _ us hl => match us, hl with | [_, _], _ => rfl
  have G_L_seated := PySem.W.mg_of X G a_L_seated
  have F_L_pairs := fun_mk (st := lPairs) l_L_pairs c_L_pairs k_L_pairs
  have B_L_pairs := F_L_pairs.binds (ps := ["_law_tables"]) fun _ _ _ _ _ _ us hl => match us, hl with | [_], _ => rfl
  have G_L_pairs := PySem.W.mg_of X G a_L_pairs
  have F_L_known := fun_mk (st := lKnown) l_L_known c_L_known k_L_known
  have B_L_known := F_L_known.binds (ps := ["_law_plan_here"]) fun _ _ _ _ _ _ us hl => match us, hl with | [_], _ => rfl
  have G_L_known := PySem.W.mg_of X G a_L_known
  have F_L_new := fun_mk (st := lNew) l_L_new c_L_new k_L_new
  have B_L_new := F_L_new.binds (ps := ["_law_tables", "_law_plan_here"]) fun _ _ _ _ _ _ us hl => match us, hl with | [_, _], _ => rfl
  have G_L_new := PySem.W.mg_of X G a_L_new
  have F_L_thin := fun_mk (st := lThin) l_L_thin c_L_thin k_L_thin
  have B_L_thin := F_L_thin.binds (ps := ["_law_row", "_law_tables"]) fun _ _ _ _ _ _ us hl => match us, hl with | [_, _], _ => rfl
  have G_L_thin := PySem.W.mg_of X G a_L_thin
  have F_L_plan := fun_mk (st := lPlan) l_L_plan c_L_plan k_L_plan
  have B_L_plan := F_L_plan.binds (ps := ["_law_row", "_law_guests", "_law_size", "_law_most"]) fun _ _ _ _ _ _ us hl => match us, hl with | [_, _, _, _], _ => rfl
  have G_L_plan := PySem.W.mg_of X G a_L_plan
  have F_L_is_round := fun_mk (st := lIsRound) l_L_is_round c_L_is_round k_L_is_round
  have B_L_is_round := F_L_is_round.binds (ps := ["_law_guests", "_law_size", "_law_tables"]) fun _ _ _ _ _ _ us hl => match us, hl with | [_, _, _], _ => rfl
  have G_L_is_round := PySem.W.mg_of X G a_L_is_round
  have F_L_spoilt := fun_mk (st := lSpoilt) l_L_spoilt c_L_spoilt k_L_spoilt
  have B_L_spoilt := F_L_spoilt.binds (ps := ["_law_row", "_law_guests", "_law_tables"]) fun _ _ _ _ _ _ us hl => match us, hl with | [_, _, _], _ => rfl
  have G_L_spoilt := PySem.W.mg_of X G a_L_spoilt
  have F_L_due := fun_mk (st := lDue) l_L_due c_L_due k_L_due
  have B_L_due := F_L_due.binds (ps := ["_law_guests", "_law_plan_here", "_law_want"]) fun _ _ _ _ _ _ us hl => match us, hl with | [_, _, _], _ => rfl
  have G_L_due := PySem.W.mg_of X G a_L_due
  have F_L_refused := fun_mk (st := lRefused) l_L_refused c_L_refused k_L_refused
  have B_L_refused := F_L_refused.binds (ps := ["_law_party", "_law_plan_here", "_law_way"]) fun _ _ _ _ _ _ us hl => match us, hl with | [_, _, _], _ => rfl
  have G_L_refused := PySem.W.mg_of X G a_L_refused
  have F_M_init := fun_mk (st := sInit) l_M_init c_M_init k_M_init
  have B_M_init := F_M_init.binds (ps := ["self", "guests", "size"]) fun _ _ _ _ _ _ us hl => match us, hl with | [_, _, _], _ => rfl
  have F_M_guests := fun_mk (st := sGuests) l_M_guests c_M_guests k_M_guests
  have B_M_guests := F_M_guests.binds (ps := ["self"]) fun _ _ _ _ _ _ us hl => match us, hl with | [_], _ => rfl
  have F_M_size := fun_mk (st := sSize) l_M_size c_M_size k_M_size
  have B_M_size := F_M_size.binds (ps := ["self"]) fun _ _ _ _ _ _ us hl => match us, hl with | [_], _ => rfl
  have F_M_tables := fun_mk (st := sTables) l_M_tables c_M_tables k_M_tables
  have B_M_tables := F_M_tables.binds (ps := ["self"]) fun _ _ _ _ _ _ us hl => match us, hl with | [_], _ => rfl
  have F_law := fun_mk (st := lLaw) l_law c_law k_law
  refine ⟨PySem.W.fnOf "law" "law" (defArgs lLaw) (defBody lLaw) (defScope lLaw) .none kV_law dc_law pm_law an_law cd_law ct_law, fun s v => .of_eq rfl, fun base _ _ => ?_⟩
  have GR := ok_isRound (P := l.prog) (w := w) (base := base) F_is_round B T (ok_isTable F_is_table B T F_rises B_rises G_rises F_M_guests B_M_guests ⟨a_M_guests, i_M_guests, k_M_guests⟩ F_M_size B_M_size ⟨a_M_size, i_M_size, k_M_size⟩) F_is_table B_is_table G_is_table F_rises B_rises G_rises F_M_tables B_M_tables ⟨a_M_tables, i_M_tables, k_M_tables⟩
  have GC := ok_checkOk (P := l.prog) (w := w) (base := base) F_check_plan B GR F_is_round B_is_round G_is_round
  have GM := ok_metOk (P := l.prog) (w := w) (base := base) F_met B T GC F_check_plan B_check_plan G_check_plan F_pairs B_pairs G_pairs F_M_guests B_M_guests ⟨a_M_guests, i_M_guests, k_M_guests⟩
  have GU := ok_unmetOk (P := l.prog) (w := w) (base := base) F_unmet B T GM F_met B_met G_met F_M_guests B_M_guests ⟨a_M_guests, i_M_guests, k_M_guests⟩
  have GCX := ok_checkBad (P := l.prog) (w := w) (base := base) F_check_plan B TB GR F_is_round B_is_round G_is_round
  have GMX := ok_metBad (P := l.prog) (w := w) (base := base) F_met GCX F_check_plan B_check_plan G_check_plan
  have GUX := ok_unmetBad (P := l.prog) (w := w) (base := base) F_unmet B T GMX F_met B_met G_met F_M_guests B_M_guests ⟨a_M_guests, i_M_guests, k_M_guests⟩
  have GMA : FnOk l.prog w K mg base (L2.CX l.prog w) 5 _ _ ["party", "plan"] (spAskX K C CB metM) := fnOk_or (fnOk_toX GM) GMX fun vs H Q E h => ask_or h
  have GUA : FnOk l.prog w K mg base (L2.CX l.prog w) 6 _ _ ["party", "plan"] (spAskX K C CB unmetM) := fnOk_or (fnOk_toX GU) GUX fun vs H Q E h => ask_or h
  have GRf := ok_refused (P := l.prog) (w := w) (base := base) F_L_refused B TB TK GMA F_met B_met G_met GUA F_unmet B_unmet G_unmet
  have GK := ok_lknown (P := l.prog) (w := w) (base := base) F_L_known B F_L_pairs B_L_pairs G_L_pairs
  have GD := ok_due2 (P := l.prog) (w := w) (base := base) F_L_due B GK F_L_known B_L_known G_L_known
  exact ok_law F_law B T ⟨mk, a_M_init, i_M_init, kc⟩ (ok_init F_M_init T F_is_party B_is_party G_is_party) B_M_init
    ⟨ok_taken F_L_taken B, k_L_taken, B_L_taken, G_L_taken⟩ ⟨ok_tree F_L_alike B B_L_alike G_L_alike 3, k_L_alike, B_L_alike, G_L_alike⟩ ⟨ok_many F_L_many B F_L_taken B_L_taken G_L_taken F_L_few B_L_few G_L_few, k_L_many, B_L_many, G_L_many⟩ ⟨ok_mixed F_L_mixed B F_L_taken B_L_taken G_L_taken, k_L_mixed, B_L_mixed, G_L_mixed⟩
    ⟨ok_seated F_L_seated B, k_L_seated, B_L_seated, G_L_seated⟩ ⟨ok_plan F_L_plan B F_L_taken B_L_taken G_L_taken F_L_mixed B_L_mixed G_L_mixed F_L_seated B_L_seated G_L_seated F_L_thin B_L_thin G_L_thin F_L_new B_L_new G_L_new F_L_pairs B_L_pairs G_L_pairs F_L_known B_L_known G_L_known, k_L_plan, B_L_plan, G_L_plan⟩
    ⟨ok_spoilt F_L_spoilt B F_L_taken B_L_taken G_L_taken, k_L_spoilt, B_L_spoilt, G_L_spoilt⟩ ⟨ok_lisRound F_L_is_round B, k_L_is_round, B_L_is_round, G_L_is_round⟩
    ⟨GD, k_L_due, B_L_due, G_L_due⟩ ⟨GRf, k_L_refused, B_L_refused, G_L_refused⟩ ⟨GM, k_met, B_met, G_met⟩ ⟨GU, k_unmet, B_unmet, G_unmet⟩
theorem walk {l : PySem.W.OpenLaw} {q : Program} {loose : List Str} {XP : (Str → Option Value) → Heap → Prop} {YP : World → Heap → Prop} {d : DefRec} {K : Params → PySem.W.Frag} (hn : l.most = some 63) (hdf : d.params.defaults = [])
    (hY : ∀ (w : World) (h : Heap), YP w h → (K w.params).In h)
    (F : ∀ (w : World) (mg : Str → Option Value) (fa : Addr) (h : Heap), (K w.params).In h → h.Ns mainGlobals mg → mg d.name = some (.ref fa) →
      ∃ fd : FuncData, (∀ (s : Shared) (u : Value), BindsTo s fd ⟨[u], []⟩ [("_law_script", u)]) ∧ ∀ base : Heap, (K w.params).In base → base.Ns mainGlobals mg → FnOk l.prog w (K w.params) mg base CX0 8 fa fd ["_law_script"] (spLaw (K w.params))) :
    PySem.W.WalkO q loose XP YP l.row.toRowW d [] (fun f vs => PySem.call f vs) :=
  L2.walk_of (n := 63) (k := 8) (x := "_law_script") (CX := fun _ => CX0) (sp := fun w => spLaw (K w.params)) hn (by decide) hdf ⟨rfl, by decide, by decide⟩ hY F (fun _ _ a ns hl _ hS => ⟨a, ns, rfl, hS, hl, fun _ => rfl⟩) fun _ _ _ _ _ z => z
end Nf

set_option Elab.async false
set_option maxRecDepth 100000
open PySem PySem.W PyProof.Rows in
set_option maxRecDepth 100000 in
set_option maxHeartbeats 0 in
theorem PySem.Challenge.cw_newfaces_k02_who_has_met_whom_holds : PySem.Challenge.rw_newfaces_k02_who_has_met_whom.Holds := by
  w_on; o_law; k_head; (case hw => w_witness2)
  k_fill
  refine Nf.walk (l := PySem.Challenge.rw_newfaces_k02_who_has_met_whom) rfl rfl (fun w h Y => PySem.W.kIn_of Y) ?F
  case F =>
    intro w mg fa h KX G hmg
    refine' Nf.all_mk KX G hmg ?aC ?a_check_plan ?l_check_plan ?c_check_plan ?k_check_plan ?a_is_round ?l_is_round ?c_is_round ?k_is_round ?a_is_table ?l_is_table ?c_is_table ?k_is_table ?a_rises ?l_rises ?c_rises ?k_rises ?a_pairs ?l_pairs ?c_pairs ?k_pairs ?a_met ?l_met ?c_met ?k_met ?a_unmet ?l_unmet ?c_unmet ?k_unmet ?a_is_party ?l_is_party ?c_is_party ?k_is_party ?a_L_taken ?l_L_taken ?c_L_taken ?k_L_taken ?a_L_alike ?l_L_alike ?c_L_alike ?k_L_alike ?a_L_few ?l_L_few ?c_L_few ?k_L_few ?a_L_many ?l_L_many ?c_L_many ?k_L_many ?a_L_mixed ?l_L_mixed ?c_L_mixed ?k_L_mixed ?a_L_seated ?l_L_seated ?c_L_seated ?k_L_seated ?a_L_pairs ?l_L_pairs ?c_L_pairs ?k_L_pairs ?a_L_known ?l_L_known ?c_L_known ?k_L_known ?a_L_new ?l_L_new ?c_L_new ?k_L_new ?a_L_thin ?l_L_thin ?c_L_thin ?k_L_thin ?a_L_plan ?l_L_plan ?c_L_plan ?k_L_plan ?a_L_is_round ?l_L_is_round ?c_L_is_round ?k_L_is_round ?a_L_spoilt ?l_L_spoilt ?c_L_spoilt ?k_L_spoilt ?a_L_due ?l_L_due ?c_L_due ?k_L_due ?a_L_refused ?l_L_refused ?c_L_refused ?k_L_refused ?a_M_init ?i_M_init ?l_M_init ?c_M_init ?k_M_init ?a_M_guests ?i_M_guests ?l_M_guests ?c_M_guests ?k_M_guests ?a_M_size ?i_M_size ?l_M_size ?c_M_size ?k_M_size ?a_M_tables ?i_M_tables ?l_M_tables ?c_M_tables ?k_M_tables ?a_law ?l_law ?c_law ?k_law ?pg ?hd ?po ?sa ?mk ?kc ?nM ?nS ?zFG ?zMO ?zSS ?zLS ?b_len ?b_all ?b_zip ?b_set ?b_sorted ?b_enumerate ?b_list ?b_tuple ?b_range ?b_isinstance ?b_min ?b_max ?b_int ?b_bool ?b_str ?x_gB ?x_gE ?x_gP ?x_gT ?x_gX ?x_cls ?x_sa ?x_ga ?x_gg ?x_no ?x_iC ?x_tC ?x_kC ?x_exC ?x_veC ?x_tyC ?x_hdC ?x_sBB ?x_mro ?x_clsE ?x_fiE ?x_opq ?x_gS ?x_top ?x_f1 ?x_f2 ?x_f3 ?x_f4 ?x_f5 ?x_f6 ?x_gV ?x_pEx ?x_phd ?x_pty ?x_sBE ?x_hP ?x_tP ?x_sP ?x_hT ?x_tT ?x_sT ?x_hX ?x_tX ?x_sX ?x_kV ?x_ea ?x_en ?x_et ?x_em
    (case aC => k_is)
    (case a_check_plan => k_is)
    (case l_check_plan => k_is)
    (case c_check_plan => k_is)
    (case k_check_plan => k_is)
    (case a_is_round => k_is)
    (case l_is_round => k_is)
    (case c_is_round => k_is)
    (case k_is_round => k_is)
    (case a_is_table => k_is)
    (case l_is_table => k_is)
    (case c_is_table => k_is)
    (case k_is_table => k_is)
    (case a_rises => k_is)
    (case l_rises => k_is)
    (case c_rises => k_is)
    (case k_rises => k_is)
    (case a_pairs => k_is)
    (case l_pairs => k_is)
    (case c_pairs => k_is)
    (case k_pairs => k_is)
    (case a_met => k_is)
    (case l_met => k_is)
    (case c_met => k_is)
    (case k_met => k_is)
    (case a_unmet => k_is)
    (case l_unmet => k_is)
    (case c_unmet => k_is)
    (case k_unmet => k_is)
    (case a_is_party => k_is)
    (case l_is_party => k_is)
    (case c_is_party => k_is)
    (case k_is_party => k_is)
    (case a_L_taken => k_is)
    (case l_L_taken => k_is)
    (case c_L_taken => k_is)
    (case k_L_taken => k_is)
    (case a_L_alike => k_is)
    (case l_L_alike => k_is)
    (case c_L_alike => k_is)
    (case k_L_alike => k_is)
    (case a_L_few => k_is)
    (case l_L_few => k_is)
    (case c_L_few => k_is)
    (case k_L_few => k_is)
    (case a_L_many => k_is)
    (case l_L_many => k_is)
    (case c_L_many => k_is)
    (case k_L_many => k_is)
    (case a_L_mixed => k_is)
    (case l_L_mixed => k_is)
    (case c_L_mixed => k_is)
    (case k_L_mixed => k_is)
    (case a_L_seated => k_is)
    (case l_L_seated => k_is)
    (case c_L_seated => k_is)
    (case k_L_seated => k_is)
    (case a_L_pairs => k_is)
    (case l_L_pairs => k_is)
    (case c_L_pairs => k_is)
    (case k_L_pairs => k_is)
    (case a_L_known => k_is)
    (case l_L_known => k_is)
    (case c_L_known => k_is)
    (case k_L_known => k_is)
    (case a_L_new => k_is)
    (case l_L_new => k_is)
    (case c_L_new => k_is)
    (case k_L_new => k_is)
    (case a_L_thin => k_is)
    (case l_L_thin => k_is)
    (case c_L_thin => k_is)
    (case k_L_thin => k_is)
    (case a_L_plan => k_is)
    (case l_L_plan => k_is)
    (case c_L_plan => k_is)
    (case k_L_plan => k_is)
    (case a_L_is_round => k_is)
    (case l_L_is_round => k_is)
    (case c_L_is_round => k_is)
    (case k_L_is_round => k_is)
    (case a_L_spoilt => k_is)
    (case l_L_spoilt => k_is)
    (case c_L_spoilt => k_is)
    (case k_L_spoilt => k_is)
    (case a_L_due => k_is)
    (case l_L_due => k_is)
    (case c_L_due => k_is)
    (case k_L_due => k_is)
    (case a_L_refused => k_is)
    (case l_L_refused => k_is)
    (case c_L_refused => k_is)
    (case k_L_refused => k_is)
    (case a_M_init => k_is)
    (case i_M_init => k_is)
    (case l_M_init => k_is)
    (case c_M_init => k_is)
    (case k_M_init => k_is)
    (case a_M_guests => k_is)
    (case i_M_guests => k_is)
    (case l_M_guests => k_is)
    (case c_M_guests => k_is)
    (case k_M_guests => k_is)
    (case a_M_size => k_is)
    (case i_M_size => k_is)
    (case l_M_size => k_is)
    (case c_M_size => k_is)
    (case k_M_size => k_is)
    (case a_M_tables => k_is)
    (case i_M_tables => k_is)
    (case l_M_tables => k_is)
    (case c_M_tables => k_is)
    (case k_M_tables => k_is)
    (case a_law => k_is)
    (case l_law => k_is)
    (case c_law => k_is)
    (case k_law => k_is)
    (case pg => k_is)
    (case hd => k_is)
    (case po => k_is)
    (case sa => k_is)
    (case mk => k_is)
    (case kc => k_is)
    (case nM => k_is)
    (case nS => k_is)
    (case zFG => exact ⟨_, by k_is⟩)
    (case zMO => exact ⟨_, by k_is⟩)
    (case zSS => exact ⟨_, by k_is⟩)
    (case zLS => exact ⟨_, by k_is⟩)
    (case b_len => k_is)
    (case b_all => k_is)
    (case b_zip => k_is)
    (case b_set => k_is)
    (case b_sorted => k_is)
    (case b_enumerate => k_is)
    (case b_list => k_is)
    (case b_tuple => k_is)
    (case b_range => k_is)
    (case b_isinstance => k_is)
    (case b_min => k_is)
    (case b_max => k_is)
    (case b_int => k_is)
    (case b_bool => k_is)
    (case b_str => k_is)
    (case x_gB => k_is)
    (case x_gE => k_is)
    (case x_gP => k_is)
    (case x_gT => k_is)
    (case x_gX => k_is)
    (case x_cls => k_is)
    (case x_sa => k_is)
    (case x_ga => k_is)
    (case x_gg => k_is)
    (case x_no => k_is)
    (case x_iC => k_is)
    (case x_tC => k_is)
    (case x_kC => k_is)
    (case x_exC => k_is)
    (case x_veC => k_is)
    (case x_tyC => k_is)
    (case x_hdC => k_is)
    (case x_sBB => first | rfl | k_is)
    (case x_mro => k_is)
    (case x_clsE => k_is)
    (case x_fiE => k_is)
    (case x_opq => first | k_is | rfl)
    (case x_gS => k_is)
    (case x_top => first | rfl | decide +kernel)
    (case x_f1 => k_is)
    (case x_f2 => k_is)
    (case x_f3 => k_is)
    (case x_f4 => k_is)
    (case x_f5 => first | rfl | decide +kernel | k_is)
    (case x_f6 => first | rfl | decide +kernel)
    (case x_gV => k_is)
    (case x_pEx => k_is)
    (case x_phd => k_is)
    (case x_pty => k_is)
    (case x_sBE => k_is)
    (case x_hP => k_is)
    (case x_tP => k_is)
    (case x_sP => k_is)
    (case x_hT => k_is)
    (case x_tT => k_is)
    (case x_sT => k_is)
    (case x_hX => k_is)
    (case x_tX => k_is)
    (case x_sX => k_is)
    (case x_kV => k_is)
    (case x_ea => k_is)
    (case x_en => k_is)
    (case x_et => k_is)
    (case x_em => k_is)

