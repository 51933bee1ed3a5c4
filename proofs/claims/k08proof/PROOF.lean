import PyProof.Rows.All
import Wide.All
import OpenK.AllK
import Wide.FinOn
import HandS.ForMost
import HandS.Sort
import HandS.SortInts
import HandS.Conv
import HandS.Zip
import HandS.IsInst
import HandS.Deep
import HandS.Walk
import KE.SortData
import KE.GoesMore
import KE.GoesEnum
import HandS.TupAny
import HandS.Flow
import KE.KDictCopyH
import HandS.RaiseMore
import HandS.TryOnly
import HandS.FStr
import HandS.WordsExc
import HandS.ExcIs
import HandS.Exc
import HandS.ForSpec
import HandS.CallSlots
import HandS.TupLen
import HandS.Iter
import HandS.More
import PySem.Challenge.RW_newfaces_k08_whole_hosts_who_stay
set_option autoImplicit false
/-! Rounds of tables: the mathematics. -/
namespace Nf
abbrev Tbl := List Int
abbrev Rnd := List Tbl

/-! ### lists -/
theorem dropCons {α : Type} {l : List α} {i : Nat} {x : α} (h : l[i]? = some x) : l.drop i = x :: l.drop (i + 1) := by
  obtain ⟨hi, e⟩ := List.getElem?_eq_some_iff.mp h
  rw [List.drop_eq_getElem_cons hi, e]
theorem takeSucc {α : Type} {l : List α} {i : Nat} {x : α} (h : l[i]? = some x) : l.take (i + 1) = l.take i ++ [x] := by
  rw [List.take_add_one, h]
  rfl

/-! ### pairs -/
def pairsT : Tbl → List (Int × Int)
  | [] => []
  | a :: t => t.map (fun b => (a, b)) ++ pairsT t
def pairsR (r : Rnd) : List (Int × Int) := r.flatMap pairsT
theorem pairsT_len : ∀ t : Tbl, (pairsT t).length ≤ t.length * t.length
  | [] => Nat.le_refl _
  | a :: t => by
    have := pairsT_len t
    simp only [pairsT, List.length_append, List.length_map, List.length_cons]
    have e : (t.length + 1) * (t.length + 1) = t.length * t.length + 2 * t.length + 1 := by
      simp only [Nat.add_mul, Nat.mul_add]
      omega
    omega
theorem mem_pairsT : ∀ {t : Tbl} {p : Int × Int}, p ∈ pairsT t → p.1 ∈ t ∧ p.2 ∈ t
  | [], _, h => by simp [pairsT] at h
  | a :: t, p, h => by
    simp only [pairsT, List.mem_append, List.mem_map] at h
    rcases h with ⟨b, hb, rfl⟩ | h
    · exact ⟨by simp, by simp [hb]⟩
    · exact ⟨List.mem_cons_of_mem _ (mem_pairsT h).1, List.mem_cons_of_mem _ (mem_pairsT h).2⟩

/-! ### order of tables, of pairs -/
def leI (a b : Int) : Bool := decide (a ≤ b)
def leT (a b : Tbl) : Bool := decide (a ≤ b)
theorem leI_trans (a b c : Int) (h : leI a b = true) (h' : leI b c = true) : leI a c = true := by
  simp only [leI, decide_eq_true_eq] at *
  omega
theorem leI_total (a b : Int) : (leI a b || leI b a) = true := by
  simp only [leI, Bool.or_eq_true, decide_eq_true_eq]
  omega
theorem leT_trans (a b c : Tbl) (h : leT a b = true) (h' : leT b c = true) : leT a c = true := by
  simp only [leT, decide_eq_true_eq] at *
  exact List.le_trans h h'
theorem leT_total (a b : Tbl) : (leT a b || leT b a) = true := by
  simp only [leT, Bool.or_eq_true, decide_eq_true_eq]
  exact List.le_total a b
def sortI (t : Tbl) : Tbl := t.mergeSort leI
def sortT (r : Rnd) : Rnd := r.mergeSort leT
theorem sortI_perm (t : Tbl) : (sortI t).Perm t := List.mergeSort_perm _ _
theorem sortT_perm (r : Rnd) : (sortT r).Perm r := List.mergeSort_perm _ _
theorem sortI_up (t : Tbl) : (sortI t).Pairwise (· ≤ ·) := (List.pairwise_mergeSort leI_trans leI_total t).imp fun h => of_decide_eq_true h
theorem sortT_up (r : Rnd) : (sortT r).Pairwise (· ≤ ·) := (List.pairwise_mergeSort leT_trans leT_total r).imp fun h => of_decide_eq_true h
theorem sortI_iff (t : Tbl) : t = sortI t ↔ t.Pairwise (· ≤ ·) := by
  constructor
  · intro h
    rw [h]
    exact sortI_up t
  · intro h
    exact (List.mergeSort_of_pairwise (h.imp fun q => decide_eq_true q)).symm
theorem sortT_iff (r : Rnd) : r = sortT r ↔ r.Pairwise (· ≤ ·) := by
  constructor
  · intro h
    rw [h]
    exact sortT_up r
  · intro h
    exact (List.mergeSort_of_pairwise (h.imp fun q => decide_eq_true q)).symm

/-! ### rounds -/
structure IsRound (g s : Int) (r : Rnd) : Prop where
  sz : ∀ t ∈ r, 1 ≤ t.length ∧ (t.length : Int) ≤ s
  up : ∀ t ∈ r, t.Pairwise (· ≤ ·)
  lo : ∀ x ∈ r.flatten, 0 ≤ x ∧ x < g
  nd : r.flatten.Nodup
  ct : (r.length : Int) ≤ g / s
  ord : r.Pairwise (· ≤ ·)

def rises (t : Tbl) : Bool := (t.zip (t.drop 1)).all fun p => decide (p.1 < p.2)
theorem rises_iff : ∀ t : Tbl, rises t = true ↔ t.Pairwise (· < ·)
  | [] => by simp [rises]
  | [a] => by simp [rises]
  | a :: b :: t => by
    have ih := rises_iff (b :: t)
    have e : rises (a :: b :: t) = (decide (a < b) && rises (b :: t)) := by
      simp [rises]
    rw [e, Bool.and_eq_true, ih, decide_eq_true_eq, List.pairwise_cons (a := a)]
    constructor
    · rintro ⟨h, q⟩
      refine ⟨fun x hx => ?_, q⟩
      rcases List.mem_cons.mp hx with rfl | hx
      · exact h
      · have := (List.pairwise_cons.mp q).1 x hx
        omega
    · rintro ⟨h, q⟩
      exact ⟨h b (by simp), q⟩

theorem up_strict {t : Tbl} (h : t.Pairwise (· ≤ ·)) (n : t.Nodup) : t.Pairwise (· < ·) :=
  List.Pairwise.imp₂ (fun a b (h1 : a ≤ b) (h2 : a ≠ b) => by omega) h n
theorem strict_up {t : Tbl} (h : t.Pairwise (· < ·)) : t.Pairwise (· ≤ ·) := h.imp fun q => by omega

/-- the program's own test of a table -/
structure IsTable (g s : Int) (t : Tbl) : Prop where
  sz : 1 ≤ t.length ∧ (t.length : Int) ≤ s
  up : t.Pairwise (· < ·)
  lo : 0 ≤ t.headD 0
  hi : t.getLastD 0 < g
theorem last_top : ∀ {t : Tbl}, t.Pairwise (· ≤ ·) → ∀ x ∈ t, x ≤ t.getLastD 0
  | [], _, x, h => by simp at h
  | [a], _, x, h => by
    have e : x = a := by simpa using h
    subst e
    simp
  | a :: b :: t, h, x, hx => by
    have ih := last_top (t := b :: t) (List.pairwise_cons.mp h).2
    have e : (a :: b :: t).getLastD 0 = (b :: t).getLastD 0 := by simp [List.getLastD]
    rw [e]
    rcases List.mem_cons.mp hx with rfl | hx
    · have h1 := (List.pairwise_cons.mp h).1 b (by simp)
      have h2 := ih b (by simp)
      omega
    · exact ih x hx
theorem head_low : ∀ {t : Tbl}, t.Pairwise (· ≤ ·) → ∀ x ∈ t, t.headD 0 ≤ x
  | [], _, x, h => by simp at h
  | a :: t, h, x, hx => by
    show a ≤ x
    rcases List.mem_cons.mp hx with rfl | hx
    · exact Int.le_refl _
    · exact (List.pairwise_cons.mp h).1 x hx
theorem head_mem : ∀ {t : Tbl}, 1 ≤ t.length → t.headD 0 ∈ t
  | [], h => by simp at h
  | a :: t, _ => by simp
theorem last_mem : ∀ {t : Tbl}, 1 ≤ t.length → t.getLastD 0 ∈ t
  | [], h => by simp at h
  | [a], _ => by simp
  | a :: b :: t, _ => by
    have := last_mem (t := b :: t) (by simp)
    have e : (a :: b :: t).getLastD 0 = (b :: t).getLastD 0 := by simp [List.getLastD]
    rw [e]
    exact List.mem_cons_of_mem _ this
theorem IsTable.range {g s : Int} {t : Tbl} (h : IsTable g s t) : ∀ x ∈ t, 0 ≤ x ∧ x < g := fun x hx =>
  ⟨Int.le_trans h.lo (head_low (strict_up h.up) x hx), Int.lt_of_le_of_lt (last_top (strict_up h.up) x hx) h.hi⟩

theorem le_of_head {a b : Tbl} (ha : 1 ≤ a.length) (hb : 1 ≤ b.length) (h : a.headD 0 < b.headD 0) : a ≤ b := by
  cases a with
  | nil => simp at ha
  | cons x a =>
    cases b with
    | nil => simp at hb
    | cons y b => exact List.cons_le_cons_iff.mpr (.inl h)
theorem head_of_le {a b : Tbl} (ha : 1 ≤ a.length) (hb : 1 ≤ b.length) (h : a ≤ b) (d : ∀ x ∈ a, x ∉ b) : a.headD 0 < b.headD 0 := by
  cases a with
  | nil => simp at ha
  | cons x a =>
    cases b with
    | nil => simp at hb
    | cons y b =>
      rcases List.cons_le_cons_iff.mp h with h | ⟨rfl, _⟩
      · exact h
      · exact absurd List.mem_cons_self (d x List.mem_cons_self)

theorem flat_disjoint {r : Rnd} (h : r.flatten.Nodup) : r.Pairwise (fun a b => ∀ x ∈ a, x ∉ b) :=
  (List.pairwise_flatten.mp h).2.imp fun q x hx hy => q x hx x hy rfl
theorem flat_each {r : Rnd} (h : r.flatten.Nodup) : ∀ t ∈ r, t.Nodup := (List.pairwise_flatten.mp h).1

theorem pw_mem {α : Type} {R S : α → α → Prop} {l : List α} (h : l.Pairwise R) (q : ∀ a ∈ l, ∀ b ∈ l, R a b → S a b) : l.Pairwise S := by
  induction l with
  | nil => exact .nil
  | cons x l ih =>
    obtain ⟨h1, h2⟩ := List.pairwise_cons.mp h
    exact List.pairwise_cons.mpr ⟨fun y hy => q x (by simp) y (by simp [hy]) (h1 y hy), ih h2 fun a ha b hb => q a (by simp [ha]) b (by simp [hb])⟩

/-- the program's own test of a round -/
theorem isRound_iff {g s : Int} {r : Rnd} : IsRound g s r ↔ ((r.length : Int) ≤ g / s ∧ (∀ t ∈ r, IsTable g s t) ∧ r.flatten.Nodup ∧ (r.map (·.headD 0)).Pairwise (· < ·)) := by
  constructor
  · intro h
    refine ⟨h.ct, fun t ht => ?_, h.nd, ?_⟩
    · have l1 := h.sz t ht
      have m : ∀ x ∈ t, x ∈ r.flatten := fun x hx => List.mem_flatten.mpr ⟨t, ht, hx⟩
      exact ⟨l1, up_strict (h.up t ht) (flat_each h.nd t ht), (h.lo _ (m _ (head_mem l1.1))).1, (h.lo _ (m _ (last_mem l1.1))).2⟩
    · rw [List.pairwise_map]
      exact pw_mem (List.Pairwise.imp₂ (fun a b (p : a ≤ b) (q : ∀ x ∈ a, x ∉ b) => And.intro p q) h.ord (flat_disjoint h.nd)) fun a ha b hb q =>
        head_of_le (h.sz a ha).1 (h.sz b hb).1 q.1 q.2
  · rintro ⟨h1, h2, h3, h4⟩
    refine ⟨fun t ht => (h2 t ht).sz, fun t ht => strict_up (h2 t ht).up, fun x hx => ?_, h3, h1, ?_⟩
    · obtain ⟨t, ht, hxt⟩ := List.mem_flatten.mp hx
      exact (h2 t ht).range x hxt
    · rw [List.pairwise_map] at h4
      exact pw_mem h4 fun a ha b hb q => le_of_head (h2 a ha).sz.1 (h2 b hb).sz.1 q

theorem sum_le {r : Rnd} {s : Int} (h : ∀ t ∈ r, (t.length : Int) ≤ s) : (r.flatten.length : Int) ≤ r.length * s := by
  induction r with
  | nil => simp
  | cons t r ih =>
    have h1 := h t (by simp)
    have h2 := ih fun t ht => h t (by simp [ht])
    simp only [List.flatten_cons, List.length_append, List.length_cons]
    have e : ((r.length + 1 : Nat) : Int) * s = (r.length : Int) * s + s := by
      rw [Int.natCast_add, Int.add_mul]
      simp
    rw [e]
    omega

/-! ### what is wrong with a plan -/
inductive Verd where
  | good
  | rnd (k : Nat)
  | twice (a b : Int) (j k : Nat)
abbrev Known := Int → Int → Option Nat
open Classical in
noncomputable def kadd (kn : Known) (r : Rnd) (k : Nat) : Known := fun a b => if (a, b) ∈ pairsR r then some k else kn a b
def k0 : Known := fun _ _ => none
inductive IsV (g s : Int) : List Rnd → Known → Nat → Verd → Prop where
  | nil {kn : Known} {k : Nat} : IsV g s [] kn k .good
  | bad {r : Rnd} {rs : List Rnd} {kn : Known} {k : Nat} : ¬ IsRound g s r → IsV g s (r :: rs) kn k (.rnd k)
  | twice {r : Rnd} {rs : List Rnd} {kn : Known} {k j : Nat} {a b : Int} : IsRound g s r → (a, b) ∈ pairsR r → kn a b = some j →
      (∀ c d, (c, d) ∈ pairsR r → kn c d ≠ none → a < c ∨ (a = c ∧ b ≤ d)) → IsV g s (r :: rs) kn k (.twice a b j k)
  | next {r : Rnd} {rs : List Rnd} {kn : Known} {k : Nat} {v : Verd} : IsRound g s r → (∀ c d, (c, d) ∈ pairsR r → kn c d = none) →
      IsV g s rs (kadd kn r k) (k + 1) v → IsV g s (r :: rs) kn k v
theorem IsV.unique {g s : Int} : ∀ {rs : List Rnd} {kn : Known} {k : Nat} {v v' : Verd}, IsV g s rs kn k v → IsV g s rs kn k v' → v = v'
  | _, _, _, _, _, .nil, .nil => rfl
  | _, _, _, _, _, .bad _, .bad _ => rfl
  | _, _, _, _, _, .bad h, .twice h' _ _ _ => absurd h' h
  | _, _, _, _, _, .bad h, .next h' _ _ => absurd h' h
  | _, _, _, _, _, .twice h' _ _ _, .bad h => absurd h' h
  | _, _, _, _, _, .next h' _ _, .bad h => absurd h' h
  | _, _, _, _, _, .twice (a := a) (b := b) _ m e l, .twice (a := a') (b := b') _ m' e' l' => by
    have q := l _ _ m' (by rw [e']; exact Option.some_ne_none _)
    have q' := l' _ _ m (by rw [e]; exact Option.some_ne_none _)
    have ea : a = a' := by omega
    subst ea
    have eb : b = b' := by omega
    subst eb
    rw [e] at e'
    cases e'
    rfl
  | _, _, _, _, _, .twice _ m e _, .next _ n _ => by
    rw [n _ _ m] at e
    cases e
  | _, _, _, _, _, .next _ n _, .twice _ m e _ => by
    rw [n _ _ m] at e
    cases e
  | _, _, _, _, _, .next _ _ q, .next _ _ q' => q.unique q'

/-- no two sit together twice -/
structure GoodP (g s : Int) (plan : List Rnd) : Prop where
  rd : ∀ r ∈ plan, IsRound g s r
  np : plan.Pairwise (fun r r' => ∀ p ∈ pairsR r, p ∉ pairsR r')
theorem GoodP.nil {g s : Int} : GoodP g s [] := ⟨fun _ h => by simp at h, .nil⟩
theorem GoodP.snoc {g s : Int} {plan : List Rnd} {r : Rnd} (h : GoodP g s plan) (hr : IsRound g s r) (hn : ∀ p ∈ pairsR r, ∀ q ∈ plan, p ∉ pairsR q) : GoodP g s (plan ++ [r]) := by
  refine ⟨fun q hq => ?_, ?_⟩
  · rcases List.mem_append.mp hq with hq | hq
    · exact h.rd q hq
    · rw [List.mem_singleton.mp hq]
      exact hr
  · refine List.pairwise_append.mpr ⟨h.np, by simp, fun a ha b hb p hp hq => ?_⟩
    rw [List.mem_singleton.mp hb] at hq
    exact hn p hq a ha hp
theorem GoodP.isV {g s : Int} : ∀ {plan : List Rnd} {kn : Known} {k : Nat}, GoodP g s plan → (∀ r ∈ plan, ∀ p ∈ pairsR r, kn p.1 p.2 = none) → IsV g s plan kn k .good
  | [], _, _, _, _ => .nil
  | r :: rs, kn, k, h, e => by
    obtain ⟨h1, h2⟩ := List.pairwise_cons.mp h.np
    refine .next (h.rd r (by simp)) (fun c d m => e r (by simp) (c, d) m) (GoodP.isV ⟨fun q hq => h.rd q (by simp [hq]), h2⟩ fun q hq p hp => ?_)
    unfold kadd
    rw [if_neg fun z => h1 q hq _ z hp]
    exact e q (by simp [hq]) p hp

/-! ### rounds that are drawn -/
theorem chunk_flat (l : List Int) (s : Nat) : ∀ n : Nat, ((List.range n).map fun i => (l.drop (i * s)).take s).flatten = l.take (n * s)
  | 0 => by simp
  | n + 1 => by
    rw [List.range_succ, List.map_append, List.flatten_append, chunk_flat l s n]
    simp only [List.map_cons, List.map_nil, List.flatten_cons, List.flatten_nil, List.append_nil]
    rw [Nat.add_mul, Nat.one_mul, List.take_add]
theorem map_perm_flat {α : Type} (f g : α → List Int) : ∀ l : List α, (∀ x ∈ l, (f x).Perm (g x)) → ((l.map f).flatten).Perm ((l.map g).flatten)
  | [], _ => .refl _
  | x :: l, h => by
    simp only [List.map_cons, List.flatten_cons]
    exact (h x (by simp)).append (map_perm_flat f g l fun y hy => h y (by simp [hy]))
def rangeI (g : Nat) : List Int := (List.range g).map fun i : Nat => (i : Int)
theorem mem_rangeI {g : Nat} {x : Int} : x ∈ rangeI g ↔ 0 ≤ x ∧ x < g := by
  unfold rangeI
  constructor
  · intro h
    obtain ⟨i, hi, rfl⟩ := List.mem_map.mp h
    have := List.mem_range.mp hi
    omega
  · rintro ⟨h1, h2⟩
    exact List.mem_map.mpr ⟨x.toNat, List.mem_range.mpr (by omega), by omega⟩
theorem rangeI_nodup (g : Nat) : (rangeI g).Nodup := by
  unfold rangeI
  unfold List.Nodup
  rw [List.pairwise_map]
  exact (List.nodup_range (n := g)).imp fun h e => h (by omega)
theorem rangeI_len (g : Nat) : (rangeI g).length = g := by simp [rangeI]

/-- a round by its facts, its tables sorted -/
theorem isRound_sort {g s : Int} {r : Rnd} (sz : ∀ t ∈ r, 1 ≤ t.length ∧ (t.length : Int) ≤ s) (up : ∀ t ∈ r, t.Pairwise (· ≤ ·)) (lo : ∀ x ∈ r.flatten, 0 ≤ x ∧ x < g) (nd : r.flatten.Nodup) (ct : (r.length : Int) ≤ g / s) : IsRound g s (sortT r) := by
  have p := sortT_perm r
  refine ⟨fun t ht => sz t (p.mem_iff.mp ht), fun t ht => up t (p.mem_iff.mp ht), fun x hx => lo x (p.flatten.mem_iff.mp hx), p.flatten.nodup_iff.mpr nd, ?_, sortT_up r⟩
  rw [p.length_eq]
  exact ct

/-- seated: chunks, each sorted, the tables sorted -/
def seatedM (l : List Int) (s n : Nat) : Rnd := sortT ((List.range n).map fun i => sortI ((l.drop (i * s)).take s))
theorem seated_len (l : List Int) (s n : Nat) : (seatedM l s n).length = n := by
  unfold seatedM
  rw [(sortT_perm _).length_eq]
  simp
theorem seated_flat {l : List Int} {s n : Nat} (hl : l.length = n * s) : (seatedM l s n).flatten.Perm l := by
  refine ((sortT_perm _).flatten).trans ((map_perm_flat _ (fun i => (l.drop (i * s)).take s) _ fun i _ => sortI_perm _).trans ?_)
  rw [chunk_flat, List.take_of_length_le (by omega)]
theorem seated_each {l : List Int} {s n : Nat} (hl : l.length = n * s) : ∀ t ∈ seatedM l s n, t.length = s ∧ t.Pairwise (· ≤ ·) := fun t ht => by
  obtain ⟨i, hi, rfl⟩ := List.mem_map.mp ((sortT_perm _).mem_iff.mp ht)
  refine ⟨?_, sortI_up _⟩
  have hi := List.mem_range.mp hi
  rw [(sortI_perm _).length_eq, List.length_take, List.length_drop, hl]
  have e : (i + 1) * s ≤ n * s := Nat.mul_le_mul_right s hi
  rw [Nat.add_mul, Nat.one_mul] at e
  omega
theorem seated_round {l : List Int} {s n : Nat} (hp : l.Perm (rangeI (n * s))) (hs : 1 ≤ s) : IsRound ((n * s : Nat) : Int) s (seatedM l s n) := by
  have hl : l.length = n * s := by rw [hp.length_eq, rangeI_len]
  have fl := (seated_flat (s := s) hl).trans hp
  refine ⟨fun t ht => ?_, fun t ht => (seated_each hl t ht).2, fun x hx => ?_, fl.nodup_iff.mpr (rangeI_nodup _), ?_, sortT_up _⟩
  · rw [(seated_each hl t ht).1]
    exact ⟨hs, Int.le_refl _⟩
  · exact mem_rangeI.mp (fl.mem_iff.mp hx)
  · rw [seated_len]
    have : ((n * s : Nat) : Int) / (s : Int) = n := by
      rw [Int.natCast_mul]
      exact Int.mul_ediv_cancel _ (by omega)
    omega

/-- some of a round's guests are away -/
structure Thin (r f : Rnd) (i : Nat) : Prop where
  fl : f.flatten.Sublist (r.take i).flatten
  ct : f.length ≤ i
  each : ∀ t ∈ f, t ≠ [] ∧ ∃ u ∈ r, t.Sublist u
theorem Thin.zero (r : Rnd) : Thin r [] 0 := ⟨by simp, Nat.le_refl _, fun _ h => by simp at h⟩
theorem Thin.skip {r f : Rnd} {i : Nat} (h : Thin r f i) : Thin r f (i + 1) := by
  refine ⟨h.fl.trans ?_, Nat.le_succ_of_le h.ct, h.each⟩
  rw [List.take_add, List.flatten_append]
  exact List.sublist_append_left _ _
theorem Thin.add {r f : Rnd} {i : Nat} {t u : Tbl} (h : Thin r f i) (hu : r[i]? = some u) (ht : t.Sublist u) (hn : t ≠ []) : Thin r (f ++ [t]) (i + 1) := by
  refine ⟨?_, ?_, fun x hx => ?_⟩
  · rw [takeSucc hu, List.flatten_append, List.flatten_append]
    exact h.fl.append (by simpa using ht)
  · rw [List.length_append]
    exact Nat.succ_le_succ h.ct
  · rcases List.mem_append.mp hx with hx | hx
    · exact h.each x hx
    · rw [List.mem_singleton.mp hx]
      exact ⟨hn, u, List.mem_of_getElem? hu, ht⟩
theorem Thin.round {g s : Int} {r f : Rnd} (h : Thin r f r.length) (hr : IsRound g s r) : IsRound g s (sortT f) := by
  have fl : f.flatten.Sublist r.flatten := by
    have := h.fl
    rwa [List.take_of_length_le (Nat.le_refl _)] at this
  refine isRound_sort (fun t ht => ?_) (fun t ht => ?_) (fun x hx => hr.lo x (fl.subset hx)) (hr.nd.sublist fl) ?_
  · obtain ⟨hn, u, hu, hs⟩ := h.each t ht
    refine ⟨List.length_pos_iff.mpr hn, ?_⟩
    have := hs.length_le
    have := (hr.sz u hu).2
    omega
  · obtain ⟨hn, u, hu, hs⟩ := h.each t ht
    exact (hr.up u hu).sublist hs
  · have := h.ct
    have := hr.ct
    omega
end Nf
namespace Nf
/-! ### pairs in order -/
def leP (p q : Int × Int) : Bool := decide (p.1 < q.1 ∨ (p.1 = q.1 ∧ p.2 ≤ q.2))
def sortP (ps : List (Int × Int)) : List (Int × Int) := ps.mergeSort leP
theorem leP_trans (a b c : Int × Int) (h : leP a b = true) (h' : leP b c = true) : leP a c = true := by
  simp only [leP, decide_eq_true_eq] at *
  omega
theorem leP_total (a b : Int × Int) : (leP a b || leP b a) = true := by
  simp only [leP, Bool.or_eq_true, decide_eq_true_eq]
  omega
theorem sortP_perm (ps : List (Int × Int)) : (sortP ps).Perm ps := List.mergeSort_perm _ _
theorem sortP_up (ps : List (Int × Int)) : (sortP ps).Pairwise (fun p q => p.1 < q.1 ∨ (p.1 = q.1 ∧ p.2 ≤ q.2)) := (List.pairwise_mergeSort leP_trans leP_total ps).imp fun h => of_decide_eq_true h
theorem pairsT_drop {t : Tbl} {j : Nat} {a : Int} (h : t[j]? = some a) : pairsT (t.drop j) = (t.drop (j + 1)).map (fun b => (a, b)) ++ pairsT (t.drop (j + 1)) := by
  rw [dropCons h]
  rfl
theorem pairsR_drop {r : Rnd} {i : Nat} {t : Tbl} (h : r[i]? = some t) : pairsR (r.drop i) = pairsT t ++ pairsR (r.drop (i + 1)) := by
  rw [dropCons h]
  rfl
end Nf
namespace Nf
theorem pairsR_len : ∀ r : Rnd, (pairsR r).length ≤ r.flatten.length * r.flatten.length
  | [] => Nat.le_refl _
  | t :: r => by
    have h1 := pairsR_len r
    have h2 := pairsT_len t
    show (pairsT t ++ pairsR r).length ≤ _
    rw [List.length_append, List.flatten_cons, List.length_append, Nat.add_mul, Nat.mul_add, Nat.mul_add]
    omega
theorem IsRound.flat64 {g s : Int} {r : Rnd} (h : IsRound g s r) (hs : 0 < s) : (r.flatten.length : Int) ≤ g := by
  have e1 := sum_le (fun t ht => (h.sz t ht).2)
  have e2 : (r.length : Int) * s ≤ g / s * s := Int.mul_le_mul_of_nonneg_right h.ct (by omega)
  have e3 : g / s * s ≤ g := Int.ediv_mul_le g (by omega)
  omega
theorem IsRound.pairs_le {g s : Int} {r : Rnd} (h : IsRound g s r) (hs : 0 < s) (hg : g ≤ 64) : (pairsR r).length ≤ 4096 := by
  have h1 := pairsR_len r
  have h2 : r.flatten.length ≤ 64 := by
    have := h.flat64 hs
    omega
  have h3 : r.flatten.length * r.flatten.length ≤ 64 * 64 := Nat.mul_le_mul h2 h2
  omega
open Classical in
noncomputable def kaddL (kn : Known) (l : List (Int × Int)) (k : Nat) : Known := fun a b => if (a, b) ∈ l then some k else kn a b
theorem kaddL_nil (kn : Known) (k : Nat) : kaddL kn [] k = kn := by
  funext a b
  simp [kaddL]
theorem kaddL_snoc (kn : Known) (l : List (Int × Int)) (k : Nat) (x y a b : Int) : kaddL kn (l ++ [(x, y)]) k a b = if a = x ∧ b = y then some k else kaddL kn l k a b := by
  unfold kaddL
  by_cases h : a = x ∧ b = y
  · obtain ⟨rfl, rfl⟩ := h
    simp
  · have e : ((a, b) ∈ l ++ [(x, y)]) ↔ (a, b) ∈ l := by
      simp only [List.mem_append, List.mem_singleton, Prod.mk.injEq]
      constructor
      · rintro (z | z)
        · exact z
        · exact absurd z h
      · exact fun z => .inl z
    rw [if_neg h]
    by_cases hm : (a, b) ∈ l
    · rw [if_pos hm, if_pos (e.mpr hm)]
    · rw [if_neg hm, if_neg (fun z => hm (e.mp z))]
theorem kaddL_perm {kn : Known} {l : List (Int × Int)} {r : Rnd} {k : Nat} (h : l.Perm (pairsR r)) : kaddL kn l k = kadd kn r k := by
  funext a b
  unfold kaddL kadd
  by_cases hm : (a, b) ∈ pairsR r
  · rw [if_pos hm, if_pos (h.mem_iff.mpr hm)]
  · rw [if_neg hm, if_neg (fun z => hm (h.mem_iff.mp z))]
theorem sorted_first {r : Rnd} {m : Nat} {a b : Int} (h : (sortP (pairsR r))[m]? = some (a, b)) {kn : Known} (hn : ∀ p ∈ (sortP (pairsR r)).take m, kn p.1 p.2 = none) :
    ∀ c d, (c, d) ∈ pairsR r → kn c d ≠ none → a < c ∨ (a = c ∧ b ≤ d) := fun c d hm hk => by
  have hm' := (sortP_perm (pairsR r)).mem_iff.mpr hm
  obtain ⟨m', hm''⟩ := List.mem_iff_getElem?.mp hm'
  obtain ⟨l1, e1⟩ := List.getElem?_eq_some_iff.mp h
  obtain ⟨l2, e2⟩ := List.getElem?_eq_some_iff.mp hm''
  rcases Nat.lt_trichotomy m' m with z | z | z
  · refine absurd (hn (c, d) ?_) hk
    rw [List.mem_iff_getElem?]
    exact ⟨m', by rw [List.getElem?_take, if_pos z]; exact hm''⟩
  · subst z
    rw [h] at hm''
    cases hm''
    omega
  · have := List.pairwise_iff_getElem.mp (sortP_up (pairsR r)) m m' l1 l2 z
    rw [e1, e2] at this
    exact this
end Nf

set_option autoImplicit false
namespace Nf
/-! ### who met whom -/
def pairsP (rs : List Rnd) : List (Int × Int) := rs.flatMap pairsR
def dirs (ps : List (Int × Int)) : List (Int × Int) := ps.flatMap fun p => [(p.1, p.2), (p.2, p.1)]
theorem mem_dirs {ps : List (Int × Int)} {a b : Int} : (a, b) ∈ dirs ps ↔ ((a, b) ∈ ps ∨ (b, a) ∈ ps) := by
  unfold dirs
  rw [List.mem_flatMap]
  constructor
  · rintro ⟨⟨x, y⟩, h, m⟩
    simp only [List.mem_cons, List.not_mem_nil, or_false, Prod.mk.injEq] at m
    rcases m with ⟨rfl, rfl⟩ | ⟨rfl, rfl⟩
    · exact .inl h
    · exact .inr h
  · rintro (h | h)
    · exact ⟨_, h, by simp⟩
    · exact ⟨_, h, by simp⟩
theorem dirs_snoc (ps : List (Int × Int)) (a b : Int) : dirs (ps ++ [(a, b)]) = dirs ps ++ [(a, b)] ++ [(b, a)] := by simp [dirs]
/-- whom c has met, by pairs told in both ways -/
def metD (g : Nat) (qs : List (Int × Int)) (c : Int) : List Int := (rangeI g).filter fun d => decide ((c, d) ∈ qs)
theorem mem_metD {g : Nat} {qs : List (Int × Int)} {c d : Int} : d ∈ metD g qs c ↔ (0 ≤ d ∧ d < g) ∧ (c, d) ∈ qs := by
  unfold metD
  rw [List.mem_filter, mem_rangeI, decide_eq_true_eq]
theorem metD_nodup (g : Nat) (qs : List (Int × Int)) (c : Int) : (metD g qs c).Nodup := (rangeI_nodup g).sublist List.filter_sublist
theorem rangeI_up (g : Nat) : (rangeI g).Pairwise (· < ·) := by
  unfold rangeI
  rw [List.pairwise_map]
  exact List.pairwise_lt_range.imp fun h => by omega
theorem metD_up (g : Nat) (qs : List (Int × Int)) (c : Int) : (metD g qs c).Pairwise (· < ·) := (rangeI_up g).sublist List.filter_sublist
theorem metD_len (g : Nat) (qs : List (Int × Int)) (c : Int) : (metD g qs c).length ≤ g := by
  have := (List.filter_sublist (p := fun d => decide ((c, d) ∈ qs)) (l := rangeI g)).length_le
  rwa [rangeI_len] at this
/-- one at least of g is not met: oneself -/
theorem metD_less {g : Nat} {qs : List (Int × Int)} {c : Int} (h0 : 0 ≤ c) (h1 : c < g) (hn : ∀ p ∈ qs, p.1 ≠ p.2) : (metD g qs c).length < g := by
  have hc : c ∈ rangeI g := mem_rangeI.mpr ⟨h0, h1⟩
  have h := List.length_filter_lt_length_iff_exists (p := fun d => decide ((c, d) ∈ qs)) (l := rangeI g)
  rw [rangeI_len] at h
  exact h.mpr ⟨c, hc, by
    rw [decide_eq_true_eq]
    exact fun z => hn _ z rfl⟩
theorem perm_of_mem {xs ys : List Int} (hx : xs.Nodup) (hy : ys.Nodup) (h : ∀ d, d ∈ xs ↔ d ∈ ys) : xs.Perm ys := (List.perm_ext_iff_of_nodup hx hy).mpr h
theorem metD_old {g : Nat} {qs : List (Int × Int)} {a b c : Int} (h : c ≠ a ∨ (a, b) ∈ qs) : metD g (qs ++ [(a, b)]) c = metD g qs c := by
  unfold metD
  refine List.filter_congr fun d _ => ?_
  have e : (c, d) ∈ qs ++ [(a, b)] ↔ (c, d) ∈ qs := by
    simp only [List.mem_append, List.mem_singleton, Prod.mk.injEq]
    constructor
    · rintro (z | ⟨rfl, rfl⟩)
      · exact z
      · exact h.elim (fun n => absurd rfl n) id
    · exact .inl
  simp only [e]
theorem metD_new {g : Nat} {qs : List (Int × Int)} {a b : Int} (h0 : 0 ≤ b) (h1 : b < g) (h : (a, b) ∉ qs) : (metD g qs a ++ [b]).Perm (metD g (qs ++ [(a, b)]) a) := by
  refine perm_of_mem ?_ (metD_nodup _ _ _) fun d => ?_
  · refine List.nodup_append.mpr ⟨metD_nodup _ _ _, by simp, fun x hx y hy => ?_⟩
    rw [List.mem_singleton.mp hy]
    rintro rfl
    exact h (mem_metD.mp hx).2
  · rw [List.mem_append, mem_metD, mem_metD, List.mem_append, List.mem_singleton, List.mem_singleton, Prod.mk.injEq]
    constructor
    · rintro (⟨z, q⟩ | rfl)
      · exact ⟨z, .inl q⟩
      · exact ⟨⟨h0, h1⟩, .inr ⟨rfl, rfl⟩⟩
    · rintro ⟨z, q | ⟨_, rfl⟩⟩
      · exact .inl ⟨z, q⟩
      · exact .inr rfl
theorem up_perm_eq : ∀ {xs ys : List Int}, xs.Pairwise (· ≤ ·) → ys.Pairwise (· < ·) → xs.Perm ys → xs = ys
  | [], ys, _, _, h => (List.nil_perm.mp h).symm
  | x :: xs, [], _, _, h => absurd h.length_eq (by simp)
  | x :: xs, y :: ys, hx, hy, h => by
    obtain ⟨h1, h2⟩ := List.pairwise_cons.mp hx
    obtain ⟨h3, h4⟩ := List.pairwise_cons.mp hy
    have a1 : y ≤ x := by
      rcases List.mem_cons.mp (h.mem_iff.mp (List.mem_cons_self (a := x))) with e | e
      · omega
      · have := h3 x e
        omega
    have a2 : x ≤ y := by
      rcases List.mem_cons.mp (h.mem_iff.mpr (List.mem_cons_self (a := y))) with e | e
      · omega
      · exact h1 y e
    have e : x = y := by omega
    subst e
    rw [up_perm_eq h2 h4 (List.perm_cons x |>.mp h)]
/-- the pairs of a round are of its guests, the lower one first -/
theorem pairsT_lt : ∀ {t : Tbl}, t.Pairwise (· < ·) → ∀ p ∈ pairsT t, p.1 < p.2
  | [], _, p, h => by simp [pairsT] at h
  | a :: t, ht, p, h => by
    obtain ⟨h1, h2⟩ := List.pairwise_cons.mp ht
    simp only [pairsT, List.mem_append, List.mem_map] at h
    rcases h with ⟨b, hb, rfl⟩ | h
    · exact h1 b hb
    · exact pairsT_lt h2 p h
theorem IsRound.pair {g s : Int} {r : Rnd} (h : IsRound g s r) : ∀ p ∈ pairsR r, 0 ≤ p.1 ∧ p.1 < p.2 ∧ p.2 < g := fun p hp => by
  obtain ⟨t, ht, hq⟩ := List.mem_flatMap.mp hp
  obtain ⟨m1, m2⟩ := mem_pairsT hq
  have lt := pairsT_lt (up_strict (h.up t ht) (flat_each h.nd t ht)) p hq
  exact ⟨(h.lo _ (List.mem_flatten.mpr ⟨t, ht, m1⟩)).1, lt, (h.lo _ (List.mem_flatten.mpr ⟨t, ht, m2⟩)).2⟩
theorem plan_pair {g s : Int} {rs : List Rnd} (h : ∀ r ∈ rs, IsRound g s r) : ∀ p ∈ pairsP rs, 0 ≤ p.1 ∧ p.1 < p.2 ∧ p.2 < g := fun p hp => by
  obtain ⟨r, hr, hq⟩ := List.mem_flatMap.mp hp
  exact (h r hr).pair p hq
/-- whom c has met in a plan -/
def metM (g : Nat) (ps : List (Int × Int)) (c : Int) : List Int := metD g (dirs ps) c
/-- whom not -/
def unmetM (g : Nat) (ps : List (Int × Int)) (c : Int) : List Int := (rangeI g).filter fun d => decide (d ≠ c ∧ d ∉ metM g ps c)
theorem mem_metM {g : Nat} {ps : List (Int × Int)} {c d : Int} : d ∈ metM g ps c ↔ (0 ≤ d ∧ d < g) ∧ ((c, d) ∈ ps ∨ (d, c) ∈ ps) := by
  unfold metM
  rw [mem_metD, mem_dirs]
theorem dirs_ne {g : Int} {ps : List (Int × Int)} (h : ∀ p ∈ ps, 0 ≤ p.1 ∧ p.1 < p.2 ∧ p.2 < g) : ∀ p ∈ dirs ps, p.1 ≠ p.2 := fun ⟨a, b⟩ hp => by
  rcases mem_dirs.mp hp with z | z
  · have := h _ z
    omega
  · have := h _ z
    omega
theorem metM_perm {g : Nat} {ps qs : List (Int × Int)} (h : ∀ p, p ∈ ps ↔ p ∈ qs) (c : Int) : metM g ps c = metM g qs c := by
  unfold metM metD
  refine List.filter_congr fun d _ => ?_
  simp only [mem_dirs, h]
theorem filter_split (p : Int → Bool) : ∀ l : List Int, (l.filter p).length + (l.filter fun x => !p x).length = l.length
  | [] => rfl
  | x :: l => by
    have := filter_split p l
    by_cases h : p x = true
    · simp [h]
      omega
    · simp only [Bool.not_eq_true] at h
      simp [h]
      omega
theorem filter_one : ∀ {l : List Int} {c : Int}, l.Nodup → c ∈ l → (l.filter fun x => x == c).length = 1
  | [], c, _, h => by simp at h
  | x :: l, c, hn, h => by
    obtain ⟨h1, h2⟩ := List.nodup_cons.mp hn
    by_cases e : x = c
    · subst e
      have : l.filter (fun y => y == x) = [] := List.filter_eq_nil_iff.mpr fun y hy => by
        simp only [beq_iff_eq]
        rintro rfl
        exact h1 hy
      simp [this]
    · have hm : c ∈ l := by
        rcases List.mem_cons.mp h with z | z
        · exact absurd z.symm e
        · exact z
      have := filter_one h2 hm
      simp [e, this]
/-- how many c has not met -/
theorem unmet_len {g : Nat} {ps : List (Int × Int)} {c : Int} (h0 : 0 ≤ c) (h1 : c < g) (hp : ∀ p ∈ ps, p.1 < p.2) : (unmetM g ps c).length + (metM g ps c).length + 1 = g := by
  have hc : c ∈ rangeI g := mem_rangeI.mpr ⟨h0, h1⟩
  have e1 := filter_split (fun d => d == c) (rangeI g)
  rw [rangeI_len, filter_one (rangeI_nodup g) hc] at e1
  have e2 := filter_split (fun d => decide (d ∈ metM g ps c)) ((rangeI g).filter fun x => !(x == c))
  have e3 : ((rangeI g).filter fun x => !(x == c)).filter (fun d => decide (d ∈ metM g ps c)) = metM g ps c := by
    rw [List.filter_filter]
    show _ = (rangeI g).filter _
    refine List.filter_congr fun d hd => ?_
    have hd := mem_rangeI.mp hd
    have e : (d ∈ metM g ps c) ↔ (c, d) ∈ dirs ps := by
      unfold metM
      rw [mem_metD]
      exact ⟨fun z => z.2, fun z => ⟨hd, z⟩⟩
    have ne : (c, d) ∈ dirs ps → d ≠ c := fun z => by
      rcases mem_dirs.mp z with z | z
      · have := hp _ z
        simp only at this
        omega
      · have := hp _ z
        simp only at this
        omega
    rw [Bool.eq_iff_iff]
    simp only [Bool.and_eq_true, decide_eq_true_eq, Bool.not_eq_true', beq_eq_false_iff_ne, e]
    exact ⟨fun z => z.1, fun z => ⟨z, ne z⟩⟩
  have e4 : ((rangeI g).filter fun x => !(x == c)).filter (fun d => !decide (d ∈ metM g ps c)) = unmetM g ps c := by
    rw [List.filter_filter]
    refine List.filter_congr fun d _ => ?_
    rw [Bool.eq_iff_iff]
    simp [and_comm]
  rw [e3, e4] at e2
  omega
end Nf

set_option Elab.async false
set_option linter.all false
set_option maxRecDepth 100000
namespace Nf
/-! ### plans with hosts: the mathematics -/
def addAt (cs : List (List Int)) (i : Nat) (v : Int) : List (List Int) := cs.set i (cs.getD i [] ++ [v])
/-- the places of one step -/
def simP (T n st : Nat) (cs : List (List Int)) : Nat → List (List Int)
  | 0 => cs
  | p + 1 => addAt (simP T n st cs p) ((p + st * n) % T) ((st * T + p : Nat) : Int)
/-- all steps -/
def simS (T n : Nat) : Nat → List (List Int)
  | 0 => (List.range T).map fun j : Nat => [(j : Int)]
  | k + 1 => simP T n (k + 1) (simS T n k) T
def hostM (T s n : Nat) : Rnd := simS T n (s - 1)
def hostP (T s : Nat) : List Rnd := (List.range T).map (hostM T s)
/-- what the paper tells a plan of -/
structure IsHost (T s : Nat) : Prop where
  t : T = 2 ∨ T = 3 ∨ T = 5 ∨ T = 7
  s2 : 2 ≤ s
  sT : s ≤ T
theorem addAt_len (cs : List (List Int)) (i : Nat) (v : Int) : (addAt cs i v).length = cs.length := List.length_set
theorem addAt_get {cs : List (List Int)} {i j : Nat} {v : Int} (hi : i < cs.length) : (addAt cs i v)[j]? = if i = j then some (cs.getD i [] ++ [v]) else cs[j]? := by
  unfold addAt
  by_cases e : i = j
  · subst e
    rw [if_pos rfl, List.getElem?_set_self hi]
  · rw [if_neg e, List.getElem?_set_ne e]
theorem simP_len (T n st : Nat) (cs : List (List Int)) : ∀ p, (simP T n st cs p).length = cs.length
  | 0 => rfl
  | p + 1 => by rw [simP, addAt_len, simP_len T n st cs p]
theorem simS_len (T n : Nat) : ∀ k, (simS T n k).length = T
  | 0 => by simp [simS]
  | k + 1 => by rw [simS, simP_len, simS_len T n k]
theorem addAt_each {cs : List (List Int)} {i N : Nat} {v : Int} (h : ∀ c ∈ cs, c.length ≤ N) : ∀ c ∈ addAt cs i v, c.length ≤ N + 1 := fun c hc => by
  unfold addAt at hc
  rcases List.mem_or_eq_of_mem_set hc with hc | rfl
  · exact Nat.le_succ_of_le (h c hc)
  · rw [List.length_append, List.length_singleton]
    refine Nat.succ_le_succ ?_
    rw [List.getD_eq_getElem?_getD]
    cases e : cs[i]? with
    | none => exact Nat.zero_le _
    | some x => exact h x (List.mem_of_getElem? e)
theorem simP_each {T n st : Nat} {cs : List (List Int)} {N : Nat} (h : ∀ c ∈ cs, c.length ≤ N) : ∀ p, ∀ c ∈ simP T n st cs p, c.length ≤ N + p
  | 0 => h
  | p + 1 => addAt_each (simP_each h p)
theorem simS_each {T n : Nat} : ∀ k, ∀ c ∈ simS T n k, c.length ≤ 1 + k * T
  | 0 => fun c hc => by
    obtain ⟨j, _, rfl⟩ := List.mem_map.mp hc
    simp
  | k + 1 => fun c hc => by
    have := simP_each (simS_each (T := T) (n := n) k) T c hc
    rw [Nat.succ_mul]
    omega
/-! the facts, reckoned by the kernel for each of the thirteen -/
def unlikeC {α : Type} (f : α → Nat) : List α → Nat → Bool
  | [], _ => true
  | x :: xs, m => !(m.testBit (f x)) && unlikeC f xs (m ||| 1 <<< f x)
theorem unlikeC_nodup {α : Type} (f : α → Nat) : ∀ (l : List α) (m : Nat), unlikeC f l m = true → l.Pairwise (fun x y => f x ≠ f y) ∧ ∀ x ∈ l, m.testBit (f x) = false
  | [], _, _ => ⟨.nil, fun x h => by simp at h⟩
  | x :: l, m, h => by
    simp only [unlikeC, Bool.and_eq_true, Bool.not_eq_true'] at h
    obtain ⟨h1, h2⟩ := unlikeC_nodup f l _ h.2
    have go : ∀ y ∈ l, f x ≠ f y ∧ m.testBit (f y) = false := fun y hy => by
      have := h2 y hy
      rw [Nat.testBit_or, Bool.or_eq_false_iff] at this
      refine ⟨fun e => ?_, this.1⟩
      have z := this.2
      rw [← e, Nat.one_shiftLeft, Nat.testBit_two_pow_self] at z
      cases z
    refine ⟨List.pairwise_cons.mpr ⟨fun y hy => (go y hy).1, h1⟩, fun y hy => ?_⟩
    rcases List.mem_cons.mp hy with rfl | hy
    · exact h.1
    · exact (go y hy).2
def roundB (T s : Nat) (r : Rnd) : Bool := decide (r.length = T) && r.all (fun t => decide (t.length = s) && rises t && decide (0 ≤ t.headD 0) && decide (t.getLastD 0 < ((T * s : Nat) : Int))) && decide r.flatten.Nodup && decide (r.map (·.headD 0) = rangeI T)
def codeP (p : Int × Int) : Nat := p.1.toNat * 64 + p.2.toNat
def hostB (T s : Nat) : Bool := (hostP T s).all (roundB T s) && unlikeC codeP (pairsP (hostP T s)) 0 && decide ((pairsP (hostP T s)).length = T * T * s * (s - 1) / 2) && decide (((pairsP (hostP T s)).filter fun p => decide (p.1 < (T : Int))).length = T * T * (s - 1))
theorem host_22 : hostB 2 2 = true := by decide +kernel
theorem host_32 : hostB 3 2 = true := by decide +kernel
theorem host_33 : hostB 3 3 = true := by decide +kernel
theorem host_52 : hostB 5 2 = true := by decide +kernel
theorem host_53 : hostB 5 3 = true := by decide +kernel
theorem host_54 : hostB 5 4 = true := by decide +kernel
theorem host_55 : hostB 5 5 = true := by decide +kernel
theorem host_72 : hostB 7 2 = true := by decide +kernel
theorem host_73 : hostB 7 3 = true := by decide +kernel
theorem host_74 : hostB 7 4 = true := by decide +kernel
theorem host_75 : hostB 7 5 = true := by decide +kernel
theorem host_76 : hostB 7 6 = true := by decide +kernel
theorem host_77 : hostB 7 7 = true := by decide +kernel
theorem host_all {T s : Nat} (h : IsHost T s) : hostB T s = true := by
  obtain ⟨h1, h2, h3⟩ := h
  rcases h1 with rfl | rfl | rfl | rfl
  · have e : s = 2 := by omega
    subst e
    exact host_22
  · have e : s = 2 ∨ s = 3 := by omega
    rcases e with rfl | rfl
    · exact host_32
    · exact host_33
  · have e : s = 2 ∨ s = 3 ∨ s = 4 ∨ s = 5 := by omega
    rcases e with rfl | rfl | rfl | rfl
    · exact host_52
    · exact host_53
    · exact host_54
    · exact host_55
  · have e : s = 2 ∨ s = 3 ∨ s = 4 ∨ s = 5 ∨ s = 6 ∨ s = 7 := by omega
    rcases e with rfl | rfl | rfl | rfl | rfl | rfl
    · exact host_72
    · exact host_73
    · exact host_74
    · exact host_75
    · exact host_76
    · exact host_77
structure HostR (T s : Nat) (r : Rnd) : Prop where
  rd : IsRound ((T * s : Nat) : Int) (s : Nat) r
  len : r.length = T
  each : ∀ t ∈ r, t.length = s
  heads : r.map (·.headD 0) = rangeI T
theorem roundB_ok {T s : Nat} (hs : 1 ≤ s) {r : Rnd} (h : roundB T s r = true) : HostR T s r := by
  unfold roundB at h
  simp only [Bool.and_eq_true, decide_eq_true_eq, List.all_eq_true] at h
  obtain ⟨⟨⟨h1, h2⟩, h3⟩, h4⟩ := h
  refine ⟨isRound_iff.mpr ⟨?_, fun t ht => ?_, h3, ?_⟩, h1, fun t ht => (h2 t ht).1.1.1, h4⟩
  · rw [h1, Int.natCast_mul, Int.mul_ediv_cancel _ (by omega)]
    exact Int.le_refl _
  · obtain ⟨⟨⟨g1, g2⟩, g3⟩, g4⟩ := h2 t ht
    exact ⟨⟨by omega, by omega⟩, (rises_iff t).mp g2, g3, g4⟩
  · rw [h4]
    exact rangeI_up T
theorem host_round {T s n : Nat} (h : IsHost T s) (hn : n < T) : HostR T s (hostM T s n) := by
  have hb := host_all h
  unfold hostB at hb
  simp only [Bool.and_eq_true, List.all_eq_true] at hb
  exact roundB_ok (by have := h.s2; omega) (hb.1.1.1 _ (List.mem_map.mpr ⟨n, List.mem_range.mpr hn, rfl⟩))
theorem host_mem {T s : Nat} (h : IsHost T s) : ∀ r ∈ hostP T s, HostR T s r := fun r hr => by
  obtain ⟨n, hn, rfl⟩ := List.mem_map.mp hr
  exact host_round h (List.mem_range.mp hn)
theorem host_nodup {T s : Nat} (h : IsHost T s) : (pairsP (hostP T s)).Nodup := by
  have hb := host_all h
  unfold hostB at hb
  simp only [Bool.and_eq_true] at hb
  exact (unlikeC_nodup _ _ _ hb.1.1.2).1.imp fun z e => z (by rw [e])
theorem host_count {T s : Nat} (h : IsHost T s) : (pairsP (hostP T s)).length = T * T * s * (s - 1) / 2 ∧ ((pairsP (hostP T s)).filter fun p => decide (p.1 < (T : Int))).length = T * T * (s - 1) := by
  have hb := host_all h
  unfold hostB at hb
  simp only [Bool.and_eq_true, decide_eq_true_eq] at hb
  exact ⟨hb.1.2, hb.2⟩
theorem host_good {T s : Nat} (h : IsHost T s) : GoodP ((T * s : Nat) : Int) (s : Nat) (hostP T s) := by
  refine ⟨fun r hr => (host_mem h r hr).rd, ?_⟩
  have nd := host_nodup h
  unfold pairsP at nd
  rw [List.flatMap_def, List.nodup_iff_pairwise_ne, List.pairwise_flatten, List.pairwise_map] at nd
  exact nd.2.imp fun z p h1 h2 => z p h1 p h2 rfl
end Nf

set_option Elab.async false
set_option linter.all false
set_option maxRecDepth 100000
set_option maxHeartbeats 4000000
/-! Rules beside the hand layer's: len(set(ints)), sorted of a list or tuple of data, extend by a tuple, enumerate of a tuple. -/
namespace Nf
open PySem PySem.Spec PyProof.Rows L2

/-! ### len(set(xs)) of any whole numbers -/
def metN (ns : List Int) : Nat := (PyProof.Rows.firstMet (fun i => ns.getD i 0) ns.length).length
theorem firstMet_mem (f : Nat → Int) : ∀ (i j : Nat), j < i → f j ∈ PyProof.Rows.firstMet f i
  | 0, _, h => absurd h (Nat.not_lt_zero _)
  | i + 1, j, h => by
    rw [PyProof.Rows.firstMet_succ]
    unfold PyProof.Rows.step_dedup
    rcases Nat.lt_succ_iff_lt_or_eq.mp h with h | h
    · have := firstMet_mem f i j h
      split
      · exact this
      · exact List.mem_append_left _ this
    · subst h
      split
      · rename_i hb
        obtain ⟨y, hy, e⟩ := List.any_eq_true.mp hb
        rw [← eq_of_beq e]
        exact hy
      · simp
theorem metN_le (ns : List Int) : metN ns ≤ ns.length := PyProof.Rows.firstMet_length_le _ _
theorem firstMet_full (f : Nat → Int) : ∀ (i : Nat), (PyProof.Rows.firstMet f i).length = i → ∀ j k, j < k → k < i → f j ≠ f k
  | 0, _, _, _, _, h => absurd h (Nat.not_lt_zero _)
  | i + 1, e, j, k, hjk, hk => by
    rw [PyProof.Rows.firstMet_succ] at e
    unfold PyProof.Rows.step_dedup at e
    have hl := PyProof.Rows.firstMet_length_le f i
    split at e
    · omega
    · rename_i hb
      have e' : (PyProof.Rows.firstMet f i).length = i := by
        rw [List.length_append, List.length_singleton] at e
        omega
      rcases Nat.lt_succ_iff_lt_or_eq.mp hk with hk | hk
      · exact firstMet_full f i e' j k hjk hk
      · subst hk
        intro q
        apply hb
        refine List.any_eq_true.mpr ⟨f j, firstMet_mem f k j hjk, ?_⟩
        rw [q]
        exact beq_self_eq_true _
theorem metN_iff (ns : List Int) : metN ns = ns.length ↔ ns.Nodup := by
  constructor
  · intro h
    refine List.pairwise_iff_getElem.mpr fun i j hi hj hij e => ?_
    refine firstMet_full _ _ h i j hij hj ?_
    show ns.getD i 0 = ns.getD j 0
    rw [List.getD_eq_getElem?_getD, List.getD_eq_getElem?_getD, List.getElem?_eq_getElem hi, List.getElem?_eq_getElem hj]
    exact e
  · intro h
    unfold metN
    rw [RZ.firstMet_nodup h ns.length (Nat.le_refl _), List.take_length]
def tLenSet (K : PySem.W.Frag) (ta : TE) : TE := fun σ H Q => ta σ H fun x H1 => ∃ (l : Addr) (ns : List Int), x = .ref l ∧ SqL K H1 l (ns.map V.int) ∧ ns.length ≤ 4000 ∧ Q (.int (metN ns : Nat)) H1
theorem pe_lenSet {X : Cx} {a : Expr} {ta : TE} {p p2 q pos : Pos} (hg : Gl X "len") (hm : X.mg "len" = none) (hg2 : Gl X "set") (hm2 : X.mg "set" = none) (ha : PE X a ta) (hc : X.calm = true := by rfl)
    (na : starEach [a] X.env = (false, eval a X.env) :: starEach [] X.env := by rfl) : PE X (.Call (.Name "len" p) [.Call (.Name "set" p2) [a] [] q] [] pos) (tLenSet X.K ta) := by
  refine ⟨fun pins s σ H Q I h => ?_⟩
  refine Call_ (ld_blt I hg hm boot_len ?_)
  refine PyProof.Rows.callWith_builtin1 (PyProof.Rows.args_cons ?_ rfl) rfl rfl
  refine Call_ (ld_blt I hg2 hm2 boot_set ?_)
  refine PyProof.Rows.callWith_type1 (PyProof.Rows.args_cons (thn (ha.run pins s σ H _ I h) fun v s1 ⟨x, H1, I1, r1, q1⟩ => PyProof.Rows.args_nil ?_) na) na rfl
  obtain ⟨l, ns, rfl, hq, hl, q1⟩ := q1
  cases r1
  obtain ⟨its, r, pl, hz⟩ := I1.list hq
  have hlen : its.toArray.size = ns.length := by rw [List.size_toArray, ← r.length, List.length_map]
  have hle := metN_le ns
  refine call_set_list (I1.ok.hd hc) pl.isList (by simpa using RZ.intsAre_vals r) (by rw [hlen]; unfold scanBound; omega) fun h' tk hS hk => ?_
  refine PyProof.Rows.args_nil ?_
  rw [hlen] at hS
  obtain ⟨o, es, ep, t, ho, hex, hd, _, _, _, hf, hn⟩ := hS
  have I2 : Inv X pins σ H1 { s1 with heap := h', toks := tk } := I1.kept fun b o e => hk b o (Heap.lt_size e) e
  have hn' : es.size = metN ns := hn
  exact call_len_set ho hex hd hf (by rw [hn'] <;> omega) ⟨.int (metN ns : Nat), H1, I2.tok _, ⟨_, by rw [hn']⟩, q1⟩
end Nf

set_option Elab.async false
set_option linter.all false
set_option maxRecDepth 100000
set_option maxHeartbeats 4000000
namespace Nf
open PySem PySem.Spec PyProof.Rows L2

section
variable {prog : Program} {w : World} {A : Around} {E : Value → Shared → Prop} {s : Shared}
theorem collect_tup {l : Addr} {vs : List Value} {Q : List Value → Shared → Prop} (hl : IsTup s.heap l vs.toArray)
    (h : Q vs { s with heap := (s.heap.push (seqObj "list" #[] 0)).update s.heap.objs.size (Obj.mapSeq (· ++ vs.toArray)) }) (hsz : vs.length ≤ sizeLine) :
    wpAny (model prog w) A (collect (.ref l)) Q E s := by
  obtain ⟨o, ho, hc, n, hd⟩ := id hl
  unfold collect
  refine wpAny_bind (wpAny_runValue (codeAny_builtin entry_proto_collect' ?_))
  show wpAny _ _ (do again (.builtin "list.__iadd__" ⟨[← newList [], .ref l], []⟩)) _ _ s
  refine wpAny_bind (wpAny_newList (wpAny_pure ⟨Code.quiet_builtin _ (by decide +kernel), codeAny_builtin entry_list_iadd' ?_⟩))
  show wpAny _ _ (Builtin.List.listExtendWith (.ref s.heap.objs.size) (.ref l) (.ref s.heap.objs.size)) _ _ { s with heap := s.heap.push (seqObj "list" #[] 0) }
  unfold Builtin.List.listExtendWith
  have ho' : (s.heap.push (seqObj "list" #[] 0)).get? l = some o := Heap.get?_push_of_some _ ho
  refine wpAny_bind (wpAny_typeOf (T := "tuple") ⟨o, ho', hc⟩ ?_)
  have ht : (Value.type "tuple" == Value.type "tuple") = true := by rfl
  rw [if_pos (by rw [ht]; simp)]
  refine wpAny_bind (listItems_at ho' hd ?_)
  refine wpAny_bind (listItems_at (xs := #[]) (n := 0) (Heap.get?_push_size _ rfl) rfl ?_)
  rw [if_neg (by simp)]
  refine wpAny_bind (listUpdate_at (xs := #[]) (n := 0) (Heap.get?_push_size _ rfl) rfl ?_ (Nat.zero_le _) (by show (#[] ++ vs.toArray).size ≤ sizeLine + 1; simp only [Array.size_append, List.size_toArray, List.length_nil]; omega))
  refine wpAny_pure ?_
  show wpAny (model prog w) A (do
      let o ← load s.heap.objs.size
      match o.data with
      | .seq xs _ => pure xs.toList
      | _ => unsupported "internal:collect") Q E { s with heap := (s.heap.push (seqObj "list" #[] 0)).update s.heap.objs.size (Obj.mapSeq (· ++ vs.toArray)) }
  refine wpAny_bind (wpAny_load (get?_update_seq (Heap.get?_push_size _ rfl) _) ?_)
  show wpAny _ _ (pure ((#[] : Array Value) ++ vs.toArray).toList) Q E _
  rw [show ((#[] : Array Value) ++ vs.toArray).toList = vs by simp]
  exact wpAny_pure h
open PySem.W in
theorem sorted_of_sortT {l : Addr} {vs : List Value} {kw : List (Str × Value)} {Q : Value → Shared → Prop} (hl : IsTup s.heap l vs.toArray) (hL : vs.length ≤ sizeLine) (ha1 : argsOk "sorted" ⟨[.ref l], kw⟩) (ha2 : ∀ x, argsOk "list.sort" ⟨[.ref x], kw⟩)
    (body : ∀ E' : Value → Shared → Prop, wpAny (model prog w) A.in1.in1 (Builtin.«list.sort» ⟨[.ref (s.heap.objs.size + 1)], kw⟩) (fun f s' => f = .done (.ret .none) ∧ Q (.ref (s.heap.objs.size + 1)) s') E' { s with heap := copyHeap s.heap vs }) :
    wpAny (model prog w) A (call (.builtin "sorted") [.ref l] kw) Q E s := by
  refine call_function_entry_kw kind_sorted plain_sorted entry_sorted ha1 ?_
  unfold Builtin.«sorted»
  refine wpAny_bind (m := checkCount "sorted" 1 1 _) (wpAny_pure ?_)
  refine wpAny_bind (collect_tup hl ?_ hL)
  refine wpAny_bind (wpAny_newList ?_ hL)
  have hsz : ((s.heap.push (seqObj "list" #[] 0)).update s.heap.objs.size (Obj.mapSeq (· ++ vs.toArray))).objs.size = s.heap.objs.size + 1 := by
    rw [Heap.size_update, size_push']
  show wpAny _ _ _ _ _ { s with heap := copyHeap s.heap vs }
  rw [hsz]
  refine wpAny_bind (wpAny_holding (wpAny_call_entry_kw slot_list_sort ⟨_, copyHeap_at s.heap vs, rfl⟩ entry_list_sort ?body (ha2 _)))
  case body =>
    show wpAny (model prog w) A.in1.in1 (Builtin.«list.sort» ⟨[.ref (s.heap.objs.size + 1)], kw⟩) _ _ _
    refine wpAny_mono (body _) (fun f s' hf => ?_) fun _ _ e => e
    obtain ⟨rfl, hq⟩ := hf
    exact ⟨_, rfl, wpAny_pure ⟨_, rfl, hq⟩⟩
open PySem.W in
/-- sorted of a tuple that reads as data -/
theorem sorted_dataT {β : Type} {R : Value → β → Prop} {enc : β → PyData} {vs : List Value} {bs : List β} {l : Addr} {Q : Value → Shared → Prop} (hl : IsTup s.heap l vs.toArray) (e : EachIs R vs bs) (er : EachIs (fun v b => ∃ as, Reads s.heap v (enc b) as) vs bs) (hal : AllAlike (bs.map enc)) (hk : Sortable (bs.map enc)) (hL : bs.length ≤ sizeLine)
    (hu : ∀ b, b ∈ bs → A.units + 2 + (enc b).depth < cLine) (h : ∀ out, out.length = bs.length → EachIs R out (bs.mergeSort (dataLe false enc)) → Q (.ref (s.heap.objs.size + 1)) { s with heap := sortedAll s.heap vs (List.toArray out) }) :
    wpAny (model prog w) A (call (.builtin "sorted") [.ref l]) Q E s := by
  have er' : EachIs (fun v b => ∃ as, Reads (sortingHeap (copyHeap s.heap vs) (s.heap.objs.size + 1) vs) v (enc b) as) vs bs := er.mono fun _ _ ⟨as, r⟩ => ⟨as, PyProof.Rows.Reads.keeps (fun _ _ => sorting_copy_old) r⟩
  have hLv : vs.length ≤ sizeLine := by
    rw [e.length]
    exact hL
  refine sorted_of_sortT hl hLv (args_sorted1 _) (fun _ => args_list_sort _) fun _ => list_sort_vals (s := { s with heap := copyHeap s.heap vs }) (copyHeap_at s.heap vs) (SortsAt.data (s := { s with heap := sortingHeap (copyHeap s.heap vs) (s.heap.objs.size + 1) vs }) (each_map (R := fun v d => ∃ as, Reads (sortingHeap (copyHeap s.heap vs) (s.heap.objs.size + 1) vs) v d as) enc er') hal hk (bound_map hu)) hLv ⟨rfl, ?_⟩
  exact h _ (by rw [sortVals_length false rfl]; exact e.length) (sortVals_data false e er' hal)
end

end Nf

set_option Elab.async false
set_option linter.all false
set_option maxRecDepth 100000
set_option maxHeartbeats 4000000
namespace Nf
open PySem PySem.Spec PyProof.Rows L2

/-! ### sorted of a list or a tuple that reads as data -/
theorem each_of_paired {β : Type} {R : V → β → Prop} : ∀ {xs : List V} {us : List Value} {bs : List β}, Vals xs us → Paired R xs bs → PySem.W.EachIs (fun u b => ∃ x, RelV x u ∧ R x b) us bs
  | _, _, _, .nil, .nil => .nil
  | _, _, _, .cons r t, .cons q p => .cons ⟨_, r, q⟩ (each_of_paired t p)
theorem paired_of_each {β : Type} {R : V → β → Prop} : ∀ {us : List Value} {bs : List β}, PySem.W.EachIs (fun u b => ∃ x, RelV x u ∧ R x b) us bs → ∃ xs, Vals xs us ∧ Paired R xs bs
  | _, _, .nil => ⟨[], .nil, .nil⟩
  | _, _, .cons ⟨x, r, q⟩ t => by
    obtain ⟨xs, h1, h2⟩ := paired_of_each t
    exact ⟨x :: xs, .cons r h1, .cons q h2⟩
def rSortD (K : PySem.W.Frag) {β : Type} (enc : β → PyData) : List V → Hp → VK → Prop := fun vs H Q => ∃ (a : Addr) (xs : List V) (bs : List β) (R : V → β → Prop), vs = [.ref a] ∧ (SqL K H a xs ∨ SqT K H a xs) ∧ Paired R xs bs ∧
  (∀ x b, R x b → Dp K H x (enc b)) ∧ PySem.W.AllAlike (bs.map enc) ∧ PySem.W.Sortable (bs.map enc) ∧ (∀ b ∈ bs, (enc b).depth ≤ 8) ∧
  ∀ ys p, Paired R ys (bs.mergeSort (PySem.W.dataLe false enc)) → H p = none → Q (.ref p) (upd H p (.lst ys))
theorem cr_sortD {X : Cx} {β : Type} (enc : β → PyData) (hu : X.A.units + 64 < cLine) : CallR X (.builtin "sorted") (rSortD X.K enc) := by
  intro pins s σ H vs us Q I r h
  obtain ⟨a, xs, bs, R, rfl, hs, hp, hd, hal, hk, hdp, q⟩ := h
  rw [Vals.ref1 r]
  have main : ∀ (its : List Value), Vals xs its → xs.length ≤ sizeLine → (s.heap.IsList a its.toArray ∨ IsTup s.heap a its.toArray) → wpAny (model X.prog X.w) X.A (call (.builtin "sorted") [.ref a]) (EP X pins σ Q) X.xe s := fun its rv hz hl => by
    have e := each_of_paired rv hp
    have er : PySem.W.EachIs (fun v b => ∃ as, Reads s.heap v (enc b) as) its bs := e.mono fun u b ⟨x, rx, rb⟩ => Dp.reads I (enc b) x u (hd x b rb) rx
    have hlb : bs.length = xs.length := by
      rw [← e.length, ← rv.length]
    have fin : ∀ out, out.length = bs.length → PySem.W.EachIs (fun u b => ∃ x, RelV x u ∧ R x b) out (bs.mergeSort (PySem.W.dataLe false enc)) → EP X pins σ Q (.ref (s.heap.objs.size + 1)) { s with heap := sortedAll s.heap its (List.toArray out) } := fun out hlo eo => by
      obtain ⟨ys, ry, py⟩ := paired_of_each eo
      obtain ⟨ep, he'⟩ := PyProof.Rows.sortedAll_at s.heap its out.toArray
      have hly := ry.length
      exact ⟨.ref _, upd H (s.heap.objs.size + 1) (.lst ys), I.laid (t' := s.toks) (fun _ _ => PyProof.Rows.sortedAll_old) (Nat.le_succ _) ⟨by omega, out, ep, ry, he'⟩, rfl, q _ _ py (I.hok.fresh (Nat.le_succ _))⟩
    rcases hl with hl | hl
    · exact PySem.W.sorted_data hl e er hal hk (by omega) (fun b hb => by have := hdp b hb; omega) fin
    · exact sorted_dataT hl e er hal hk (by omega) (fun b hb => by have := hdp b hb; omega) fin
  rcases hs with hs | hs
  · obtain ⟨its, rv, hl, hz⟩ := I.list hs
    exact main its rv hz (.inl hl.isList)
  · obtain ⟨its, rv, hl, hz⟩ := I.tuple hs
    exact main its rv hz (.inr hl)

/-! ### xs.extend(t), t a tuple -/
def rExtendT : V → List V → Hp → VK → Prop := fun x vs H Q => ∃ l b xs zs, x = .ref l ∧ vs = [.ref b] ∧ H l = some (.lst xs) ∧ H b = some (.tup zs) ∧ xs.length + zs.length ≤ sizeLine ∧ Q .non (upd H l (.lst (xs ++ zs)))
theorem mt_extendT {X : Cx} : MtM X "list.extend" rExtendT := by
  intro pins s σ H x vs v us Q I rx rv h
  obtain ⟨l, b, xs, zs, rfl, rfl, hH, hB, hz, q⟩ := h
  cases rx
  obtain ⟨u, rfl, ru⟩ := rv.one
  cases ru
  obtain ⟨z, its, n, r, hl, e⟩ := I.lstM hH
  obtain ⟨its2, r2, ht, hz2⟩ := I.tuple (SqT.of (K := X.K) hB)
  obtain ⟨o, ho, hc, n2, hd⟩ := id ht
  have hl2 := r2.length
  have hsz : its.toArray.size + its2.toArray.size ≤ sizeLine := by rw [List.size_toArray, List.size_toArray]; omega
  have hlong : ¬ (!its.toArray.isEmpty && Builtin.List.listTooLong (its.toArray.size + its2.toArray.size)) = true := by
    rw [notLongL hsz, Bool.and_false]
    exact Bool.false_ne_true
  refine wpAny_call_entry F.slot_list_extend ⟨_, e, rfl⟩ F.entry_list_extend ?_ (F.args_list_extend_2 _ _)
  unfold Builtin.«list.extend»
  show wpAny _ _ (Builtin.List.listExtendWith (.ref l) (.ref b) .none) _ _ s
  unfold Builtin.List.listExtendWith
  refine wpAny_bind (wpAny_typeOf (T := "tuple") ⟨o, ho, hc⟩ ?_)
  have ht : (Value.type "tuple" == Value.type "tuple") = true := by rfl
  rw [if_pos (by rw [ht]; simp)]
  refine wpAny_bind (listItems_at ho hd ?_)
  refine wpAny_bind (listItems_at e rfl ?_)
  rw [if_neg hlong]
  refine wpAny_bind (listUpdate_at e rfl ?_ (by rw [List.size_toArray]; omega) (by rw [Array.size_append]; omega))
  refine wpAny_pure ⟨_, rfl, ?_⟩
  refine ⟨.non, _, I.lset (its' := its ++ its2) hH e (by simp) (r.append r2) ?_, rfl, q⟩
  rw [List.length_append]
  omega
end Nf

set_option Elab.async false
set_option linter.all false
set_option maxRecDepth 100000
set_option maxHeartbeats 4000000
namespace PySem
open AutoSeq1 (wpAny_loadPart')
theorem nf_meets_enumerate_newT (l : Addr) (items : Array Value) (n : Nat) (dct : Option Addr) (sl : Array (Option Value)) :
    Meets (Builtin.«enumerate.__new__» ⟨[.type "enumerate", .ref l], []⟩) (fun _ R s => s.heap.get? l = some { cls := .type "tuple", dict := dct, data := .seq items n, slots := sl } ∧
      R (.ok (.ret (.ref (s.heap.push { cls := .type "tuple_iterator", data := .fields #[.ref l, .int 0 0] }).objs.size)))
        { s with heap := (s.heap.push { cls := .type "tuple_iterator", data := .fields #[.ref l, .int 0 0] }).push { cls := .type "enumerate", data := .fields #[.none, .bool false, .ref s.heap.objs.size, rawInt 0, .none, .none] } }) :=
  .of_wp fun prog w A R s h => by
    obtain ⟨hp, g, d, tk, os⟩ := s; obtain ⟨hl, h⟩ := h
    have hsub := sub_enumerate
    have hL : Heap.IsTuple (Shared.heap ⟨hp, g, d, tk, os⟩) l items := ⟨_, hl, rfl, n, rfl⟩
    wp_walk using wpAny_loadPart' hl
    refine wpAny_stack_any fun st => wpAny_pure ?_
    split
    · rename_i c _ _ _ _ _
      cases (c == Value.type "enumerate")
      · wp_walk using wpAny_loadPart' hl, wpAny_pyIter_tuple hL
        exact ⟨_, rfl, h⟩
      · wp_walk using wpAny_loadPart' hl, wpAny_pyIter_tuple hL
        exact ⟨_, rfl, h⟩
    · wp_walk using wpAny_loadPart' hl, wpAny_pyIter_tuple hL
      exact ⟨_, rfl, h⟩
theorem nf_call_enumerate_tuple {prog : Program} {w : World} {A : Around} {E : Value → Shared → Prop} {s : Shared} {l : Addr} {items : Array Value} {Q : Value → Shared → Prop} (hL : s.heap.IsTuple l items)
    (h : ∀ h', IsEnum h' (s.heap.objs.size + 1) s.heap.objs.size 0 .none → h'.IsTupleIter s.heap.objs.size l 0 → h'.objs.size = s.heap.objs.size + 2 →
      (∀ b o, s.heap.get? b = some o → h'.get? b = some o) → Q (.ref (s.heap.objs.size + 1)) { s with heap := h' }) :
    wpAny (model prog w) A (call (.type "enumerate") [.ref l]) Q E s := by
  obtain ⟨⟨c, dct, dt, sl⟩, hl, hc, n, hd⟩ := hL
  replace hc : c = .type "tuple" := hc
  replace hd : dt = .seq items n := hd
  subst hc hd
  refine callType_new F.called_enumerate (by decide) (F.typeCall_enumerate_1 _) (F.newCall_enumerate_1 _) (fun obj => F.args_object_init_2 obj _) F.entry_enumerate_new
    (nf_meets_enumerate_newT l items n dct sl) ⟨hl, ?_⟩
  have hz : (s.heap.push { cls := .type "tuple_iterator", data := .fields #[.ref l, .int 0 0] }).objs.size = s.heap.objs.size + 1 := Heap.size_push ..
  show _ ∧ _
  rw [hz]
  have he : IsEnum ((s.heap.push { cls := .type "tuple_iterator", data := .fields #[.ref l, .int 0 0] }).push
      { cls := .type "enumerate", data := .fields #[.none, .bool false, .ref s.heap.objs.size, rawInt 0, .none, .none] }) (s.heap.objs.size + 1) s.heap.objs.size 0 .none := by
    have := Heap.get?_push_size (s.heap.push { cls := .type "tuple_iterator", data := .fields #[.ref l, .int 0 0] })
      (o := { cls := .type "enumerate", data := .fields #[.none, .bool false, .ref s.heap.objs.size, rawInt 0, .none, .none] }) rfl
    rw [hz] at this; exact this
  refine ⟨⟨_, he, rfl⟩, h _ he ⟨_, Heap.get?_push_of_some _ (Heap.get?_push_size _ rfl), rfl, rfl⟩ (by rw [Heap.size_push, hz]) fun b o x => Heap.get?_push_of_some _ (Heap.get?_push_of_some _ x)⟩
end PySem

set_option Elab.async false
set_option linter.all false
set_option maxRecDepth 100000
set_option maxHeartbeats 4000000
namespace Nf
open PySem PySem.Spec PyProof.Rows L2

/-! ### enumerate of a tuple -/
def IteT (K : PySem.W.Frag) (a : Addr) : It :=
  ⟨fun i H => ∃ (xs : List V) (x : V), SqT K H a xs ∧ xs[i]? = some x, fun i H v H' => ∃ T x, v = .ref T ∧ H T = none ∧ H' = upd H T (.tup [.int (i : Nat), x]) ∧ ∀ xs, SqT K H a xs → xs[i]? = some x, fun i H => ∃ xs : List V, SqT K H a xs ∧ xs.length ≤ i⟩
theorem turn_enumT {P : Program} {w : World} {K : PySem.W.Frag} {elts : List Expr} {kk : Nat} {tpos : Pos} (a e it : Addr) (hai : a ≠ it) (hae : a ≠ e) :
    Turn P w K (.Tuple elts kk tpos) (IteT K a) [e, it] e (fun i h => (∃ old, IsEnum h e it ((i : Nat) : Int) old) ∧ h.IsTupleIter it a i ∧ e ≠ it) where
  mem := by simp
  obj := fun i h st b hb => by
    obtain ⟨⟨old, he⟩, ⟨o, ho, hc, hd⟩, _⟩ := st
    have e' : b = e ∨ b = it := by simpa using hb
    rcases e' with z | z
    · rw [z]; exact ⟨_, he, fun v q => nomatch q⟩
    · rw [z]; exact ⟨o, ho, fun v q => by rw [hd] at q; cases q⟩
  keep := fun i h h' st k => let ⟨⟨old, he⟩, hi, hne⟩ := st; ⟨⟨old, k e (by simp) _ he⟩, hi.at fun o q => k it (by simp) o q, hne⟩
  item := by
    intro X hP hw hK hc i pins s σ H E I hf st hg
    subst hP hw hK
    obtain ⟨⟨old, he⟩, hit, hne⟩ := st
    obtain ⟨xs, x, hq, hx⟩ := hg
    obtain ⟨its, rv, p, hz⟩ := I.tuple hq
    obtain ⟨u, hu, ru⟩ := rv.get hx
    have hel : e < s.heap.objs.size := Heap.lt_size he
    have hil : it < s.heap.objs.size := by obtain ⟨_, q, _⟩ := hit; exact Heap.lt_size q
    have hu' : its.toArray[i]? = some u := by simpa using hu
    have hlt : i < its.toArray.size := by
      by_cases hq : i < its.toArray.size
      · exact hq
      · rw [Array.getElem?_eq_none (by omega)] at hu'
        cases hu'
    have hef : e ∉ [it, a] := by
      intro z
      simp only [List.mem_cons, List.not_mem_nil, or_false] at z
      rcases z with z | z
      · exact hne z
      · exact hae z.symm
    refine wpAny_pyNext_enum_itemD (Draws.tuple (A := X.A.in1) (show X.A.in1.handled = none from I.ok.hd hc) it a hai its.toArray) he ⟨hit, p⟩ hlt hne hef fun y h' tk hP ho hst' hT hsz hk => ?_
    have ey : y = u := Option.some.inj (hP.symm.trans hu')
    subst ey
    have hit' := hst'.1
    refine ⟨_, rfl, wpAny_letOwnedTupleGo_enum (s := { s with heap := h', toks := tk + 1 }) ho fun h'' he' sb => ?_⟩
    have hT2 : h''.get? s.heap.objs.size = some { cls := .type "tuple", data := .seq #[.int i tk, y] } := (sb.2 _ (Nat.ne_of_gt hel)).trans hT
    have new : ObjOk X.prog X.w (upd H s.heap.objs.size (.tup [.int (i : Nat), x])) h'' s.heap.objs.size (.tup [.int (i : Nat), x]) :=
      ⟨by show 2 ≤ sizeLine; decide, [.int i tk, y], .cons ⟨_, rfl⟩ (.cons ru .nil), ⟨_, hT2, rfl, _, rfl⟩⟩
    have I1 : Inv X pins σ (upd H s.heap.objs.size (.tup [.int (i : Nat), x])) { s with heap := h'', toks := tk + 1 } :=
      I.turnedNew (ch := [e, it]) (fun b ob hb q => (sb.2 b (fun z => hb (by simp [z]))).trans (hk b ob (fun z => hb (by simp [z])) (fun z => hb (by simp [z])) q)) hf (Nat.le_refl _) new
    refine ⟨.ref s.heap.objs.size, _, I1, rfl, ⟨_, x, rfl, I.hok.fresh (Nat.le_refl _), rfl, fun ys hy => by rw [I.tuple_inj hy hq]; exact hx⟩, ⟨⟨y, ?_⟩, hit'.at fun o q => (sb.2 it (Ne.symm hne)).trans q, hne⟩, fun b hb => ?_⟩
    · have e1 : ((i + 1 : Nat) : Int) = (i : Int) + 1 := by omega
      rw [e1]; exact he'
    · have hb' : b < s.heap.objs.size := by
        have e' : b = e ∨ b = it := by simpa using hb
        rcases e' with z | z
        · rw [z]; exact hel
        · rw [z]; exact hil
      rw [upd_ne (Nat.ne_of_lt hb')]
      exact (hf b hb).1
  done := by
    intro X hP hw hK hc i pins s σ H E I hf st hg
    subst hP hw hK
    obtain ⟨⟨old, he⟩, hit, hne⟩ := st
    obtain ⟨xs, hq, hx⟩ := hg
    obtain ⟨its, rv, p, hz⟩ := I.tuple hq
    obtain ⟨f0, f1, f2, f3, f4, f5⟩ := hf it (by simp)
    have hl := rv.length
    have hx' : its.toArray[i]? = none := by simp; omega
    have hT : s.TypeIs (.ref e) "enumerate" := ⟨_, he, rfl⟩
    unfold pyNext
    refine wpAny_bind (wpAny_attempt (wpAny_callSpecial?_slot (name := Str.ofString "__next__") hT F.slot_enumerate_next
      (wpAny_call_entry F.slot_enumerate_next hT F.entry_enumerate_next ?_ (F.args_enumerate_next_1 _))))
    show wpAny _ _ (field (.ref e) 2 >>= _) _ _ _
    refine wpAny_bind (wpAny_field he rfl (x := .ref it) rfl ?_)
    refine wpAny_bind (wpAny_nextOf_tuple_end (A := X.A.in1) (show X.A.in1.handled = none from I.ok.hd hc) hit p hx' fun h' x he' hx' => ?_)
    obtain ⟨o, ho, hc⟩ := hx'
    refine wpAny_bind (wpAny_isInstance (T := "StopIteration") (b := true) ⟨o, ho, hc⟩ isSubtype_stop ?_)
    exact wpAny_pure ⟨rfl, I.turned (t' := s.toks) (fun b o hb q => he' b o hb q) f0 f1 f3 f4 f5⟩
  self := fun A i s Q E st h => let ⟨⟨_, he⟩, _⟩ := st; wpAny_pyIter_enum he h
def iEnumT (K : PySem.W.Frag) (ta : TA) : TI := fun σ H R => ta σ H fun vs H1 => ∃ a xs, vs = [.ref a] ∧ SqT K H1 a xs ∧ R (IteT K a) H1
theorem pi_enumT {X : Cx} {e : Expr} {ta : TA} {p pos tpos : Pos} {elts : List Expr} {kk : Nat} (hg : Gl X "enumerate") (hm : X.mg "enumerate" = none) (ha : PA X [e] ta) (hs : starEach [e] X.env = [(false, eval e X.env)] := by rfl) :
    PI X (.Tuple elts kk tpos) (.Call (.Name "enumerate" p) [e] [] pos) (iEnumT X.K ta) := by
  refine ⟨fun pins s σ H R I h => ?_⟩
  refine Call_ (ld_blt I hg hm boot_enumerate (PyProof.Rows.callWith_type1 (thn (ha.run pos pins s σ H _ I h) fun us s1 ⟨vs, H1, I1, r1, q1⟩ => ?_) hs rfl))
  obtain ⟨a, xs, ex, hq, q⟩ := q1
  subst ex
  cases r1 with
  | cons r rr =>
    cases rr
    cases r
    obtain ⟨its, rv, p', hz⟩ := I1.tuple hq
    have hal : a < s1.heap.objs.size := by
      obtain ⟨o, ho, _⟩ := id p'
      exact Heap.lt_size ho
    refine nf_call_enumerate_tuple p' fun h' he hit hsz hk => wpAny_pyIter_enum he ?_
    have I2 : Inv X pins σ H1 { s1 with heap := h' } := I1.kept (t' := s1.toks) hk
    refine ⟨s1.heap.objs.size + 1, [s1.heap.objs.size + 1, s1.heap.objs.size], _, _, H1, rfl, I2, turn_enumT a (s1.heap.objs.size + 1) s1.heap.objs.size (Nat.ne_of_lt hal) (Nat.ne_of_lt (Nat.lt_succ_of_lt hal)), ⟨⟨.none, he⟩, hit, Nat.succ_ne_self _⟩, fun b hb => ?_, q⟩
    have e' : b = s1.heap.objs.size + 1 ∨ b = s1.heap.objs.size := by simpa using hb
    have hle : s1.heap.objs.size ≤ b := by
      rcases e' with z | z
      · rw [z]; exact Nat.le_add_right _ _
      · rw [z]; exact Nat.le_refl _
    exact I1.fpOk hle (I1.hok.fresh hle)
theorem walk_enumT {K : PySem.W.Frag} {a : Addr} {xs : List V} : Walk (IteT K a) xs.length (fun H => SqT K H a xs) (YPair (fun i => some (.int (i : Nat))) (fun i => xs[i]?)) := by
  refine ⟨fun i _ hi q => ⟨xs, xs[i], q, by simp [hi]⟩, fun _ q => ⟨xs, q, Nat.le_refl _⟩, fun i H v H' _ q y => ?_⟩
  obtain ⟨T, x, h1, h2, h3, h4⟩ := y
  exact ⟨T, .int (i : Nat), x, h1, h2, h3, rfl, h4 xs q⟩
theorem walk_zipT {K : PySem.W.Frag} {a b : Addr} {xs ys : List V} {n : Nat} (hn : n = min xs.length ys.length) : Walk (RZ.ItzT K a b) n (fun H => SqT K H a xs ∧ SqT K H b ys) (YPair (fun i => xs[i]?) (fun i => ys[i]?)) := by
  subst hn
  refine ⟨fun i _ hi q => ?_, fun _ q => ⟨xs, ys, q.1, q.2, by omega⟩, fun i H v H' _ q y => ?_⟩
  · have h1 : i < xs.length := by omega
    have h2 : i < ys.length := by omega
    exact ⟨xs, ys, xs[i], ys[i], q.1, q.2, by simp [h1], by simp [h2]⟩
  · obtain ⟨T, x, z, h1, h2, h3, h4, h5⟩ := y
    exact ⟨T, x, z, h1, h2, h3, h4 xs q.1, h5 ys q.2⟩
end Nf

set_option Elab.async false
set_option linter.all false
set_option maxRecDepth 100000
set_option maxHeartbeats 4000000
namespace Nf
open PySem PySem.Spec PyProof.Rows L2

theorem compTurnN_mid (elt : Expr) (gens : List Comprehension) (d : Nat) (t0 i0 t1 i1 : Expr) (ifs0 ifs1 : List Expr) (scope : Scope) (pos : Pos) (it acc : Value) (env : Env)
    (h0 : gens[d]? = some ⟨t0, i0, ifs0, 0⟩) (h1 : gens[d + 1]? = some ⟨t1, i1, ifs1, 0⟩) :
    compTurn (.ListComp elt gens scope pos) d it acc env = (do
      standAt i0.pos
      match ← pyNext it with
      | none => pure (.done .next)
      | some v =>
        letOwnedTupleGo t0 it v
        assign t0 env v
        let mut ok := true
        for c in ifs0 do
          if ok then ok ← isTrue c env (eval c env)
        if ok then
          let x ← eval i1 env
          standAt i1.pos
          let x ← foldedSetIterable i1 env x
          let _ ← runOwn (.compStart (.ListComp elt gens scope pos) (d + 1) (← holding [x] (pyIter x)) acc env) env
        again (.compLoop (.ListComp elt gens scope pos) d it acc env)) := by
  unfold compTurn
  simp only [h0, h1]
  rfl
theorem compTurnN_last (elt : Expr) (gens : List Comprehension) (d : Nat) (t1 i1 : Expr) (ifs1 : List Expr) (scope : Scope) (pos : Pos) (it acc : Value) (env : Env)
    (h0 : gens[d]? = some ⟨t1, i1, ifs1, 0⟩) (h1 : gens[d + 1]? = none) :
    compTurn (.ListComp elt gens scope pos) d it acc env = (do
      standAt i1.pos
      match ← pyNext it with
      | none => pure (.done .next)
      | some v =>
        letOwnedTupleGo t1 it v
        assign t1 env v
        let mut ok := true
        for c in ifs1 do
          if ok then ok ← isTrue c env (eval c env)
        if ok then
          (do let _ ← call (.builtin "list.append") [acc, ← eval elt env])
        again (.compLoop (.ListComp elt gens scope pos) d it acc env)) := by
  unfold compTurn
  simp only [h0, h1]
  rfl

section
variable {prog : Program} {w : World} {A : Around} {R : Result → Shared → Prop} {s : Shared} {elt t0 i0 t1 i1 : Expr} {gens : List Comprehension} {d : Nat} {ifs0 ifs1 : List Expr} {scope : Scope} {pos : Pos} {it acc : Value} {env : Env}
theorem compLoopN_mid (h0 : gens[d]? = some ⟨t0, i0, ifs0, 0⟩) (h1 : gens[d + 1]? = some ⟨t1, i1, ifs1, 0⟩) (hs : ∀ x, foldedSetIterable i1 env x = pure x) (I : Nat → Shared → Prop)
    (turn : ∀ n s, I n s → wpAny (model prog w) A (pyNext it) (fun r s₁ => match r with
      | none => R (.ok .next) s₁
      | some v => wpAny (model prog w) A (letOwnedTupleGo t0 it v) (fun _ s₁' => wpAny (model prog w) A (assign t0 env v) (fun _ s₂ =>
          wpAny (model prog w) A (forIn ifs0 true fun c r => if r = true then do let ok ← isTrue c env (eval c env); pure (ForInStep.yield ok) else pure (ForInStep.yield r)) (fun ok s₃ =>
            if ok = true then wpAny (model prog w) A (eval i1 env) (fun x s₄ => wpAny (model prog w) A (pyIter x) (fun it1 s₅ =>
              codeAny (model prog w) A (.compStart (.ListComp elt gens scope pos) (d + 1) it1 acc env) (fun r s' => match r with
                | .ok _ => ∃ m, m < n ∧ I m s'
                | .error _ => False) s₅) (notedBy (model prog w) A env fun e s' => R (.error e) s') s₄) (notedBy (model prog w) A env fun e s' => R (.error e) s') s₃
            else ∃ m, m < n ∧ I m s₃) (notedBy (model prog w) A env fun e s' => R (.error e) s') s₂) (notedBy (model prog w) A env fun e s' => R (.error e) s') s₁') (notedBy (model prog w) A env fun e s' => R (.error e) s') s₁) (notedBy (model prog w) A env fun e s' => R (.error e) s') s)
    (n : Nat) (h : I n s) :
    codeAny (model prog w) A (.compLoop (.ListComp elt gens scope pos) d it acc env) R s := by
  refine codeAny_loop rfl I (fun n s hI => ?_) n h
  show wpAny _ A ((compTurn (.ListComp elt gens scope pos) d it acc env).onRaise (fun x => do noteFrame x env; theTreesLotGoes x)) _ _ s
  refine wpAny_noted ?_
  rw [compTurnN_mid elt gens d t0 i0 t1 i1 ifs0 ifs1 scope pos it acc env h0 h1]
  refine wpAny_bind (wpAny_standAt (wpAny_bind (wpAny_mono (turn n s hI) (fun r s₁ h₁ => ?_) fun _ _ h' => h')))
  cases r with
  | none => exact wpAny_pure h₁
  | some v =>
    refine wpAny_bind (wpAny_mono h₁ (fun _ s₁' h₁' => ?_) fun _ _ h' => h')
    refine wpAny_bind (wpAny_mono h₁' (fun _ s₂ h₂ => wpAny_bind (wpAny_mono h₂ (fun ok s₃ h₃ => ?_) fun _ _ h' => h')) fun _ _ h' => h')
    cases ok with
    | false => exact wpAny_pure ⟨rfl, h₃⟩
    | true =>
      refine wpAny_bind (wpAny_mono h₃ (fun x s₄ h₄ => ?_) fun _ _ h' => h')
      refine wpAny_bind (wpAny_standAt (wpAny_bind (wpAny_of_eq (hs x) (wpAny_bind (wpAny_holding (wpAny_mono h₄ (fun it1 s₅ h₅ => ?_) fun _ _ h' => h'))))))
      refine wpAny_bind (wpAny_runOwn ?_)
      rw [Around.mark_none]
      refine codeAny_mono h₅ fun r s' hr => ?_
      cases r with
      | ok f =>
        first
          | exact wpAny_pure ⟨rfl, hr⟩
          | exact wpAny_bind (wpAny_pure (wpAny_pure ⟨rfl, hr⟩))
      | error e => exact hr.elim
theorem compLoopN_last (h0 : gens[d]? = some ⟨t1, i1, ifs1, 0⟩) (h1 : gens[d + 1]? = none) (I : Nat → Shared → Prop)
    (turn : ∀ n s, I n s → wpAny (model prog w) A (pyNext it) (fun r s₁ => match r with
      | none => R (.ok .next) s₁
      | some v => wpAny (model prog w) A (letOwnedTupleGo t1 it v) (fun _ s₁' => wpAny (model prog w) A (assign t1 env v) (fun _ s₂ =>
          wpAny (model prog w) A (forIn ifs1 true fun c r => if r = true then do let ok ← isTrue c env (eval c env); pure (ForInStep.yield ok) else pure (ForInStep.yield r)) (fun ok s₃ =>
            if ok = true then wpAny (model prog w) A (eval elt env) (fun x s₄ =>
              wpAny (model prog w) A (call (.builtin "list.append") [acc, x]) (fun _ s₅ => ∃ m, m < n ∧ I m s₅) (notedBy (model prog w) A env fun e s' => R (.error e) s') s₄) (notedBy (model prog w) A env fun e s' => R (.error e) s') s₃
            else ∃ m, m < n ∧ I m s₃) (notedBy (model prog w) A env fun e s' => R (.error e) s') s₂) (notedBy (model prog w) A env fun e s' => R (.error e) s') s₁') (notedBy (model prog w) A env fun e s' => R (.error e) s') s₁) (notedBy (model prog w) A env fun e s' => R (.error e) s') s)
    (n : Nat) (h : I n s) :
    codeAny (model prog w) A (.compLoop (.ListComp elt gens scope pos) d it acc env) R s := by
  refine codeAny_loop rfl I (fun n s hI => ?_) n h
  show wpAny _ A ((compTurn (.ListComp elt gens scope pos) d it acc env).onRaise (fun x => do noteFrame x env; theTreesLotGoes x)) _ _ s
  refine wpAny_noted ?_
  rw [compTurnN_last elt gens d t1 i1 ifs1 scope pos it acc env h0 h1]
  refine wpAny_bind (wpAny_standAt (wpAny_bind (wpAny_mono (turn n s hI) (fun r s₁ h₁ => ?_) fun _ _ h' => h')))
  cases r with
  | none => exact wpAny_pure h₁
  | some v =>
    refine wpAny_bind (wpAny_mono h₁ (fun _ s₁' h₁' => ?_) fun _ _ h' => h')
    refine wpAny_bind (wpAny_mono h₁' (fun _ s₂ h₂ => wpAny_bind (wpAny_mono h₂ (fun ok s₃ h₃ => ?_) fun _ _ h' => h')) fun _ _ h' => h')
    cases ok with
    | false => exact wpAny_pure ⟨rfl, h₃⟩
    | true =>
      exact wpAny_bind (wpAny_bind (wpAny_mono h₃ (fun x s₄ h₄ => wpAny_bind (wpAny_mono h₄ (fun _ s₅ h₅ => wpAny_pure (wpAny_pure ⟨rfl, h₅⟩)) fun _ _ h' => h')) fun _ _ h' => h'))
theorem compStartN_ok (hg : gens[d]? = some ⟨t1, i1, ifs1, 0⟩) (h0 : codeAny (model prog w) A (.compLoop (.ListComp elt gens scope pos) d it acc env) R s)
    (h : wpAny (model prog w) A (pyIter it) (fun it' s' => codeAny (model prog w) A (.compLoop (.ListComp elt gens scope pos) d it' acc env) R s')
      (notedBy (model prog w) A env fun x s' => R (.error x) s') s) :
    codeAny (model prog w) A (.compStart (.ListComp elt gens scope pos) d it acc env) R s := by
  refine codeAny_of_tree ?_
  show wpAny _ _ ((compStart (.ListComp elt gens scope pos) d it acc env).onRaise (fun x => do noteFrame x env; standAt theWindowsPlace)) _ _ s
  refine wpAny_notedAt ?_
  have hc : (clausesOf (.ListComp elt gens scope pos))[d]? = some ⟨t1, i1, ifs1, 0⟩ := hg
  unfold compStart
  rw [hc]
  show wpAny _ _ (ask >>= _) _ _ s
  refine wpAny_bind (wpAny_askSetting (wpAny_ite ?_))
  split
  · first
      | exact wpAny_bind (wpAny_pure (wpAny_pure (And.intro rfl h0)))
      | exact wpAny_pure (And.intro rfl h0)
  · first
      | exact wpAny_bind (wpAny_rule (wpAny_bind (wpAny_standAt (wpAny_bind (wpAny_mono h (fun it' s' h' => wpAny_pure (And.intro rfl h')) fun _ _ x => x)))))
      | (refine wpAny_bind (wpAny_rule ?_); show wpAny _ _ (standAt i1.pos >>= _) _ _ s; exact wpAny_bind (wpAny_standAt (wpAny_bind (wpAny_mono h (fun it' s' h' => wpAny_pure (And.intro rfl h')) fun _ _ x => x))))
end
end Nf

set_option Elab.async false
set_option linter.all false
set_option maxRecDepth 100000
set_option maxHeartbeats 4000000
namespace Nf
open PySem PySem.Spec PyProof.Rows L2


/-! ### list comprehensions of any number of clauses -/
theorem thnX {X : Cx} {α : Type} {t : Sem α} {Q Q' : α → Shared → Prop} {M : Model} {A : Around} {E : Value → Shared → Prop} {s : Shared} (hx : X.xe = fun _ _ => False) (h : wpAny M A t Q X.xe s) (hQ : ∀ a s, Q a s → Q' a s) : wpAny M A t Q' E s :=
  wpAny_mono h hQ fun e s' z => by
    rw [hx] at z
    exact z.elim
/-- what a loop leaves of the slots: those that it does not store -/
def KeepS (vs : List Nat) (σ σ' : L2.St) : Prop := σ.length = σ'.length ∧ ∀ (j : Nat) v, (wipe σ vs)[j]? = some (some v) → σ'[j]? = some (some v)
/-- the loop of the clause at depth d, its iterator made: vs the slots that it and the later clauses store -/
structure PCl (Y : Cx) (elt : Expr) (gens : List Comprehension) (scope : Scope) (pos : Pos) (d : Nat) (tg : Expr) (vs : List Nat) (t : It → Addr → L2.St → Hp → (Hp → Prop) → Prop) : Prop where
  run : ∀ (pins : List (Addr × Obj)) (s : Shared) (σ : L2.St) (H : Hp) (D : Addr) (Nx : Hp → Prop) (it : Addr) (fp : List Addr) (tn : Nat → Heap → Prop) (J : It) (R : Result → Shared → Prop), Inv Y pins σ H s → Turn Y.prog Y.w Y.K tg J fp it tn → tn 0 s.heap →
    (∀ b ∈ fp, FpOk Y pins H b) → t J D σ H Nx → (∀ s' σ' H', Inv Y pins σ' H' s' → KeepS vs σ σ' → Nx H' → R (.ok .next) s') →
    codeAny (model Y.prog Y.w) Y.A (.compLoop (.ListComp elt gens scope pos) d (.ref it) (.ref D) Y.env) R s
/-- a loop's reading: body tells what a turn does behind the tests -/
def tCl (g : TG) (tt : TT) (vs : List Nat) (body : Addr → L2.St → Hp → (Hp → Prop) → Prop) : It → Addr → L2.St → Hp → (Hp → Prop) → Prop := fun J D σ H Nx => ∃ W : Nat → Nat → Hp → Prop, (∃ m, W 0 m H) ∧ ∀ i m H, W i m H →
  (J.stop i H ∧ Nx H) ∨ (J.go i H ∧ ∃ N : Hp → Prop, (∀ H', N H' → ∃ m', m' < m ∧ W (i + 1) m' H') ∧ ∀ x H', J.yld i H x H' → g x (wipe σ vs) H' fun σ2 H2 => wipe σ2 vs = wipe σ vs ∧ tt σ2 H2 fun b H3 =>
    if b = true then body D σ2 H3 N else N H3)
/-- the last clause's: the element is put to the list -/
def bLast (te : TE) : Addr → L2.St → Hp → (Hp → Prop) → Prop := fun D σ2 H3 N => te σ2 H3 fun y H4 => ∃ acc, H4 D = some (.lst acc) ∧ acc.length < sizeLine ∧ N (upd H4 D (.lst (acc ++ [y])))
/-- another clause's: the next one's loop -/
def bMid (wi : TI) (t : It → Addr → L2.St → Hp → (Hp → Prop) → Prop) : Addr → L2.St → Hp → (Hp → Prop) → Prop := fun D σ2 H3 N => wi σ2 H3 fun J1 H4 => t J1 D σ2 H4 N
variable {Y : Cx} {elt tg iter : Expr} {gens : List Comprehension} {scope : Scope} {pos : Pos} {d : Nat} {ifs : List Expr} {g : TG} {tt : TT} {te : TE} {vs : List Nat}
theorem pcl_last (hc : Y.calm = true) (hx : Y.xe = fun _ _ => False) (h0 : gens[d]? = some ⟨tg, iter, ifs, 0⟩) (h1 : gens[d + 1]? = none) (pg : PG Y tg g) (pt : PTs Y ifs tt) (pe : PE Y elt te) : PCl Y elt gens scope pos d tg vs (tCl g tt vs (bLast te)) := by
  refine ⟨fun pins s σ H D Nx it fp tn J R I T st f h hR => ?_⟩
  obtain ⟨W, ⟨m0, w0⟩, turn⟩ := h
  have stat : ∀ {H' : Hp}, (∀ b ∈ fp, H' b = none) → ∀ b ∈ fp, FpOk Y pins H' b := fun hn b hb => ⟨hn b hb, (f b hb).2⟩
  refine compLoopN_last h0 h1 (fun k s' => ∃ j H', Inv Y pins (wipe σ vs) H' s' ∧ tn j s'.heap ∧ (∀ b ∈ fp, H' b = none) ∧ W j k H') ?_ m0 ⟨0, H, I.weak (wipe_length _ _) (fun j v e => (wipe_some e).1), st, fun b hb => (f b hb).1, w0⟩
  rintro k s12 ⟨j, H12, I12, st12, n12, w12⟩
  rcases turn j k H12 w12 with ⟨stop1, nx1⟩ | ⟨go1, Nx1, hNx1, step1⟩
  · refine thnF (T.done Y rfl rfl rfl hc j _ s12 (wipe σ vs) H12 (fun _ _ => False) I12 (stat n12) st12 stop1) fun r s13 ⟨hr, I13⟩ => ?_
    subst hr
    exact hR _ _ _ I13 ⟨(wipe_length σ vs).symm, fun _ _ e => e⟩ nx1
  · refine thnF (T.item Y rfl rfl rfl hc j _ s12 (wipe σ vs) H12 (fun _ _ => False) I12 (stat n12) st12 go1) fun r s13 ⟨u1, hr, h13⟩ => ?_
    subst hr
    refine thnF h13 fun _ s14 ⟨x1, H14, I14, r14, y14, st14, n14⟩ => ?_
    have I14' := I14.pinned (stat n14) (T.obj _ _ st14)
    refine thnX hx (pg.run _ s14 (wipe σ vs) H14 x1 u1 _ I14' r14 (step1 x1 H14 y14)) fun _ s15 ⟨σ15, H15, I15, hw15, q15⟩ => ?_
    refine thnX hx (pt.run _ s15 σ15 H15 _ I15 q15) fun b1 s16 ⟨H16, I16, q16⟩ => ?_
    have fin1 : ∀ {s' : Shared} {H' : Hp}, Inv Y (pins ++ pinsAt fp s14.heap) σ15 H' s' → Nx1 H' → ∃ m, m < k ∧ ∃ j H', Inv Y pins (wipe σ vs) H' s' ∧ tn j s'.heap ∧ (∀ b ∈ fp, H' b = none) ∧ W j m H' := fun {s' H'} I' nx => by
      obtain ⟨m', hm, w'⟩ := hNx1 H' nx
      have pin' : ∀ b ∈ fp, ∀ o, s14.heap.get? b = some o → s'.heap.get? b = some o ∧ H' b = none := fun b hb o e =>
        let z := I'.pin (b, o) (List.mem_append_right _ (List.mem_append_right _ (mem_pinsAt hb e)))
        ⟨z.1, z.2.1⟩
      refine ⟨m', hm, j + 1, H', I'.unpinned.weak (by rw [← hw15, wipe_length]) (fun j v e => by rw [← hw15] at e; exact (wipe_some e).1), T.keep _ _ _ st14 fun b hb o e => (pin' b hb o e).1, fun b hb => ?_, w'⟩
      obtain ⟨o, e, _⟩ := T.obj _ _ st14 b hb
      exact (pin' b hb o e).2
    cases b1 with
    | false =>
      simp only [Bool.false_eq_true, if_false] at q16 ⊢
      exact fin1 I16 q16
    | true =>
      simp only [if_true] at q16 ⊢
      refine thnX hx (pe.run _ s16 σ15 H16 _ I16 q16) fun z s17 ⟨yv, H17, I17, r17, acc, hD17, hz17, nx⟩ => ?_
      exact app_ok (X := Y) I17 hD17 hz17 r17 fun s18 I18 => fin1 I18 nx
theorem pcl_mid {tg1 iter1 : Expr} {ifs1 : List Expr} {wi1 : TI} {vs1 : List Nat} {t1 : It → Addr → L2.St → Hp → (Hp → Prop) → Prop} (hc : Y.calm = true) (hx : Y.xe = fun _ _ => False) (h0 : gens[d]? = some ⟨tg, iter, ifs, 0⟩) (h1 : gens[d + 1]? = some ⟨tg1, iter1, ifs1, 0⟩) (hv : ∀ i ∈ vs1, i ∈ vs)
    (pg : PG Y tg g) (pt : PTs Y ifs tt) (pi1 : PI Y tg1 iter1 wi1) (hs1 : ∀ x, foldedSetIterable iter1 Y.env x = pure x) (pc : PCl Y elt gens scope pos (d + 1) tg1 vs1 t1) : PCl Y elt gens scope pos d tg vs (tCl g tt vs (bMid wi1 t1)) := by
  refine ⟨fun pins s σ H D Nx it fp tn J R I T st f h hR => ?_⟩
  obtain ⟨W, ⟨m0, w0⟩, turn⟩ := h
  have stat : ∀ {H' : Hp}, (∀ b ∈ fp, H' b = none) → ∀ b ∈ fp, FpOk Y pins H' b := fun hn b hb => ⟨hn b hb, (f b hb).2⟩
  refine compLoopN_mid h0 h1 hs1 (fun k s' => ∃ j H', Inv Y pins (wipe σ vs) H' s' ∧ tn j s'.heap ∧ (∀ b ∈ fp, H' b = none) ∧ W j k H') ?_ m0 ⟨0, H, I.weak (wipe_length _ _) (fun j v e => (wipe_some e).1), st, fun b hb => (f b hb).1, w0⟩
  rintro k s12 ⟨j, H12, I12, st12, n12, w12⟩
  rcases turn j k H12 w12 with ⟨stop1, nx1⟩ | ⟨go1, Nx1, hNx1, step1⟩
  · refine thnF (T.done Y rfl rfl rfl hc j _ s12 (wipe σ vs) H12 (fun _ _ => False) I12 (stat n12) st12 stop1) fun r s13 ⟨hr, I13⟩ => ?_
    subst hr
    exact hR _ _ _ I13 ⟨(wipe_length σ vs).symm, fun _ _ e => e⟩ nx1
  · refine thnF (T.item Y rfl rfl rfl hc j _ s12 (wipe σ vs) H12 (fun _ _ => False) I12 (stat n12) st12 go1) fun r s13 ⟨u1, hr, h13⟩ => ?_
    subst hr
    refine thnF h13 fun _ s14 ⟨x1, H14, I14, r14, y14, st14, n14⟩ => ?_
    have I14' := I14.pinned (stat n14) (T.obj _ _ st14)
    refine thnX hx (pg.run _ s14 (wipe σ vs) H14 x1 u1 _ I14' r14 (step1 x1 H14 y14)) fun _ s15 ⟨σ15, H15, I15, hw15, q15⟩ => ?_
    refine thnX hx (pt.run _ s15 σ15 H15 _ I15 q15) fun b1 s16 ⟨H16, I16, q16⟩ => ?_
    have fin1 : ∀ {σ9 : L2.St} {s' : Shared} {H' : Hp}, Inv Y (pins ++ pinsAt fp s14.heap) σ9 H' s' → (wipe σ vs).length = σ9.length → (∀ (j : Nat) v, (wipe σ vs)[j]? = some (some v) → σ9[j]? = some (some v)) → Nx1 H' →
        ∃ m, m < k ∧ ∃ j H', Inv Y pins (wipe σ vs) H' s' ∧ tn j s'.heap ∧ (∀ b ∈ fp, H' b = none) ∧ W j m H' := fun {σ9 s' H'} I' hl hk nx => by
      obtain ⟨m', hm, w'⟩ := hNx1 H' nx
      have pin' : ∀ b ∈ fp, ∀ o, s14.heap.get? b = some o → s'.heap.get? b = some o ∧ H' b = none := fun b hb o e =>
        let z := I'.pin (b, o) (List.mem_append_right _ (List.mem_append_right _ (mem_pinsAt hb e)))
        ⟨z.1, z.2.1⟩
      refine ⟨m', hm, j + 1, H', I'.unpinned.weak hl hk, T.keep _ _ _ st14 fun b hb o e => (pin' b hb o e).1, fun b hb => ?_, w'⟩
      obtain ⟨o, e, _⟩ := T.obj _ _ st14 b hb
      exact (pin' b hb o e).2
    have hl15 : (wipe σ vs).length = σ15.length := by rw [← hw15, wipe_length]
    cases b1 with
    | false =>
      simp only [Bool.false_eq_true, if_false] at q16 ⊢
      exact fin1 I16 hl15 (fun j v e => by rw [← hw15] at e; exact (wipe_some e).1) q16
    | true =>
      simp only [if_true] at q16 ⊢
      refine thnX hx (pi1.run _ s16 σ15 H16 _ I16 q16) fun xv s10 hxx => thnX hx hxx fun itv s11 h11 => ?_
      obtain ⟨it1, fp1, tn1, J1, H11, e1, I11, T1, st11, f11, q11⟩ := h11
      subst e1
      have loop1 : codeAny (model Y.prog Y.w) Y.A (.compLoop (.ListComp elt gens scope pos) (d + 1) (.ref it1) (.ref D) Y.env)
          (fun r s' => match r with
            | .ok _ => ∃ m, m < k ∧ ∃ j H', Inv Y pins (wipe σ vs) H' s' ∧ tn j s'.heap ∧ (∀ b ∈ fp, H' b = none) ∧ W j m H'
            | .error _ => False) s11 := by
        refine pc.run _ s11 σ15 H11 D Nx1 it1 fp1 tn1 J1 _ I11 T1 st11 f11 q11 fun s' σ' H' I' ks nx => ?_
        refine fin1 I' (hl15.trans ks.1) (fun j v e => ?_) nx
        refine ks.2 j v ?_
        rw [← hw15] at e
        obtain ⟨e1, e2⟩ := wipe_some e
        rw [wipe_out fun z => e2 (hv j z)]
        exact e1
      exact compStartN_ok h1 loop1 (T1.self Y.A 0 _ _ _ st11 loop1)
end Nf

set_option Elab.async false
set_option linter.all false
set_option maxRecDepth 100000
set_option maxHeartbeats 4000000
namespace Nf
open PySem PySem.Spec PyProof.Rows L2

variable {X : Cx}
/-- [elt for tg in iter .. for .. ..] -/
def tLcN (wi : TI) (t : It → Addr → L2.St → Hp → (Hp → Prop) → Prop) (vs : List Nat) : TE := fun σ H Q => wi σ H fun J H1 => ∀ D, H1 D = none → t J D (wipe σ vs) (upd H1 D (.lst [])) fun H2 => Q (.ref D) H2
theorem lcN_core {pins : List (Addr × Obj)} {s : Shared} {σ : L2.St} {H : Hp} {Q : VK} {elt tg iter : Expr} {ifs : List Expr} {rest : List Comprehension} {scope : Scope} {own : List (Str × Nat)} {pos pos' : Pos} {wi : TI} {t : It → Addr → L2.St → Hp → (Hp → Prop) → Prop} {use : Option (Value → Sem Unit)} {Qf : Value → Shared → Prop}
    (hc : X.calm = true) (hN : X.N.Nodup) (I : Inv X pins σ H s) (hi : PI X tg iter wi) (ok : BlkOk X.N X.env.scope scope own)
    (hp : ∀ (s : Shared) (H : Hp) (C : Addr) (cl : List (Str × Addr)) (fp : List Addr), PCl (X.blk s H scope (compEnvC scope cl C X.env) fp) elt (⟨tg, iter, ifs, 0⟩ :: rest) scope pos 0 tg (own.map (·.2)) t) (hs : ∀ x, foldedSetIterable iter X.env x = pure x)
    (h : tLcN wi t (own.map (·.2)) σ H Q)
    (hRR : ∀ D C s' m H', Inv X pins σ H' s' → Q (.ref D) H' → s'.heap.Ns C m → FpOk X pins H' C → compPost (model X.prog X.w) X.A X.xe use Qf (.ref D) C (.ok .next) s') :
    wpAny (model X.prog X.w) X.A (comprehension (.ListComp elt (⟨tg, iter, ifs, 0⟩ :: rest) scope pos) scope X.env pos' (newList []) false (eval iter X.env) use) Qf X.xe s := by
  have hfree : ∀ y ∈ scope.names, y.2 = .free → ∃ c, X.env.cells.lookup y.1 = some c := fun y hy e => by
    rcases ok.free y hy e with k | k
    · exact I.ok.has _ (.inl k)
    · exact I.ok.has _ (.inr k)
  refine wpAny_comprehension_free (use := use) rfl hs (closure_ok hfree) ok.kind (fun y hy e => by rw [ok.uniq y hy, e])
    (thn (hi.run pins s σ H _ I h) fun xv s1 hx => thn hx fun itv s2 h2 => ?_)
  obtain ⟨it, fp, tn, J, H2, e, I2, T, st2, f2, q⟩ := h2
  subst e
  refine wpAny_newObj_type (newEnv_comp ?_) (by show 0 ≤ sizeLine; decide)
  generalize hD : s2.heap.objs.size = D
  have hDn : H2 D = none := I2.hok.fresh (Nat.le_of_eq hD)
  have qt := q D hDn
  -- the new list
  generalize hs3 : ({ s2 with heap := s2.heap.push { cls := .type "list", data := .seq ([] : List Value).toArray } } : Shared) = s3
  have I3 : Inv X pins σ (upd H2 D (.lst [])) s3 := by
    rw [← hs3]
    refine I2.laid (t' := s2.toks) (fun b o e => Heap.get?_push_of_some _ e) (Nat.le_of_eq hD) ⟨Nat.zero_le _, [], 0, .nil, ?_⟩
    rw [← hD]
    exact Heap.get?_push_size _ rfl
  have h3 : s3.heap = s2.heap.push { cls := .type "list", data := .seq ([] : List Value).toArray } := by rw [← hs3]
  have sz : ∀ b ∈ fp, b < s2.heap.objs.size := fun b hb => by
    obtain ⟨o, e, _⟩ := T.obj _ _ st2 b hb
    exact Heap.lt_size e
  have f3 : ∀ b ∈ fp, FpOk X pins (upd H2 D (.lst [])) b ∧ b < s3.heap.objs.size := fun b hb => by
    have hlt := sz b hb
    refine ⟨⟨?_, (f2 b hb).2⟩, by rw [h3, Heap.size_push]; exact Nat.lt_succ_of_lt hlt⟩
    rw [upd_ne (by rw [← hD]; exact Nat.ne_of_lt hlt)]
    exact (f2 b hb).1
  have st3 : tn 0 s3.heap := T.keep _ _ _ st2 fun b _ o e => by rw [h3]; exact Heap.get?_push_of_some _ e
  have I4 := block_start I3 ok hN f3
  have pc := hp s3 (upd H2 D (.lst [])) s3.heap.objs.size (cellsFrom (s3.heap.objs.size + 1) scope.names (cloFrom X.env.cells scope.names [])) fp
  show codeAny _ _ (.compStart (.ListComp elt (⟨tg, iter, ifs, 0⟩ :: rest) scope pos) 0 (.ref it) (.ref D) (compEnvC scope (cellsFrom (s3.heap.objs.size + 1) scope.names (cloFrom X.env.cells scope.names [])) s3.heap.objs.size X.env)) (compPost (model X.prog X.w) X.A X.xe use Qf (.ref D) s3.heap.objs.size) { s3 with heap := pushCells (s3.heap.push { cls := .type "dict", data := .dict #[] }) scope.names }
  have nfp : ∀ b ∈ fp, (upd H2 D (.lst [])) b = none := fun b hb => (f3 b hb).1.1
  generalize hce : compEnvC scope (cellsFrom (s3.heap.objs.size + 1) scope.names (cloFrom X.env.cells scope.names [])) s3.heap.objs.size X.env = ce at I4 pc ⊢
  have cL : ce.locals = s3.heap.objs.size := by subst hce; rfl
  generalize hH3 : upd H2 D (.lst []) = H3 at I3 I4 pc nfp f3 qt
  generalize hs4 : ({ s3 with heap := pushCells (s3.heap.push { cls := .type "dict", data := .dict #[] }) scope.names } : Shared) = s4 at I4 ⊢
  have st4 : tn 0 s4.heap := T.keep _ _ _ st3 fun b _ o e => by rw [← hs4]; exact pushCells_keeps _ _ _ _ (Heap.get?_push_of_some _ e)
  have stat : ∀ b ∈ fp, FpOk (X.blk s3 H3 scope ce fp) [] H3 b := fun b hb =>
    ⟨nfp b hb, (I4.ok.exf b hb).1, I4.ok.exfs b hb, .inl hb, fun x c e => (I4.ok.exf b hb).2 x c e, fun p hp => absurd (show p ∈ ([] : List (Addr × Obj)) ++ [] from hp) (by simp)⟩
  have loop : codeAny (model X.prog X.w) X.A (.compLoop (.ListComp elt (⟨tg, iter, ifs, 0⟩ :: rest) scope pos) 0 (.ref it) (.ref D) ce) (compPost (model X.prog X.w) X.A X.xe use Qf (.ref D) s3.heap.objs.size) s4 := by
    refine pc.run [] s4 _ H3 D _ it fp tn J _ I4 T st4 stat qt fun s6 σ6 H6 I6 _ qq => ?_
    have I7 : Inv X pins σ H6 s6 := I3.call' (ch := fp) I6.os I6.base I6.hok I6.bare fun b hb => ⟨(f3 b hb).1.2.2.2.1, (f3 b hb).1.2.1, (f3 b hb).1.2.2.2.2.1, (f3 b hb).1.2.2.2.2.2⟩
    have nC : H6 s3.heap.objs.size = none := by
      have z : H6 ce.locals = none := I6.free
      rw [cL] at z
      exact z
    obtain ⟨m, hn, _⟩ := I6.loc
    have hn : s6.heap.Ns ce.locals m := hn
    rw [cL] at hn
    exact hRR D s3.heap.objs.size s6 m H6 I7 qq hn (I3.fpOk (Nat.le_refl _) nC)
  exact codeAny_compStart_list loop (T.self X.A 0 _ _ _ st4 loop)
/-- as a value -/
theorem pe_lcN {elt tg iter : Expr} {ifs : List Expr} {rest : List Comprehension} {scope : Scope} {own : List (Str × Nat)} {pos : Pos} {wi : TI} {t : It → Addr → L2.St → Hp → (Hp → Prop) → Prop} (hc : X.calm = true) (hN : X.N.Nodup) (hi : PI X tg iter wi) (ok : BlkOk X.N X.env.scope scope own)
    (hp : ∀ (s : Shared) (H : Hp) (C : Addr) (cl : List (Str × Addr)) (fp : List Addr), PCl (X.blk s H scope (compEnvC scope cl C X.env) fp) elt (⟨tg, iter, ifs, 0⟩ :: rest) scope pos 0 tg (own.map (·.2)) t) (hs : ∀ x, foldedSetIterable iter X.env x = pure x := by intro _; rfl) :
    PE X (.ListComp elt (⟨tg, iter, ifs, 0⟩ :: rest) scope pos) (tLcN wi t (own.map (·.2))) := by
  refine ⟨fun pins s σ H Q I h => ?_⟩
  rw [eval_ListComp]
  refine lcN_core hc hN I hi ok hp hs h fun D C s' m H' I' q hn f => ⟨m, hn, fun h'' sb => ?_⟩
  obtain ⟨f0, f1, f2, f3, f4, f5⟩ := f
  exact ⟨.ref D, H', I'.turned (t' := s'.toks) (fun b o hb e => (sb.2 b hb).trans e) f0 f1 f3 f4 f5, rfl, q⟩
/-- name = [..] -/
theorem ps_setLcN {i : Nat} {y : Str} {py : Pos} {elt tg iter : Expr} {ifs : List Expr} {rest : List Comprehension} {scope : Scope} {own : List (Str × Nat)} {pos spos : Pos} {wi : TI} {t : It → Addr → L2.St → Hp → (Hp → Prop) → Prop} (hc : X.calm = true) (hN : X.N.Nodup) (hy : X.N[i]? = some y) (hyl : X.env.scope.names.lookup y = some .local)
    (hsw : swapsWith (.ListComp elt (⟨tg, iter, ifs, 0⟩ :: rest) scope pos) (some (.Name y py)) spos.line X.env = pure true) (hi : PI X tg iter wi) (ok : BlkOk X.N X.env.scope scope own)
    (hp : ∀ (s : Shared) (H : Hp) (C : Addr) (cl : List (Str × Addr)) (fp : List Addr), PCl (X.blk s H scope (compEnvC scope cl C X.env) fp) elt (⟨tg, iter, ifs, 0⟩ :: rest) scope pos 0 tg (own.map (·.2)) t) (hs : ∀ x, foldedSetIterable iter X.env x = pure x := by intro _; rfl) :
    PS X (.Assign [.Name y py] (.ListComp elt (⟨tg, iter, ifs, 0⟩ :: rest) scope pos) spos) (tAsg (tLcN wi t (own.map (·.2))) (gName i)) := by
  refine ⟨fun pins s σ H D I h => ?_⟩
  rw [exec_Assign_Name_used _ _ _ _ hsw]
  refine wpAny_bind (wpAny_standAt (wpAny_bind ?_))
  show wpAny _ X.A (do let _ ← comprehension (.ListComp elt (⟨tg, iter, ifs, 0⟩ :: rest) scope pos) scope X.env (firstIterPos (⟨tg, iter, ifs, 0⟩ :: rest) pos) (newList []) false (eval iter X.env) (some (assign (.Name y py) X.env))) _ _ s
  have h : tLcN wi t (own.map (·.2)) σ H (fun x H1 => gName i x σ H1 D.nx) := h
  refine wpAny_bind (thn (lcN_core (Qf := fun _ s' => SP X pins D .next s') hc hN I hi ok hp hs h fun L C s' m H' I' q hn f => ?_) fun _ s' hq => wpAny_pure (wpAny_pure hq))
  show wpAny _ _ (assign (.Name y py) X.env (.ref L)) _ _ _
  refine wpAny_assign_Name (store_ok2 (v := V.ref L) I' hN hy (.inl hyl) rfl (fun s2 I2 ⟨a, sb, ha⟩ => ?_) (.inr hyl))
  obtain ⟨f0, f1, f2, f3, f4, f5⟩ := f
  have haC : C ≠ a := by
    rcases ha with z | z
    · rw [z]; exact f1
    · exact fun e => f4 y a z e.symm
  refine ⟨m, hn.sameBut sb haC, fun h3 sb3 => ?_⟩
  exact ⟨_, H', I2.turned (t' := s2.toks) (fun b o hb e => (sb3.2 b hb).trans e) f0 f1 f3 f4 f5, q⟩

/-- a clause's loop over a walk: Pv by the turn and the heap -/
theorem cl_it {J : It} {n : Nat} {G : Hp → Prop} {Yd : Nat → Hp → V → Hp → Prop} (w : Walk J n G Yd) {g : TG} {tt : TT} {vs : List Nat} {body : Addr → L2.St → Hp → (Hp → Prop) → Prop} {D : Addr} {σ : L2.St} {H : Hp} {Nx : Hp → Prop} (Pv : Nat → Hp → Prop) (h0 : Pv 0 H) (hG : ∀ i H, i ≤ n → Pv i H → G H)
    (hs : ∀ i x H H', i < n → Pv i H → Yd i H x H' → g x (wipe σ vs) H' fun σ2 H2 => wipe σ2 vs = wipe σ vs ∧ tt σ2 H2 fun b H3 => if b = true then body D σ2 H3 (Pv (i + 1)) else Pv (i + 1) H3) (hd : ∀ H, Pv n H → Nx H) :
    tCl g tt vs body J D σ H Nx := by
  refine ⟨fun i m H => m = n - i ∧ i ≤ n ∧ Pv i H, ⟨n, by simp, Nat.zero_le _, h0⟩, ?_⟩
  rintro i m H ⟨rfl, hi, p⟩
  have q := hG i H hi p
  by_cases hlt : i < n
  · exact .inr ⟨w.goes i H hlt q, Pv (i + 1), fun H' p' => ⟨n - (i + 1), by omega, rfl, hlt, p'⟩, fun x H' y => hs i x H H' hlt p (w.yields i H x H' hlt q y)⟩
  · have e : i = n := by omega
    subst e
    exact .inl ⟨w.stops H q, hd H p⟩
end Nf

set_option Elab.async false
set_option linter.all false
set_option maxRecDepth 100000
set_option maxHeartbeats 4000000
namespace Nf
open PySem PySem.Spec PyProof.Rows L2

/-! ### the built-ins that stand as they are -/
structure Blt (mg : Str → Option Value) : Prop where
  len : mg "len" = none
  all : mg "all" = none
  zip : mg "zip" = none
  set : mg "set" = none
  sorted : mg "sorted" = none
  enumerate : mg "enumerate" = none
  list : mg "list" = none
  tuple : mg "tuple" = none
  range : mg "range" = none
  isinstance : mg "isinstance" = none
  min : mg "min" = none
  max : mg "max" = none
  int : mg "int" = none
  bool : mg "bool" = none
  str : mg "str" = none

theorem two_le : 2 ≤ sizeLine := by decide
theorem five_le : 5 ≤ sizeLine := by decide
/-! ### heaps -/
/-- tuples stay -/
def SameT (H H' : Hp) : Prop := ∀ a xs, H a = some (.tup xs) → H' a = some (.tup xs)
theorem SameT.refl (H : Hp) : SameT H H := fun _ _ e => e
theorem SameT.trans {H H1 H2 : Hp} (a : SameT H H1) (b : SameT H1 H2) : SameT H H2 := fun _ _ e => b _ _ (a _ _ e)
theorem same_toT {H H' : Hp} (h : Same H H') : SameT H H' := fun a xs e => h a _ e
theorem same_new {H : Hp} {p : Addr} {o : HO} (h : H p = none) : Same H (upd H p o) := fun b x e => by
  rw [upd_ne (ne_of_none e h)]
  exact e
/-- what was not there before may change -/
theorem same_put {H H' : Hp} {p : Addr} {o : HO} (s : Same H H') (h : H p = none) : Same H (upd H' p o) := fun b x e => by
  rw [upd_ne (ne_of_none e h)]
  exact s _ _ e
theorem yesT {σ : L2.St} {H : Hp} {A B : Hp → Prop} (h : A H) : tYes σ H fun b H3 => if b = true then A H3 else B H3 := by
  show if true = true then A H else B H
  exact iteT h
/-- all but r stays -/
def Sx (r : Addr) (H H' : Hp) : Prop := ∀ b o, b ≠ r → H b = some o → H' b = some o
theorem Sx.refl (r : Addr) (H : Hp) : Sx r H H := fun _ _ _ e => e
theorem Sx.trans {r : Addr} {H H1 H2 : Hp} (a : Sx r H H1) (b : Sx r H1 H2) : Sx r H H2 := fun c o n e => b c o n (a c o n e)
theorem same_sx {r : Addr} {H H' : Hp} (h : Same H H') : Sx r H H' := fun b o _ e => h b o e
theorem Sx.upd {r : Addr} {H : Hp} {o : HO} : Sx r H (upd H r o) := fun b x n e => by
  rw [upd_ne n]
  exact e
theorem Sx.toT {r : Addr} {H H' : Hp} {xs : List V} (h : Sx r H H') (hr : H r = some (.lst xs)) : SameT H H' := fun a ys e => h a _ (ne_of e hr (by intro z; cases z)) e
theorem Sx.seq {K : PySem.W.Frag} {r a : Addr} {H H' : Hp} {xs : List V} (h : Sx r H H') (n : a ≠ r) (q : SqL K H a xs) : SqL K H' a xs := by
  rcases q with (q | ⟨o, q⟩) | q
  · exact .inl (.inl (h _ _ n q))
  · exact .inl (.inr ⟨o, h _ _ n q⟩)
  · exact .inr q

/-! ### the slots of a comprehension -/
theorem wipe_get {σ : L2.St} : ∀ {vs : List Nat} {j : Nat}, (wipe σ vs)[j]? = if j ∈ vs ∧ j < σ.length then some none else σ[j]?
  | [], j => by simp [wipe]
  | v :: vs, j => by
    unfold wipe
    by_cases h : v = j
    · subst h
      by_cases hl : v < σ.length
      · rw [List.getElem?_set_self (by rw [wipe_length]; exact hl), if_pos ⟨List.mem_cons_self, hl⟩]
      · rw [if_neg (fun z => hl z.2), List.getElem?_eq_none (by simp [wipe_length]; omega), List.getElem?_eq_none (by omega)]
    · rw [List.getElem?_set_ne h, wipe_get]
      have e : (j ∈ v :: vs ∧ j < σ.length) ↔ (j ∈ vs ∧ j < σ.length) := by
        simp only [List.mem_cons]
        constructor
        · rintro ⟨z | z, q⟩
          · exact absurd z.symm h
          · exact ⟨z, q⟩
        · rintro ⟨z, q⟩
          exact ⟨.inr z, q⟩
      simp only [e]
theorem wipe_eq {σ σ' : L2.St} {vs : List Nat} (hl : σ'.length = σ.length) (h : ∀ j, j ∉ vs → σ'[j]? = σ[j]?) : wipe σ' vs = wipe σ vs := by
  refine List.ext_getElem? fun j => ?_
  rw [wipe_get, wipe_get, hl]
  by_cases hj : j ∈ vs ∧ j < σ.length
  · rw [if_pos hj, if_pos hj]
  · rw [if_neg hj, if_neg hj]
    by_cases hm : j ∈ vs
    · have : ¬ j < σ.length := fun z => hj ⟨hm, z⟩
      rw [List.getElem?_eq_none (by omega), List.getElem?_eq_none (by omega)]
    · exact h j hm
theorem wipe_put {σ : L2.St} {vs : List Nat} {i : Nat} {x : Option V} (hi : i ∈ vs) : wipe ((wipe σ vs).set i x) vs = wipe σ vs := by
  refine wipe_eq (by rw [List.length_set, wipe_length]) fun j hj => ?_
  have ne : i ≠ j := by
    intro e
    exact hj (e ▸ hi)
  rw [List.getElem?_set_ne ne, wipe_get, if_neg fun z => hj z.1]
theorem wipe_put2 {σ : L2.St} {vs : List Nat} {i k : Nat} {x y : Option V} (hi : i ∈ vs) (hk : k ∈ vs) : wipe (((wipe σ vs).set i x).set k y) vs = wipe σ vs := by
  refine wipe_eq (by rw [List.length_set, List.length_set, wipe_length]) fun j hj => ?_
  have ne : i ≠ j := by
    intro e
    exact hj (e ▸ hi)
  have nk : k ≠ j := by
    intro e
    exact hj (e ▸ hk)
  rw [List.getElem?_set_ne nk, List.getElem?_set_ne ne, wipe_get, if_neg fun z => hj z.1]
/-! ### tables, rounds -/
def TabV (H : Hp) (x : V) (t : Tbl) : Prop := ∃ a, x = .ref a ∧ H a = some (.tup (t.map V.int))
def RndV (H : Hp) (x : V) (r : Rnd) : Prop := ∃ a xs, x = .ref a ∧ H a = some (.tup xs) ∧ Paired (TabV H) xs r
theorem TabV.mono {H H' : Hp} {x : V} {t : Tbl} (h : TabV H x t) (s : SameT H H') : TabV H' x t := by
  obtain ⟨a, e, q⟩ := h
  exact ⟨a, e, s _ _ q⟩
theorem paired_mono {α β : Type} {R R' : α → β → Prop} (f : ∀ a b, R a b → R' a b) : ∀ {xs : List α} {ys : List β}, Paired R xs ys → Paired R' xs ys
  | _, _, .nil => .nil
  | _, _, .cons r t => .cons (f _ _ r) (paired_mono f t)
theorem RndV.mono {H H' : Hp} {x : V} {r : Rnd} (h : RndV H x r) (s : SameT H H') : RndV H' x r := by
  obtain ⟨a, xs, e, q, p⟩ := h
  exact ⟨a, xs, e, s _ _ q, paired_mono (fun _ _ z => z.mono s) p⟩
def PairV (H : Hp) (x : V) (p : Int × Int) : Prop := ∃ a, x = .ref a ∧ H a = some (.tup [.int p.1, .int p.2])
theorem PairV.mono {H H' : Hp} {x : V} {t : Int × Int} (h : PairV H x t) (s : SameT H H') : PairV H' x t := by
  obtain ⟨a, e, q⟩ := h
  exact ⟨a, e, s _ _ q⟩
theorem paired_get {α β : Type} {R : α → β → Prop} : ∀ {xs : List α} {ys : List β} {i : Nat} {y : β}, Paired R xs ys → ys[i]? = some y → ∃ x, xs[i]? = some x ∧ R x y
  | _, _, i, y, .nil, e => by simp at e
  | _, _, 0, y, .cons r _, e => by
    have e' := Option.some.inj e
    subst e'
    exact ⟨_, rfl, r⟩
  | _, _, i + 1, y, .cons _ t, e => by
    obtain ⟨x, h1, h2⟩ := paired_get (i := i) (y := y) t (by simpa using e)
    exact ⟨x, by simpa using h1, h2⟩
theorem paired_getL {α β : Type} {R : α → β → Prop} : ∀ {xs : List α} {ys : List β} {i : Nat} {x : α}, Paired R xs ys → xs[i]? = some x → ∃ y, ys[i]? = some y ∧ R x y
  | _, _, i, y, .nil, e => by simp at e
  | _, _, 0, y, .cons r _, e => by
    have e' := Option.some.inj e
    subst e'
    exact ⟨_, rfl, r⟩
  | _, _, i + 1, y, .cons _ t, e => by
    obtain ⟨x, h1, h2⟩ := paired_getL (i := i) (x := y) t (by simpa using e)
    exact ⟨x, by simpa using h1, h2⟩
theorem paired_len {α β : Type} {R : α → β → Prop} : ∀ {xs : List α} {ys : List β}, Paired R xs ys → xs.length = ys.length
  | _, _, .nil => rfl
  | _, _, .cons _ t => by simp [paired_len t]
theorem paired_snoc {α β : Type} {R : α → β → Prop} {x : α} {y : β} : ∀ {xs : List α} {ys : List β}, Paired R xs ys → R x y → Paired R (xs ++ [x]) (ys ++ [y])
  | _, _, .nil, r => .cons r .nil
  | _, _, .cons q t, r => .cons q (paired_snoc t r)
theorem sqt_same {K : PySem.W.Frag} {H H' : Hp} {a : Addr} {xs : List V} (h : SqT K H a xs) (s : Same H H') : SqT K H' a xs := by
  rcases h with (h | ⟨o, h⟩) | h
  · exact .inl (.inl (s _ _ h))
  · exact .inl (.inr ⟨o, s _ _ h⟩)
  · exact .inr h
theorem getElem?_int {ns : List Int} {i : Nat} {x : V} (h : (ns.map V.int)[i]? = some x) : ∃ n, ns[i]? = some n ∧ x = .int n := by
  rw [List.getElem?_map] at h
  cases e : ns[i]? with
  | none =>
    rw [e] at h
    cases h
  | some n =>
    rw [e] at h
    exact ⟨n, rfl, (Option.some.inj h).symm⟩
theorem int_getElem? {ns : List Int} {i : Nat} {n : Int} (h : ns[i]? = some n) : (ns.map V.int)[i]? = some (.int n) := by
  rw [List.getElem?_map, h]
  rfl

/-! ### the script's row of draws -/
structure RowAt (K : PySem.W.Frag) (H : Hp) (r a : Addr) (ns : List Int) : Prop where
  sc : SqL K H a (ns.map V.int)
  ne : a ≠ r ∨ ∀ H2 : Hp, SqL K H2 a (ns.map V.int)
  row : ∃ i s c : Int, H r = some (.lst [.ref a, .int i, .int s, .int c]) ∧ 0 ≤ i ∧ 0 ≤ s ∧ s < 2147483647
theorem RowAt.keep {K : PySem.W.Frag} {H H' : Hp} {r a : Addr} {ns : List Int} (h : RowAt K H r a ns) (s : Same H H') : RowAt K H' r a ns := by
  obtain ⟨i, z, c, e, q⟩ := h.row
  exact ⟨s.seq h.sc, h.ne, i, z, c, s _ _ e, q⟩
/-- a row that was just laid -/
theorem RowAt.new {K : PySem.W.Frag} {H : Hp} {r a : Addr} {ns : List Int} (h : SqL K H a (ns.map V.int)) (n : H r = none) : RowAt K (upd H r (.lst [.ref a, .int 0, .int 0, .int 0])) r a ns := by
  refine ⟨(same_new n).seq h, ?_, 0, 0, 0, upd_same, by decide, by decide, by decide⟩
  rcases h with (h | ⟨o, h⟩) | h
  · exact .inl (ne_of_none h n)
  · exact .inl (ne_of_none h n)
  · exact .inr fun _ => .inr h
theorem RowAt.lst {K : PySem.W.Frag} {H : Hp} {r a : Addr} {ns : List Int} (h : RowAt K H r a ns) : ∃ xs, H r = some (.lst xs) := by
  obtain ⟨i, z, c, e, _⟩ := h.row
  exact ⟨_, e⟩
theorem RowAt.set {K : PySem.W.Frag} {H : Hp} {r a : Addr} {ns : List Int} (h : RowAt K H r a ns) {i s c : Int} (hi : 0 ≤ i) (h0 : 0 ≤ s) (h1 : s < 2147483647) : RowAt K (upd H r (.lst [.ref a, .int i, .int s, .int c])) r a ns :=
  ⟨h.ne.elim (fun n => Sx.upd.seq n h.sc) (fun z => z _), h.ne, i, s, c, upd_same, hi, h0, h1⟩
end Nf

set_option Elab.async false
set_option linter.all false
set_option maxRecDepth 100000
set_option maxHeartbeats 4000000
namespace Nf
open PySem PySem.Spec PyProof.Rows L2
/-! ### the text by places -/
def topS (i : Nat) : Stmt := PySem.Challenge.pw_newfaces_k08_whole_hosts_who_stay.main.body.getD i (.Pass ⟨0, 0, 0, 0⟩)
abbrev sWithHosts : Stmt := topS 6
abbrev sHosted : Stmt := topS 7
abbrev lTaken : Stmt := topS 9
abbrev lPairs : Stmt := topS 10
abbrev lKnown : Stmt := topS 11
abbrev lNew : Stmt := topS 12
abbrev lIsRound : Stmt := topS 13
abbrev lNone : Stmt := topS 14
abbrev lHosted : Stmt := topS 15
abbrev lLaw : Stmt := topS 16
end Nf

set_option Elab.async false
set_option linter.all false
set_option maxRecDepth 100000
set_option maxHeartbeats 4000000
namespace Nf
open PySem PySem.Spec PyProof.Rows L2
/-! ### what is known of pairs, in a dict; a verdict as a value -/
def KnownD (H : Hp) (d : Addr) (kn : Known) (N : Nat) : Prop := ∃ kvs : List (List Key × V), H d = some (.dT kvs) ∧ kvs.length ≤ N ∧ ∀ a b : Int, valV kvs [Sum.inl a, Sum.inl b] = (kn a b).map fun k => V.int (k : Nat)
theorem knownD_same {H H' : Hp} {d : Addr} {kn : Known} {N : Nat} (h : KnownD H d kn N) (s : Same H H') : KnownD H' d kn N := by
  obtain ⟨kvs, e, q⟩ := h
  exact ⟨kvs, s _ _ e, q⟩
theorem knownD_new {H : Hp} {d : Addr} (h : H d = some (.dT [])) : KnownD H d k0 0 := ⟨[], h, Nat.le_refl _, fun _ _ => rfl⟩
theorem key2_ne {a b x y : Int} : (([Sum.inl a, Sum.inl b] : List Key) = [Sum.inl x, Sum.inl y]) ↔ (a = x ∧ b = y) := by
  constructor
  · intro h
    injection h with h1 h2
    injection h2 with h2 _
    exact ⟨Sum.inl.inj h1, Sum.inl.inj h2⟩
  · rintro ⟨rfl, rfl⟩
    rfl
/-- d[(x, y)] = k -/
theorem knownD_put {H : Hp} {d T : Addr} {kn : Known} {N : Nat} {x y : Int} {l : List (Int × Int)} {k : Nat} (h : KnownD H d (kaddL kn l k) N) (hT : H T = some (.tup [.int x, .int y])) (hN : N < sizeLine) :
    ∃ kvs', DPut H d (.ref T) (.int (k : Nat)) (upd H d (.dT kvs')) ∧ KnownD (upd H d (.dT kvs')) d (kaddL kn (l ++ [(x, y)]) k) (N + 1) := by
  obtain ⟨kvs, e, hl, hv⟩ := h
  refine ⟨putK kvs [Sum.inl x, Sum.inl y] (.int (k : Nat)), DPut.t (k := [Sum.inl x, Sum.inl y]) e hT (by omega), _, upd_same, ?_, fun a b => ?_⟩
  · have := length_putK kvs [Sum.inl x, Sum.inl y] (.int (k : Nat))
    omega
  · rw [valV_put, kaddL_snoc, hv]
    by_cases h : a = x ∧ b = y
    · rw [if_pos h, if_pos (key2_ne.mpr h)]
      rfl
    · rw [if_neg h, if_neg (fun z => h (key2_ne.mp z))]
def VerdV (H : Hp) (x : V) : Verd → Prop
  | .good => x = .non
  | .rnd k => ∃ q, x = .ref q ∧ H q = some (.tup [.str "round", .int (k : Nat)])
  | .twice a b j k => ∃ q, x = .ref q ∧ H q = some (.tup [.str "twice", .int a, .int b, .int (j : Nat), .int (k : Nat)])
def PlanV (K : PySem.W.Frag) (H : Hp) (l : Addr) (rs : List Rnd) : Prop := ∃ xs, SqL K H l xs ∧ Paired (RndV H) xs rs
theorem planV_same {K : PySem.W.Frag} {H H' : Hp} {l : Addr} {rs : List Rnd} (h : PlanV K H l rs) (s : Same H H') : PlanV K H' l rs := by
  obtain ⟨xs, e, q⟩ := h
  exact ⟨xs, s.seq e, paired_mono (fun _ _ z => z.mono (same_toT s)) q⟩
structure Small (rs : List Rnd) : Prop where
  n : rs.length ≤ 1000
  r : ∀ r ∈ rs, r.length ≤ 100000
  t : ∀ r ∈ rs, ∀ t ∈ r, t.length ≤ 100000
end Nf

set_option Elab.async false
set_option linter.all false
set_option maxRecDepth 100000
set_option maxHeartbeats 4000000
namespace Nf
open PySem PySem.Spec PyProof.Rows L2
/-! ### tables and rounds as data -/
def dT (t : Tbl) : PyData := .tuple (t.map .int)
theorem eqvInts : ∀ {xs ys : List Int}, PyData.eqvAll (xs.map .int) (ys.map .int) = true ↔ xs = ys
  | [], [] => by simp [PyData.eqvAll]
  | [], _ :: _ => by simp [PyData.eqvAll]
  | _ :: _, [] => by simp [PyData.eqvAll]
  | x :: xs, y :: ys => by
    have ih := eqvInts (xs := xs) (ys := ys)
    simp only [List.map_cons, PyData.eqvAll, PyData.eqv, Bool.and_eq_true, ih, beq_iff_eq, List.cons.injEq]
theorem eqvTabs : ∀ {xs ys : List Tbl}, PyData.eqvAll (xs.map dT) (ys.map dT) = true ↔ xs = ys
  | [], [] => by simp [PyData.eqvAll]
  | [], _ :: _ => by simp [PyData.eqvAll]
  | _ :: _, [] => by simp [PyData.eqvAll]
  | x :: xs, y :: ys => by
    have ih := eqvTabs (xs := xs) (ys := ys)
    simp only [List.map_cons, PyData.eqvAll, dT, PyData.eqv, Bool.and_eq_true, eqvInts, List.cons.injEq]
    have ih : PyData.eqvAll (xs.map dT) (ys.map dT) = true ↔ xs = ys := ih
    exact and_congr Iff.rfl ih
theorem eqvRnds : ∀ {xs ys : List Rnd}, PyData.eqvAll (xs.map fun r => .tuple (r.map dT)) (ys.map fun r => .tuple (r.map dT)) = true ↔ xs = ys
  | [], [] => by simp [PyData.eqvAll]
  | [], _ :: _ => by simp [PyData.eqvAll]
  | _ :: _, [] => by simp [PyData.eqvAll]
  | x :: xs, y :: ys => by
    have ih := eqvRnds (xs := xs) (ys := ys)
    simp only [List.map_cons, PyData.eqvAll, PyData.eqv, Bool.and_eq_true, eqvTabs, List.cons.injEq, ih]
theorem layInts : ∀ xs : List Int, PyData.canLayAll0 (xs.map .int) = true
  | [] => rfl
  | x :: xs => by simp [PyData.canLayAll0, PyData.canLay0, layInts xs]
theorem layTabs : ∀ xs : List Tbl, PyData.canLayAll0 (xs.map dT) = true
  | [] => rfl
  | x :: xs => by simp [PyData.canLayAll0, PyData.canLay0, layTabs xs, dT, layInts]
theorem layRnds : ∀ xs : List Rnd, PyData.canLayAll0 (xs.map fun r => .tuple (r.map dT)) = true
  | [] => rfl
  | x :: xs => by simp [PyData.canLayAll0, PyData.canLay0, layRnds xs, layTabs]
theorem depInts (xs : List Int) : PyData.depthAll (xs.map .int) = 0 := PySem.W.depth_ints xs
theorem depT (t : Tbl) : (dT t).depth ≤ 1 := by
  unfold dT
  simp [PyData.depth, depInts]
theorem depTabs : ∀ xs : List Tbl, PyData.depthAll (xs.map dT) ≤ 1
  | [] => by simp [PyData.depthAll]
  | x :: xs => by
    have := depTabs xs
    have := depT x
    simp only [List.map_cons, PyData.depthAll]
    omega
theorem depRnds : ∀ xs : List Rnd, PyData.depthAll (xs.map fun r => .tuple (r.map dT)) ≤ 2
  | [] => by simp [PyData.depthAll]
  | x :: xs => by
    have := depRnds xs
    have := depTabs x
    simp only [List.map_cons, PyData.depthAll, PyData.depth]
    omega
theorem shInts (xs : List Int) : SeqAt.shaped (.list (xs.map .int)) = true := by
  have h := depInts xs
  have l := layInts xs
  unfold SeqAt.shaped
  rw [Bool.and_eq_true]
  refine ⟨by simp [PyData.canLay0, l], decide_eq_true ?_⟩
  simp only [PyData.depth]
  omega
theorem shIntsT (xs : List Int) : SeqAt.shaped (.tuple (xs.map .int)) = true := by
  have h := depInts xs
  have l := layInts xs
  unfold SeqAt.shaped
  rw [Bool.and_eq_true]
  refine ⟨by simp [PyData.canLay0, l], decide_eq_true ?_⟩
  simp only [PyData.depth]
  omega
theorem shTabs (xs : List Tbl) : SeqAt.shaped (.list (xs.map dT)) = true := by
  have h := depTabs xs
  have l := layTabs xs
  unfold SeqAt.shaped
  rw [Bool.and_eq_true]
  refine ⟨by simp [PyData.canLay0, l], decide_eq_true ?_⟩
  simp only [PyData.depth]
  omega
theorem shRnds (xs : List Rnd) : SeqAt.shaped (.list (xs.map fun r => .tuple (r.map dT))) = true := by
  have h := depRnds xs
  have l := layRnds xs
  unfold SeqAt.shaped
  rw [Bool.and_eq_true]
  refine ⟨by simp [PyData.canLay0, l], decide_eq_true ?_⟩
  simp only [PyData.depth]
  omega
section
variable {K : PySem.W.Frag} {H : Hp}
theorem dpAll_ints : ∀ ns : List Int, DpAll K H (ns.map V.int) (ns.map .int)
  | [] => .nil
  | n :: ns => .cons (.int n) (dpAll_ints ns)
theorem dp_tab {x : V} {t : Tbl} (h : TabV H x t) : Dp K H x (dT t) := by
  obtain ⟨a, rfl, e⟩ := h
  exact .tup (SqT.of e) (dpAll_ints t)
theorem dpAll_of {β : Type} {R : V → β → Prop} {enc : β → PyData} (f : ∀ x b, R x b → Dp K H x (enc b)) : ∀ {xs : List V} {bs : List β}, Paired R xs bs → DpAll K H xs (bs.map enc)
  | _, _, .nil => .nil
  | _, _, .cons r t => .cons (f _ _ r) (dpAll_of f t)
theorem dp_rnd {x : V} {r : Rnd} (h : RndV H x r) : Dp K H x (.tuple (r.map dT)) := by
  obtain ⟨a, xs, rfl, e, p⟩ := h
  exact .tup (SqT.of e) (dpAll_of (fun _ _ z => dp_tab z) p)
theorem dp_lst {β : Type} {R : V → β → Prop} {enc : β → PyData} (f : ∀ x b, R x b → Dp K H x (enc b)) {a : Addr} {xs : List V} {bs : List β} (h : SqL K H a xs) (p : Paired R xs bs) : Dp K H (.ref a) (.list (bs.map enc)) := .lst h (dpAll_of f p)
end
/-! ### sorted -/
theorem dataLe_ints : PySem.W.dataLe false (fun i : Int => PyData.int i) = leI := PySem.W.dataLe_int fun i => i
theorem dataLe_tabs : PySem.W.dataLe false dT = leT := by
  funext p q
  show (!PySem.W.dataLt (.tuple (q.map .int)) (.tuple (p.map .int))) = _
  rw [PySem.W.dataLt_tuple]
  show (!PySem.W.rowLt (q.map .int) (p.map .int)) = _
  rw [PySem.W.dataLt_ints]
  unfold leT
  by_cases h : q < p
  · have h' : ¬ p ≤ q := fun z => (List.not_lt.mpr z) h
    simp [h, h']
  · have h' : p ≤ q := List.not_lt.mp h
    simp [h, h']
theorem alikeTabs (rs : List Tbl) : PySem.W.AllAlike (rs.map dT) := PySem.W.AllAlike.of fun b b' => by
  show PySem.W.alike (.tuple _) (.tuple _) = true
  simp [PySem.W.alike, PySem.W.alike_ints]
theorem alikeInts (ns : List Int) : PySem.W.AllAlike (ns.map fun i : Int => PyData.int i) := PySem.W.AllAlike.of fun b b' => by simp [PySem.W.alike]
section
variable {K : PySem.W.Frag} {H : Hp} {Q : VK} {a : Addr}
theorem paired_ints : ∀ ns : List Int, Paired (fun x (n : Int) => x = V.int n) (ns.map V.int) ns
  | [] => .nil
  | n :: ns => .cons rfl (paired_ints ns)
theorem ints_paired : ∀ {xs : List V} {ns : List Int}, Paired (fun x (n : Int) => x = V.int n) xs ns → xs = ns.map V.int
  | _, _, .nil => rfl
  | _, _, .cons r t => by
    rw [r, ints_paired t]
    rfl
theorem sort_ints {ns : List Int} (hl : SqL K H a (ns.map V.int) ∨ SqT K H a (ns.map V.int)) (q : ∀ p, H p = none → Q (.ref p) (upd H p (.lst ((sortI ns).map V.int)))) : rSortD K (fun i : Int => PyData.int i) [.ref a] H Q := by
  refine ⟨a, ns.map V.int, ns, fun x n => x = V.int n, rfl, hl, paired_ints ns, fun x b h => h ▸ .int b, alikeInts ns, PySem.W.Sortable.others fun b => ⟨(fun e => nomatch e), fun xs e => nomatch e⟩, fun b _ => by simp [PyData.depth], fun ys p hy hn => ?_⟩
  rw [dataLe_ints] at hy
  rw [ints_paired hy]
  exact q p hn
theorem sort_tabs {xs : List V} {r : Rnd} (hl : SqL K H a xs ∨ SqT K H a xs) (hp : Paired (TabV H) xs r) (hn : ∀ t ∈ r, t ≠ []) (q : ∀ ys p, H p = none → Paired (TabV H) ys (sortT r) → Q (.ref p) (upd H p (.lst ys))) : rSortD K dT [.ref a] H Q := by
  refine ⟨a, xs, r, TabV H, rfl, hl, hp, fun x b h => dp_tab h, alikeTabs r, .inl fun d hd => ?_, fun b _ => Nat.le_trans (depT b) (by decide), fun ys p hy hn => ?_⟩
  · obtain ⟨t, ht, rfl⟩ := List.mem_map.mp hd
    cases t with
    | nil => exact absurd rfl (hn _ ht)
    | cons x t => exact ⟨_, _, rfl⟩
  · rw [dataLe_tabs] at hy
    exact q ys p hn hy
end
/-! ### what was not there before may change -/
theorem sx_put {r c : Addr} {H H4 : Hp} {o : HO} (s : Sx r H H4) (hc : H c = none) : Sx r H (upd H4 c o) := fun b x n e => by
  rw [upd_ne (ne_of_none e hc)]
  exact s b x n e
theorem row_put {K : PySem.W.Frag} {H H4 : Hp} {r a c : Addr} {ns : List Int} {o : HO} (R0 : RowAt K H r a ns) (hc : H c = none) (R4 : RowAt K H4 r a ns) : RowAt K (upd H4 c o) r a ns := by
  obtain ⟨i, z, x, e, q⟩ := R4.row
  obtain ⟨xr, hxr⟩ := R0.lst
  refine ⟨?_, R4.ne, i, z, x, by rw [upd_ne (ne_of_none hxr hc)]; exact e, q⟩
  have go : a ≠ c → SqL K (upd H4 c o) a (ns.map V.int) := fun n => by
    rcases R4.sc with (h | ⟨ob, h⟩) | h
    · exact .inl (.inl (by rw [upd_ne n]; exact h))
    · exact .inl (.inr ⟨ob, by rw [upd_ne n]; exact h⟩)
    · exact .inr h
  rcases R0.sc with (h | ⟨ob, h⟩) | h
  · exact go (ne_of_none h hc)
  · exact go (ne_of_none h hc)
  · exact .inr h
theorem perm_erase : ∀ {l : List Int} {i : Nat} (h : i < l.length), (l[i] :: l.eraseIdx i).Perm l
  | [], _, h => by simp at h
  | x :: l, 0, _ => .refl _
  | x :: l, i + 1, h => by
    have ih := perm_erase (l := l) (i := i) (by simpa using h)
    show (l[i]'(by simpa using h) :: x :: l.eraseIdx i).Perm (x :: l)
    exact (List.Perm.swap _ _ _).trans (ih.cons x)
end Nf

set_option Elab.async false
set_option linter.all false
set_option maxRecDepth 100000
set_option maxHeartbeats 4000000
namespace Nf
open PySem PySem.Spec PyProof.Rows L2
variable {P : Program} {w : World} {K : PySem.W.Frag} {mg : Str → Option Value} {base : Heap}
theorem scTaken : FnScope ["_law_row", "_law_many", "_law_found", "_law_cell"] ["_law_row", "_law_many"] (defScope lTaken) := ⟨rfl, rfl, rfl, by decide +kernel, rfl, by decide +kernel, by decide +kernel⟩
def spTaken (K : PySem.W.Frag) : Sp := fun vs H Q _ => ∃ (r a : Addr) (ns : List Int) (n : Int), vs = [.ref r, .int n] ∧ RowAt K H r a ns ∧ 0 < n ∧ n < 1073741824 ∧
  ∀ v H', 0 ≤ v → v < n → RowAt K H' r a ns → Sx r H H' → Q (.int v) H'
theorem ok_taken {f : Addr} {fd : FuncData} (F : Fun K "_law_taken" "_law_taken" lTaken f fd) (B : Blt mg) : FnOk P w K mg base CX0 1 f fd ["_law_row", "_law_many"] (spTaken K) := by
  refine F.ok scTaken (fun vs H Q E h => ?_) (fun cdv A outer s H vs Q E hr h => ?_)
  · obtain ⟨r, a, ns, n, rfl, _⟩ := h
    rfl
  · obtain ⟨r, a, ns, n, rfl, hR, hn0, hn1, q⟩ := h
    refine ⟨_, pss_cons (ps_if (pt_cmpR op_gt (pe_ix ix_list (pv 0) pe_int (fun _ _ => rfl)) pe_int (nomark _))
        (pss_cons (ps_set (i := 2) scTaken.nd rfl (.inl rfl) (pe_op op_mod (pe_ix ix_list (pv 0) pe_int (fun _ _ => rfl)) (pv 1)))
        (pss_cons (ps_asg (pe_op op_fdiv (pe_ix ix_list (pv 0) pe_int (fun _ _ => rfl)) (pv 1)) (pg_sub (pv 0) pe_int set_list))
        (pss_one (ps_ret (pv 2))))) pss_nil)
      (pss_cons (ps_asg (pe_op op_add (pe_ix ix_list (pv 0) pe_int (fun _ _ => rfl)) pe_int) (pg_sub (pv 0) pe_int set_list))
      (pss_cons (ps_if (pt_cmpR op_gt (pe_ix ix_list (pv 0) pe_int (fun _ _ => rfl)) (pe_callB call_len_seq (by rfl) B.len PySem.boot_len (pa_cons (pe_ix ix_list (pv 0) pe_int (fun _ _ => rfl)) pa_nil)) (nomark _))
        (pss_cons (ps_asg (pe_op op_mod (pe_op op_add (pe_op op_mul (pe_ix ix_list (pv 0) pe_int (fun _ _ => rfl)) pe_int) pe_int) pe_int) (pg_sub (pv 0) pe_int set_list))
        (pss_one (ps_ret (pe_op op_mod (pe_op op_fdiv (pe_ix ix_list (pv 0) pe_int (fun _ _ => rfl)) pe_int) (pv 1))))) pss_nil)
      (pss_cons (ps_set (i := 3) scTaken.nd rfl (.inl rfl) (pe_ix ix_list (pe_ix ix_list (pv 0) pe_int (fun _ _ => rfl)) (pe_op op_sub (pe_ix ix_list (pv 0) pe_int (fun _ _ => rfl)) pe_int) (fun _ _ => rfl)))
      (pss_cons (ps_asg (pe_op op_mod (pe_op op_add (pe_op op_add (pe_op op_mul (pe_ix ix_list (pv 0) pe_int (fun _ _ => rfl)) pe_int) (pv 3)) pe_int) pe_int) (pg_sub (pv 0) pe_int set_list))
      (pss_cons (ps_asg (pe_ifExp (pt_cmpR op_ge (pv 3) (pe_op op_pow pe_int pe_int) (nomark _)) (pe_op op_fdiv (pv 3) (pv 1)) pe_int) (pg_sub (pv 0) pe_int set_list))
      (pss_one (ps_ret (pe_op op_mod (pv 3) (pv 1))))))))), ?_⟩
    obtain ⟨i, z, c, hrow, hi0, hz0, hz1⟩ := hR.row
    have hS : SqL K H r [.ref a, .int i, .int z, .int c] := SqL.of hrow
    -- row[3] > 0
    refine ⟨.ref r, rfl, r, _, 3, _, rfl, rfl, hS, rfl, _, _, rfl, rfl, _, rfl, ite2 (fun hc => ?_) (fun hc => ?_)⟩
    · refine ⟨.ref r, rfl, r, _, 3, _, rfl, rfl, hS, rfl, .int n, rfl, _, _, rfl, rfl, hn0, ?_⟩
      refine ⟨.ref r, rfl, r, _, 3, _, rfl, rfl, hS, rfl, .int n, rfl, _, _, rfl, rfl, ⟨hn0, hn1⟩, ?_⟩
      refine ⟨.ref r, rfl, r, _, 3, 3, rfl, rfl, hrow, rfl, ?_⟩
      refine ⟨_, rfl, ?_⟩
      exact q _ _ (Int.emod_nonneg _ (by omega)) (Int.emod_lt_of_pos _ hn0) (hR.set hi0 hz0 hz1) Sx.upd
    · -- row[1] = row[1] + 1
      refine ⟨.ref r, rfl, r, _, 1, _, rfl, rfl, hS, rfl, _, _, rfl, rfl, .ref r, rfl, r, _, 1, 1, rfl, rfl, hrow, rfl, ?_⟩
      have R1 : RowAt K (upd H r (.lst [.ref a, .int (i + 1), .int z, .int c])) r a ns := hR.set (by omega) hz0 hz1
      have S1 : SqL K (upd H r (.lst [.ref a, .int (i + 1), .int z, .int c])) r [.ref a, .int (i + 1), .int z, .int c] := SqL.of upd_same
      -- row[1] > len(row[0])
      refine ⟨.ref r, rfl, r, _, 1, _, rfl, rfl, S1, rfl, .ref r, rfl, r, _, 0, _, rfl, rfl, S1, rfl, a, _, rfl, .inl R1.sc, _, _, rfl, rfl, _, rfl, ite2 (fun hl => ?_) (fun hl => ?_)⟩
      · refine ⟨.ref r, rfl, r, _, 2, _, rfl, rfl, S1, rfl, _, _, rfl, rfl, .inl ⟨by omega, by omega⟩, _, _, rfl, rfl, _, _, rfl, rfl, (by show (0 : Int) < 2147483647; decide), ?_⟩
        refine ⟨.ref r, rfl, r, _, 2, 2, rfl, rfl, upd_same, rfl, ?_⟩
        refine ⟨.ref r, rfl, r, _, 2, _, rfl, rfl, SqL.of upd_same, rfl, _, _, rfl, rfl, ⟨by decide, by decide⟩, .int n, rfl, _, _, rfl, rfl, hn0, ?_⟩
        rw [upd_upd]
        exact q _ _ (Int.emod_nonneg _ (by omega)) (Int.emod_lt_of_pos _ hn0) (hR.set (by omega) (Int.emod_nonneg _ (by decide)) (Int.emod_lt_of_pos _ (by decide))) Sx.upd
      · have hlt : i.toNat < ns.length := by
          have h2 : ¬ ((((ns.map V.int).length : Nat) : Int) < i + 1) := fun z => hl (decide_eq_true z)
          rw [List.length_map] at h2
          omega
        refine ⟨.ref r, rfl, r, _, 0, _, rfl, rfl, S1, rfl, .ref r, rfl, r, _, 1, _, rfl, rfl, S1, rfl, _, _, rfl, rfl, a, _, _, .int ns[i.toNat], rfl, rfl, R1.sc, ?_, ?_⟩
        · have e : i + 1 - 1 = ((i.toNat : Nat) : Int) := by omega
          rw [e]
          exact atI_nat (int_getElem? (List.getElem?_eq_getElem hlt))
        -- row[2] = ..
        refine ⟨.ref r, rfl, r, _, 2, _, rfl, rfl, S1, rfl, _, _, rfl, rfl, .inl ⟨by omega, by omega⟩, .int ns[i.toNat], rfl, _, _, rfl, rfl, _, _, rfl, rfl, _, _, rfl, rfl, (by show (0 : Int) < 2147483647; decide), ?_⟩
        refine ⟨.ref r, rfl, r, _, 2, 2, rfl, rfl, upd_same, rfl, ?_⟩
        rw [upd_upd]
        -- row[3] = ..
        refine ⟨.int ns[i.toNat], rfl, _, _, rfl, rfl, ⟨by decide, by decide, by decide⟩, _, _, rfl, rfl, _, rfl, ite2 (fun hb => ?_) (fun hb => ?_)⟩
        · refine ⟨.int ns[i.toNat], rfl, .int n, rfl, _, _, rfl, rfl, ⟨hn0, hn1⟩, .ref r, rfl, r, _, 3, 3, rfl, rfl, upd_same, rfl, ?_⟩
          refine ⟨.int ns[i.toNat], rfl, .int n, rfl, _, _, rfl, rfl, hn0, ?_⟩
          rw [upd_upd]
          exact q _ _ (Int.emod_nonneg _ (by omega)) (Int.emod_lt_of_pos _ hn0) (hR.set (by omega) (Int.emod_nonneg _ (by decide)) (Int.emod_lt_of_pos _ (by decide))) Sx.upd
        · refine ⟨.ref r, rfl, r, _, 3, 3, rfl, rfl, upd_same, rfl, ?_⟩
          refine ⟨.int ns[i.toNat], rfl, .int n, rfl, _, _, rfl, rfl, hn0, ?_⟩
          rw [upd_upd]
          exact q _ _ (Int.emod_nonneg _ (by omega)) (Int.emod_lt_of_pos _ hn0) (hR.set (by omega) (Int.emod_nonneg _ (by decide)) (Int.emod_lt_of_pos _ (by decide))) Sx.upd
end Nf

set_option Elab.async false
set_option linter.all false
set_option maxRecDepth 100000
set_option maxHeartbeats 4000000
namespace Nf
open PySem PySem.Spec PyProof.Rows L2
variable {P : Program} {w : World} {K : PySem.W.Frag} {mg : Str → Option Value} {base : Heap}
/-! ### rises -/
theorem cut1 (xs : List V) : cutV xs (some 1) none = xs.drop 1 := by
  unfold cutV
  rw [show HT.sIx xs.length 0 (some 1) = min 1 xs.length from HT.sIx_nat xs.length 0 1, HT.sIx_none]
  cases xs with
  | nil => rfl
  | cons x r =>
    rw [show min 1 (x :: r).length = 1 by
      rw [List.length_cons]
      omega]
    show (List.take ((x :: r).length - 1) r) = r
    rw [List.length_cons, Nat.add_sub_cancel]
    exact List.take_length
def upB (ns : Tbl) : List Bool := (ns.zip (ns.drop 1)).map fun p => decide (p.1 < p.2)
theorem upB_rises (ns : Tbl) : (upB ns).all id = rises ns := by
  unfold upB rises
  rw [List.all_map]
  rfl
theorem upB_len (ns : Tbl) : (upB ns).length = min (ns.map V.int).length ((ns.map V.int).drop 1).length := by
  simp [upB]
theorem upB_at {ns : Tbl} {i : Nat} {x y : Int} (h1 : ns[i]? = some x) (h2 : (ns.drop 1)[i]? = some y) : (upB ns)[i]? = some (decide (x < y)) := by
  unfold upB
  rw [List.getElem?_map, List.getElem?_zip_eq_some (z := (x, y)) |>.mpr ⟨h1, h2⟩]
  rfl
def spRises (K : PySem.W.Frag) : Sp := fun vs H Q _ => ∃ (a : Addr) (ns : List Int), vs = [.ref a] ∧ (SqL K H a (ns.map V.int) ∨ SqT K H a (ns.map V.int)) ∧ ns.length ≤ 100000 ∧ ∀ H', Same H H' → Q (.bl (rises ns)) H'
end Nf

set_option Elab.async false
set_option linter.all false
set_option maxRecDepth 100000
set_option maxHeartbeats 4000000
namespace Nf
open PySem PySem.Spec PyProof.Rows L2
variable {P : Program} {w : World} {K : PySem.W.Frag} {mg : Str → Option Value} {base : Heap}
/-! ### pairs -/
theorem cutFrom (xs : List V) (j : Nat) : cutV xs (some ((j : Nat) : Int)) none = xs.drop j := by
  unfold cutV
  rw [HT.sIx_nat xs.length 0 j, HT.sIx_none]
  by_cases h : j ≤ xs.length
  · rw [Nat.min_eq_left h]
    exact List.take_of_length_le (by simp)
  · rw [Nat.min_eq_right (by omega), List.drop_of_length_le (Nat.le_refl _), List.drop_of_length_le (by omega)]
    simp
/-- so far: the list at D holds ps, the rest is to come -/
def PrI (H : Hp) (D : Addr) (r : Rnd) (H2 : Hp) (rem : List (Int × Int)) : Prop := Same H H2 ∧ ∃ acc ps, H2 D = some (.lst acc) ∧ Paired (PairV H2) acc ps ∧ ps ++ rem = pairsR r
theorem PrI.keep {H H2 H3 : Hp} {D : Addr} {r : Rnd} {rem : List (Int × Int)} (h : PrI H D r H2 rem) (s : Same H2 H3) : PrI H D r H3 rem := by
  obtain ⟨h1, acc, ps, h2, h3, h4⟩ := h
  exact ⟨h1.trans s, acc, ps, s _ _ h2, paired_mono (fun _ _ z => z.mono (same_toT s)) h3, h4⟩
theorem PrI.rem {H H2 : Hp} {D : Addr} {r : Rnd} {rem rem' : List (Int × Int)} (h : PrI H D r H2 rem) (e : rem = rem') : PrI H D r H2 rem' := e ▸ h
theorem dataLe_pairs : PySem.W.dataLe false (fun p : Int × Int => PyData.tuple [.int p.1, .int p.2]) = leP := PySem.W.dataLe_ii (fun p : Int × Int => p.1) (fun p => p.2)
theorem dp_pair {H : Hp} {x : V} {p : Int × Int} (h : PairV H x p) : Dp K H x (.tuple [.int p.1, .int p.2]) := by
  obtain ⟨a, rfl, e⟩ := h
  exact .tup (SqT.of e) (.cons (.int _) (.cons (.int _) .nil))
theorem sort_pairs {H : Hp} {Q : VK} {a : Addr} {acc : List V} {ps : List (Int × Int)} (hl : H a = some (.lst acc)) (hp : Paired (PairV H) acc ps) (q : ∀ ys p, H p = none → Paired (PairV H) ys (sortP ps) → Q (.ref p) (upd H p (.lst ys))) :
    rSortD K (fun p : Int × Int => PyData.tuple [.int p.1, .int p.2]) [.ref a] H Q := by
  refine ⟨a, acc, ps, PairV H, rfl, .inl (SqL.of hl), hp, fun x b h => dp_pair h, PySem.W.AllAlike.of fun b b' => by simp [PySem.W.alike, PySem.W.alikeAll], PySem.W.Sortable.tuples fun b => ⟨_, _, rfl⟩, fun b _ => by simp [PyData.depth, PyData.depthAll], fun ys p hy hn => ?_⟩
  rw [dataLe_pairs] at hy
  exact q ys p hn hy
def spPairs : Sp := fun vs H Q _ => ∃ (x : V) (r : Rnd), vs = [x] ∧ RndV H x r ∧ (pairsR r).length ≤ 100000 ∧
  ∀ H' q ys, Same H H' → H q = none → H' q = some (.lst ys) → Paired (PairV H') ys (sortP (pairsR r)) → Q (.ref q) H'
end Nf

set_option Elab.async false
set_option linter.all false
set_option maxRecDepth 100000
set_option maxHeartbeats 4000000
namespace Nf
open PySem PySem.Spec PyProof.Rows L2
variable {P : Program} {w : World} {K : PySem.W.Frag} {mg : Str → Option Value} {base : Heap}
/-! ### the class of parties -/
theorem ms_ : ¬ (("many" : Str) = "seats") := by decide +kernel
def pf (g s : Int) : List (Str × V) := putF "seats" (.int s) (putF "many" (.int g) [])
theorem pf_many (g s : Int) : (pf g s).lookup ("many" : Str) = some (.int g) := by
  unfold pf
  rw [lookup_putF, if_neg ms_, lookup_putF, if_pos rfl]
theorem pf_seats (g s : Int) : (pf g s).lookup ("seats" : Str) = some (.int s) := by
  unfold pf
  rw [lookup_putF, if_pos rfl]
theorem pf_no (g s : Int) {m : Str} (h1 : ¬ m = "seats") (h2 : ¬ m = "many") : (pf g s).lookup m = none := by
  unfold pf
  rw [lookup_putF, if_neg h1, lookup_putF, if_neg h2]
  all_goals rfl
def PartyV (C : Addr) (H : Hp) (p : Addr) (g s : Int) : Prop := ∃ dx, H p = some (.ins C dx (pf g s))
theorem PartyV.same {C : Addr} {H H' : Hp} {p : Addr} {g s : Int} (h : PartyV C H p g s) (z : Same H H') : PartyV C H' p g s := by
  obtain ⟨dx, e⟩ := h
  exact ⟨dx, z _ _ e⟩
structure Txt (K : PySem.W.Frag) (mg : Str → Option Value) (C : Addr) : Prop where
  cl : Cls K C
  nM : NoAttr K C "many"
  nS : NoAttr K C "seats"
  mgC : mg "Party" = some (.ref C)
  fg : ∃ t, mg "FEWEST_GUESTS" = some (.int 2 t)
  mo : ∃ t, mg "MOST_GUESTS" = some (.int 64 t)
  ss : ∃ t, mg "SMALLEST_SIZE" = some (.int 2 t)
  ls : ∃ t, mg "LARGEST_SIZE" = some (.int 8 t)
def spGuests (C : Addr) : Sp := fun vs H Q _ => ∃ (p : Addr) (g s : Int), vs = [.ref p] ∧ PartyV C H p g s ∧ Q (.int g) H
def spSize (C : Addr) : Sp := fun vs H Q _ => ∃ (p : Addr) (g s : Int), vs = [.ref p] ∧ PartyV C H p g s ∧ Q (.int s) H
def spTables (C : Addr) : Sp := fun vs H Q _ => ∃ (p : Addr) (g s : Int), vs = [.ref p] ∧ PartyV C H p g s ∧ 0 < s ∧ s < 1073741824 ∧ Q (.int (g / s)) H
/-- a party's bounds -/
structure IsParty (g s : Int) : Prop where
  g2 : 2 ≤ g
  g64 : g ≤ 64
  s2 : 2 ≤ s
  s8 : s ≤ 8
  dv : g % s = 0
def spIsParty : Sp := fun vs H Q _ => ∃ (g s : Int), vs = [.int g, .int s] ∧ ∀ b, (b = true ↔ IsParty g s) → Q (.bl b) H
def spInit (C : Addr) : Sp := fun vs H Q _ => ∃ (p dx : Addr) (g s : Int), vs = [.ref p, .int g, .int s] ∧ H p = some (.ins C dx []) ∧ IsParty g s ∧ Q .non (upd H p (.ins C dx (pf g s)))
end Nf

set_option Elab.async false
set_option linter.all false
set_option maxRecDepth 100000
set_option maxHeartbeats 4000000
namespace Nf
open PySem PySem.Spec PyProof.Rows L2
variable {P : Program} {w : World} {K : PySem.W.Frag} {mg : Str → Option Value} {base : Heap}
/-! ### few, many -/
/-- a display's row of written pairs -/
def pairsA : List (Int × Int) → TA
  | [] => tNil
  | p :: ps => tCons (tTup (tCons (tC (.int p.1)) (tCons (tC (.int p.2)) tNil))) (pairsA ps)
theorem pairsA_ok {σ : L2.St} : ∀ (ps : List (Int × Int)) {H : Hp} {Q : List V → Hp → Prop}, (∀ vs H', Same H H' → Paired (PairV H') vs ps → Q vs H') → pairsA ps σ H Q
  | [], H, Q, h => h [] H (Same.refl H) .nil
  | p :: ps, H, Q, h => by
    refine ⟨two_le, fun T nT => ?_⟩
    refine pairsA_ok ps fun vs H' s hv => ?_
    exact h _ H' ((same_new nT).trans s) (.cons ⟨T, rfl, s _ _ upd_same⟩ hv)
theorem lst_pairs {σ : L2.St} (ps : List (Int × Int)) {H : Hp} {Q : VK} (hl : ps.length ≤ sizeLine) (h : ∀ vs H' l, Same H H' → Paired (PairV H') vs ps → H' l = none → Q (.ref l) (upd H' l (.lst vs))) : tLst (pairsA ps) σ H Q := by
  refine pairsA_ok ps fun vs H' s hv => ⟨?_, fun l nl => h vs H' l s hv nl⟩
  rw [paired_len hv]
  exact hl
def fewL : List (Int × Int) := [(6, 2), (8, 2), (9, 3), (4, 2), (6, 3), (8, 4), (8, 2), (9, 3), (2, 2), (3, 3), (4, 4), (7, 7)]
theorem few_ok : ∀ p ∈ fewL, IsParty p.1 p.2 ∧ p.1 ≤ 9 := by
  intro p hp
  simp only [fewL, List.mem_cons, List.not_mem_nil, or_false] at hp
  rcases hp with h | h | h | h | h | h | h | h | h | h | h | h <;> (subst h; exact ⟨⟨by decide, by decide, by decide, by decide, by decide⟩, by decide⟩)
def spFew (K : PySem.W.Frag) : Sp := fun vs H Q _ => ∃ (r a : Addr) (ns : List Int), vs = [.ref r] ∧ RowAt K H r a ns ∧ ∀ x H' g s, RowAt K H' r a ns → Sx r H H' → PairV H' x (g, s) → IsParty g s → g ≤ 9 → Q x H'
def spMany (K : PySem.W.Frag) : Sp := fun vs H Q _ => ∃ (r a : Addr) (ns : List Int), vs = [.ref r] ∧ RowAt K H r a ns ∧ ∀ x H' g s, RowAt K H' r a ns → Sx r H H' → PairV H' x (g, s) → IsParty g s → Q x H'
theorem many_party {s t : Int} (h0 : 2 ≤ s) (h1 : s ≤ 8) (t0 : 0 ≤ t) (t1 : t < 64 / s) : IsParty (s * (1 + t)) s := by
  have e : s * (64 / s) ≤ 64 := Int.mul_ediv_self_le (by omega)
  have m : s * (1 + t) ≤ s * (64 / s) := Int.mul_le_mul_of_nonneg_left (by omega) (by omega)
  have l : s * 1 ≤ s * (1 + t) := Int.mul_le_mul_of_nonneg_left (by omega) (by omega)
  exact ⟨by omega, by omega, h0, h1, Int.mul_emod_right _ _⟩
end Nf

set_option Elab.async false
set_option linter.all false
set_option maxRecDepth 100000
set_option maxHeartbeats 4000000
namespace Nf
open PySem PySem.Spec PyProof.Rows L2
variable {P : Program} {w : World} {K : PySem.W.Frag} {mg : Str → Option Value} {base : Heap}
/-! ### mixed -/
def spMixed (K : PySem.W.Frag) : Sp := fun vs H Q _ => ∃ (r a b : Addr) (ns l : List Int), vs = [.ref r, .ref b] ∧ RowAt K H r a ns ∧ SqL K H b (l.map V.int) ∧ l.length ≤ 100000 ∧
  ∀ (q : Addr) (H' : Hp) (l' : List Int), RowAt K H' r a ns → Sx r H H' → H q = none → H' q = some (.lst (l'.map V.int)) → l'.Perm l → Q (.ref q) H'
theorem eqv_nil (l : List Int) : PyData.eqv (.list (l.map .int)) (.list []) = l.isEmpty := by
  cases l <;> simp [PyData.eqv, PyData.eqvAll]
theorem shNil : SeqAt.shaped (.list []) = true := by decide +kernel
theorem erase_map : ∀ (l : List Int) (j : Nat), (l.map V.int).eraseIdx j = (l.eraseIdx j).map V.int
  | [], _ => rfl
  | _ :: _, 0 => rfl
  | x :: l, j + 1 => by
    simp only [List.map_cons, List.eraseIdx_cons_succ, erase_map l j]
theorem seqIx {l : List Int} {v : Int} (h0 : 0 ≤ v) (h1 : v < l.length) : seqIndex? v (l.map V.int).length = some v.toNat := by
  unfold seqIndex?
  rw [List.length_map]
  have h2 : ¬ v < 0 := by omega
  simp [h2]
  omega
end Nf

set_option Elab.async false
set_option linter.all false
set_option maxRecDepth 100000
set_option maxHeartbeats 4000000
namespace Nf
open PySem PySem.Spec PyProof.Rows L2
variable {P : Program} {w : World} {K : PySem.W.Frag} {mg : Str → Option Value} {base : Heap}
/-! ### seated -/
theorem cutMid (xs : List V) (i j : Nat) : cutV xs (some ((i : Nat) : Int)) (some ((i + j : Nat) : Int)) = (xs.drop i).take j := by
  unfold cutV
  rw [HT.sIx_nat xs.length 0 i, HT.sIx_nat xs.length xs.length (i + j)]
  refine List.ext_getElem? fun k => ?_
  rw [List.getElem?_take, List.getElem?_take, List.getElem?_drop, List.getElem?_drop]
  by_cases h1 : i ≤ xs.length
  · rw [Nat.min_eq_left h1]
    by_cases h2 : k < j
    · rw [if_pos h2]
      by_cases h3 : k < min (i + j) xs.length - i
      · rw [if_pos h3]
      · rw [if_neg h3, List.getElem?_eq_none (by omega)]
    · rw [if_neg h2, if_neg (by omega)]
  · rw [Nat.min_eq_right (by omega)]
    rw [List.getElem?_eq_none (by omega), List.getElem?_eq_none (by omega)]
    simp
theorem size_chunks {n z : Nat} (hs : 1 ≤ z) : Builtin.Range.rangeSize 0 ((n * z : Nat) : Int) (z : Nat) = n := by
  unfold Builtin.Range.rangeSize
  rw [if_pos (by omega)]
  cases n with
  | zero => simp
  | succ m =>
    have e0 : (((m + 1) * z : Nat) : Int) = (z : Int) * m + z := by
      rw [Nat.add_mul, Nat.one_mul, Int.natCast_add, Int.natCast_mul, Int.mul_comm]
    have hm : (0 : Int) ≤ (z : Int) * m := Int.mul_nonneg (by omega) (by omega)
    rw [if_pos (by omega)]
    have e : (((m + 1) * z : Nat) : Int) - 0 - 1 = ((z : Int) - 1) + (z : Int) * m := by omega
    rw [e, Int.add_mul_ediv_left _ _ (by omega), Int.ediv_eq_zero_of_lt (by omega) (by omega)]
    omega
theorem rgc_chunks {n z : Nat} (hs : 1 ≤ z) (hs8 : z ≤ 1000) (hn : n * z ≤ 100000) : RgC 0 ((n * z : Nat) : Int) (z : Nat) n := by
  refine ⟨by omega, by omega, ?_, size_chunks hs⟩
  have hnn : n ≤ 100000 := Nat.le_trans (Nat.le_mul_of_pos_right n hs) hn
  unfold Builtin.Range.small
  rw [size_chunks hs]
  generalize n * z = N at *
  have hz : ((z : Nat) : Int) > 0 := by omega
  simp only [Builtin.Range.rangeFitsLong, Bool.and_eq_true, Bool.or_eq_true, decide_eq_true_eq, beq_iff_eq, hz, if_true]
  first | omega | (split <;> omega)
def spSeated (K : PySem.W.Frag) : Sp := fun vs H Q _ => ∃ (b : Addr) (l : List Int) (s n : Nat), vs = [.ref b, .int (s : Nat)] ∧ SqL K H b (l.map V.int) ∧ 1 ≤ s ∧ s ≤ 1000 ∧ l.length = n * s ∧ n * s ≤ 100000 ∧
  ∀ x H', Same H H' → RndV H' x (seatedM l s n) → Q x H'
end Nf

set_option Elab.async false
set_option linter.all false
set_option maxRecDepth 100000
set_option maxHeartbeats 4000000
namespace Nf
open PySem PySem.Spec PyProof.Rows L2
variable {P : Program} {w : World} {K : PySem.W.Frag} {mg : Str → Option Value} {base : Heap}
/-! ### the law's pairs, known, new -/
theorem scLPairs : FnScope ["_law_tables", "_law_found", "_law_table", "_law_k", "_law_other"] ["_law_tables"] (defScope lPairs) := ⟨rfl, rfl, rfl, by decide +kernel, rfl, by decide +kernel, by decide +kernel⟩
def spLPairs : Sp := fun vs H Q _ => ∃ (x : V) (r : Rnd), vs = [x] ∧ RndV H x r ∧ (pairsR r).length ≤ 100000 ∧ (∀ t ∈ r, t.length ≤ 100000) ∧
  ∀ H' q ys, Same H H' → H q = none → H' q = some (.lst ys) → Paired (PairV H') ys (pairsR r) → Q (.ref q) H'
theorem ok_lpairs {f : Addr} {fd : FuncData} (F : Fun K "_law_pairs" "_law_pairs" lPairs f fd) (B : Blt mg) : FnOk P w K mg base CX0 1 f fd ["_law_tables"] spLPairs := by
  refine F.ok scLPairs (fun vs H Q E h => ?_) (fun cdv A outer s H vs Q E hr h => ?_)
  · obtain ⟨x, r, rfl, _⟩ := h
    rfl
  · obtain ⟨x, r, rfl, ⟨p, xs, rfl, hp, hxs⟩, hlen, htl, q⟩ := h
    refine ⟨_, pss_cons (ps_set (i := 1) scLPairs.nd rfl (.inl rfl) (pe_lst pa_nil))
      (pss_cons (ps_for PassesOwn.never rfl (pi_tup (pv 0)) (pg_name (i := 2) scLPairs.nd rfl (.inl rfl))
        (pss_one (ps_for PassesOwn.never rfl (pi_range1 (by rfl) B.range (pa_cons (pe_callB call_len_seq (by rfl) B.len PySem.boot_len (pa_cons (pv 2) pa_nil)) pa_nil)) (pg_name (i := 3) scLPairs.nd rfl (.inl rfl))
          (pss_one (ps_for PassesOwn.never rfl (pi_tup (pe_slice sl_tupA (pv 2) (po_some (pe_op op_add (pv 3) pe_int)) po_none)) (pg_name (i := 4) scLPairs.nd rfl (.inl rfl))
            (pss_one (ps_expr (pe_bm PySem.F.plainAttrs_list PySem.F.slot_list_append PySem.F.type_list_append mt_append (pv 1) (pa_cons (pe_tup (pa_cons (pe_ix ix_tup (pv 2) (pv 3) (fun _ _ => rfl)) (pa_cons (pv 4) pa_nil))) pa_nil)))))))))
      (pss_one (ps_ret (pv 1)))), ?_⟩
    have hxl := paired_len hxs
    have hpl : (pairsR r).length < sizeLine := Nat.lt_of_le_of_lt hlen (by decide)
    refine ⟨Nat.zero_le _, fun D nD => ?_⟩
    have s0 : Same H (upd H D (.lst [])) := same_new nD
    refine ⟨.ref p, rfl, p, rfl, ⟨_, SqT.of (s0 _ _ hp)⟩, ?_⟩
    refine for_it (walk_tup (xs := xs)) (fun i σ H2 => ∃ (y2 y3 y4 : Option V), σ = [some (.ref p), some (.ref D), y2, y3, y4] ∧ PrI H D r H2 (pairsR (r.drop i))) ⟨none, none, none, rfl, s0, [], [], upd_same, .nil, by simp⟩ (fun i σ H2 _ h => ?_) (fun i x σ H2 H3 hi hI y => ?_) (fun σ H2 hI => ?_)
    · obtain ⟨_, _, _, _, h⟩ := h
      exact SqT.of (h.1 _ _ hp)
    · obtain ⟨y2, y3, y4, rfl, hI⟩ := hI
      obtain ⟨rfl, hx⟩ := y
      obtain ⟨t, ht, a, rfl, ha⟩ := paired_getL hxs hx
      have haT : ∀ {H' : Hp}, Same H H' → SqT K H' a (t.map V.int) := fun sm => SqT.of (sm _ _ ha)
      have ht5 := htl t (List.mem_of_getElem? ht)
      refine ⟨.ref a, rfl, a, _, rfl, .inr (haT hI.1), _, rfl, by omega, by rw [List.length_map]; omega, ?_⟩
      refine for_it walk_range (fun j σ H2 => ∃ (y3 y4 : Option V), σ = [some (.ref p), some (.ref D), some (.ref a), y3, y4] ∧ PrI H D r H2 (pairsT (t.drop j) ++ pairsR (r.drop (i + 1)))) ⟨y3, y4, rfl, hI.rem (by rw [List.drop_zero]; exact pairsR_drop ht)⟩ (fun _ _ _ _ _ => trivial) (fun j x σ H2 H3 hj hJ y => ?_) (fun σ H2 hJ => ?_)
      · obtain ⟨y3, y4, rfl, hJ⟩ := hJ
        obtain ⟨rfl, rfl⟩ := y
        have hjt : j < t.length := by
          rw [List.length_map] at hj
          omega
        have hn : t[j]? = some t[j] := List.getElem?_eq_getElem hjt
        generalize t[j] = n at hn
        have ej : (0 : Int) + (j : Nat) = ((j : Nat) : Int) := by omega
        have e1 : (0 : Int) + (j : Nat) + 1 = ((j + 1 : Nat) : Int) := by omega
        refine ⟨.ref a, rfl, .int (0 + (j : Nat)), rfl, _, _, rfl, rfl, _, rfl, a, _, rfl, haT hJ.1, fun hw => ?_, fun hw c nc => ?_⟩
        · have hz := hw.1
          rw [e1, HT.sIx_nat] at hz
          rw [List.length_map] at hz
          omega
        rw [e1, cutFrom, ← List.map_drop]
        have hJ2 := hJ.keep (same_new (o := .tup ((t.drop (j + 1)).map V.int)) nc)
        refine ⟨c, rfl, ⟨_, SqT.of upd_same⟩, ?_⟩
        refine for_it (walk_tup (xs := (t.drop (j + 1)).map V.int)) (fun m σ H2 => ∃ y4 : Option V, σ = [some (.ref p), some (.ref D), some (.ref a), some (.int (0 + (j : Nat))), y4] ∧ PrI H D r H2 (((t.drop (j + 1)).drop m).map (fun b => (n, b)) ++ (pairsT (t.drop (j + 1)) ++ pairsR (r.drop (i + 1)))) ∧ H2 c = some (.tup ((t.drop (j + 1)).map V.int)))
          ⟨y4, rfl, hJ2.rem (by rw [List.drop_zero, pairsT_drop hn, List.append_assoc]), upd_same⟩ (fun m σ H2 _ h => ?_) (fun m x σ H2 H3 hm hM y => ?_) (fun σ H2 hM => ?_)
        · obtain ⟨_, _, _, h⟩ := h
          exact SqT.of h
        · obtain ⟨y4, rfl, ⟨sm, acc, ps, hD, hps, e⟩, hc⟩ := hM
          obtain ⟨rfl, hx⟩ := y
          obtain ⟨b, hb, rfl⟩ := getElem?_int hx
          refine ⟨.ref D, rfl, .inl ⟨rfl, _, SqL.of hD⟩, .ref a, rfl, .int (0 + (j : Nat)), rfl, a, _, _, .int n, rfl, rfl, haT sm, ?_, .int b, rfl, two_le, fun T2 nT2 => ?_⟩
          · rw [ej]
            exact atI_nat (int_getElem? hn)
          have nDT : D ≠ T2 := ne_of_none hD nT2
          rw [dropCons hb, List.map_cons, List.cons_append] at e
          have s3 : Same H3 (upd H3 T2 (.tup [.int n, .int b])) := same_new nT2
          refine ⟨D, acc, _, rfl, rfl, (upd_ne nDT).trans hD, ?_, ⟨_, rfl, ⟨same_put (sm.trans s3) nD, acc ++ [.ref T2], ps ++ [(n, b)], upd_same, ?_, ?_⟩, ?_⟩⟩
          · have hl : ps.length ≤ (pairsR r).length := by
              rw [← e, List.length_append]
              omega
            have := paired_len hps
            omega
          · have keepT : ∀ {z : V} {pr : Int × Int}, PairV (upd H3 T2 (.tup [.int n, .int b])) z pr → PairV (upd (upd H3 T2 (.tup [.int n, .int b])) D (.lst (acc ++ [.ref T2]))) z pr := fun {z pr} h => by
              obtain ⟨u, rfl, hu⟩ := h
              refine ⟨u, rfl, ?_⟩
              rw [upd_ne (ne_of hu ((upd_ne nDT).trans hD) (by intro z; cases z))]
              exact hu
            exact paired_snoc (paired_mono (fun z pr h => keepT (h.mono (same_toT s3))) hps) (keepT ⟨T2, rfl, upd_same⟩)
          · rw [List.append_assoc]
            exact e
          · have ncD : c ≠ D := ne_of hc hD (by intro z; cases z)
            rw [upd_ne ncD]
            exact s3 _ _ hc
        · obtain ⟨y4, rfl, hM, _⟩ := hM
          exact ⟨_, _, rfl, hM.rem (by rw [List.length_map, List.drop_of_length_le (Nat.le_refl _)]; rfl)⟩
      · obtain ⟨y3, y4, rfl, hJ⟩ := hJ
        refine ⟨_, _, _, rfl, hJ.rem ?_⟩
        rw [List.length_map, show (((t.length : Nat) : Int)).toNat = t.length by omega, List.drop_of_length_le (Nat.le_refl _)]
        rfl
    · obtain ⟨y2, y3, y4, rfl, sm, acc, ps, hD, hps, e⟩ := hI
      rw [hxl, List.drop_of_length_le (Nat.le_refl _)] at e
      have e2 : ps = pairsR r := by simpa [pairsR] using e
      subst e2
      exact ⟨.ref D, rfl, q H2 D acc sm nD hD hps⟩
/-- the pairs that a dict knows -/
def key2 (p : Int × Int) : List Key := [Sum.inl p.1, Sum.inl p.2]
theorem key2_inj {p q : Int × Int} (h : key2 p = key2 q) : p = q := by
  obtain ⟨a, b⟩ := p
  obtain ⟨x, y⟩ := q
  obtain ⟨h1, h2⟩ := key2_ne.mp h
  exact Prod.ext h1 h2
theorem mem_key2 {ks : List (Int × Int)} {p : Int × Int} : key2 p ∈ ks.map key2 ↔ p ∈ ks := by
  constructor
  · intro h
    obtain ⟨q, hq, e⟩ := List.mem_map.mp h
    rw [← key2_inj e]
    exact hq
  · exact fun h => List.mem_map.mpr ⟨p, h, rfl⟩
theorem anyKey {κ : Type} [DecidableEq κ] (kvs : List (κ × V)) (k : κ) : ((kvs.any fun kv => decide (kv.1 = k)) = true) ↔ k ∈ kvs.map (·.1) := by
  simp only [List.any_eq_true, decide_eq_true_eq, List.mem_map]
theorem keysPut_old {κ : Type} [DecidableEq κ] {kvs : List (κ × V)} {k : κ} (v : V) (h : k ∈ kvs.map (·.1)) : (putK kvs k v).map (·.1) = kvs.map (·.1) := by
  unfold putK
  rw [if_pos ((anyKey kvs k).mpr h), List.map_map]
  refine List.map_congr_left fun kv _ => ?_
  show (if kv.1 = k then (kv.1, v) else kv).1 = kv.1
  split <;> rfl
theorem keysPut_new {κ : Type} [DecidableEq κ] {kvs : List (κ × V)} {k : κ} (v : V) (h : k ∉ kvs.map (·.1)) : (putK kvs k v).map (·.1) = kvs.map (·.1) ++ [k] := by
  unfold putK
  rw [if_neg (fun z => h ((anyKey kvs k).mp z))]
  simp
def KnS (H : Hp) (d : Addr) (ps : List (Int × Int)) (N : Nat) : Prop := ∃ kvs : List (List Key × V), H d = some (.dT kvs) ∧ kvs.length ≤ N ∧ (∀ a b : Int, (valV kvs [Sum.inl a, Sum.inl b]).isSome = true ↔ (a, b) ∈ ps) ∧ ∃ ks : List (Int × Int), kvs.map (·.1) = ks.map key2 ∧ ks.Nodup
/-- its keys: each pair once -/
theorem KnS.keys {H : Hp} {d : Addr} {ps : List (Int × Int)} {N : Nat} (h : KnS H d ps N) : ∃ (kvs : List (List Key × V)) (ks : List (Int × Int)), H d = some (.dT kvs) ∧ kvs.length ≤ N ∧ kvs.map (·.1) = ks.map key2 ∧ ks.Nodup ∧ ∀ p, p ∈ ks ↔ p ∈ ps := by
  obtain ⟨kvs, e, hl, hv, ks, hk, hn⟩ := h
  refine ⟨kvs, ks, e, hl, hk, hn, fun ⟨a, b⟩ => ?_⟩
  rw [← hv a b, ← valV_any, anyKey, hk]
  exact mem_key2.symm
theorem knS_same {H H' : Hp} {d : Addr} {ps : List (Int × Int)} {N : Nat} (h : KnS H d ps N) (s : Same H H') : KnS H' d ps N := by
  obtain ⟨kvs, e, q⟩ := h
  exact ⟨kvs, s _ _ e, q⟩
theorem knS_put {H : Hp} {d T : Addr} {N : Nat} {x y : Int} {ps : List (Int × Int)} {v : V} (h : KnS H d ps N) (hT : H T = some (.tup [.int x, .int y])) (hN : N < sizeLine) :
    ∃ kvs', DPut H d (.ref T) v (upd H d (.dT kvs')) ∧ KnS (upd H d (.dT kvs')) d (ps ++ [(x, y)]) (N + 1) := by
  obtain ⟨kvs, e, hl, hv, ks, hk, hn⟩ := h
  refine ⟨putK kvs [Sum.inl x, Sum.inl y] v, DPut.t (k := [Sum.inl x, Sum.inl y]) e hT (by omega), _, upd_same, ?_, fun a b => ?_, ?_⟩
  · have := length_putK kvs [Sum.inl x, Sum.inl y] v
    omega
  · rw [valV_put]
    by_cases h : a = x ∧ b = y
    · obtain ⟨rfl, rfl⟩ := h
      rw [if_pos rfl]
      simp
    · rw [if_neg (fun z => h (key2_ne.mp z)), hv]
      simp only [List.mem_append, List.mem_singleton, Prod.mk.injEq]
      exact ⟨fun z => .inl z, fun z => z.elim id fun z => absurd z h⟩
  · by_cases m : (x, y) ∈ ks
    · exact ⟨ks, by rw [keysPut_old v (by rw [hk]; exact mem_key2.mpr m), hk], hn⟩
    · refine ⟨ks ++ [(x, y)], by rw [keysPut_new v (by rw [hk]; exact fun z => m (mem_key2 (p := (x, y)) |>.mp z)), hk, List.map_append]; rfl, ?_⟩
      refine List.nodup_append.mpr ⟨hn, by simp, fun a ha b hb => ?_⟩
      rw [List.mem_singleton.mp hb]
      rintro rfl
      exact m ha
theorem scLKnown : FnScope ["_law_plan", "_law_found", "_law_tables", "_law_pair"] ["_law_plan"] (defScope lKnown) := ⟨rfl, rfl, rfl, by decide +kernel, rfl, by decide +kernel, by decide +kernel⟩
def spLKnown (K : PySem.W.Frag) : Sp := fun vs H Q _ => ∃ (l : Addr) (rs : List Rnd), vs = [.ref l] ∧ PlanV K H l rs ∧ rs.length ≤ 1000 ∧ (∀ r ∈ rs, (pairsR r).length ≤ 4096 ∧ ∀ t ∈ r, t.length ≤ 100000) ∧
  ∀ H' d, Same H H' → H d = none → KnS H' d (rs.flatMap pairsR) 5000000 → Q (.ref d) H'
theorem ok_lknown {f fP : Addr} {fd fdP : FuncData} (F : Fun K "_law_known" "_law_known" lKnown f fd) (B : Blt mg) (FP : Fun K "_law_pairs" "_law_pairs" lPairs fP fdP) (bP : Binds K fdP ["_law_tables"] []) (gP : mg "_law_pairs" = some (.ref fP)) : FnOk P w K mg base CX0 2 f fd ["_law_plan"] (spLKnown K) := by
  have GP : FnOk P w K mg base CX0 1 fP fdP ["_law_tables"] spLPairs := ok_lpairs FP B
  refine F.ok scLKnown (fun vs H Q E h => ?_) (fun cdv A outer s H vs Q E hr h => ?_)
  · obtain ⟨l, rs, rfl, _⟩ := h
    rfl
  · obtain ⟨l, rs, rfl, ⟨xs, hl, hxs⟩, hn, hS, q⟩ := h
    have hu := hu_of hr
    refine ⟨_, pss_cons (ps_set (i := 1) scLKnown.nd rfl (.inl rfl) pe_dnewT)
      (pss_cons (ps_for PassesOwn.never rfl (pi_list (pv 0)) (pg_name (i := 2) scLKnown.nd rfl (.inl rfl))
        (pss_one (ps_for PassesOwn.never rfl (pi_list (pe_call GP hr (by rfl) gP FP.kp bP .nil pass0 (pa_cons (pv 2) pa_nil))) (pg_name (i := 3) scLKnown.nd rfl (.inl rfl))
          (pss_one (ps_dput hu (pv 1) (pv 3) pe_bl rfl)))))
      (pss_one (ps_ret (pv 1)))), ?_⟩
    have hxl := paired_len hxs
    have big : (5000000 : Nat) < sizeLine := by decide
    intro d nd
    have s0 : Same H (upd H d (.dT [])) := same_new nd
    refine ⟨.ref l, rfl, l, rfl, ⟨_, s0.seq hl⟩, ?_⟩
    refine for_it (walk_list (xs := xs)) (fun i σ H2 => ∃ (y2 y3 : Option V), σ = [some (.ref l), some (.ref d), y2, y3] ∧ Same H H2 ∧ KnS H2 d ((rs.take i).flatMap pairsR) (i * 4096)) ⟨none, none, rfl, s0, [], upd_same, Nat.le_refl _, fun a b => by simp [valV], [], rfl, .nil⟩ (fun i σ H2 _ h => ?_) (fun i x σ H2 H3 hi hI y => ?_) (fun σ H2 hI => ?_)
    · obtain ⟨_, _, _, sm, _⟩ := h
      exact sm.seq hl
    · obtain ⟨y2, y3, rfl, sm, hK⟩ := hI
      obtain ⟨rfl, hx⟩ := y
      obtain ⟨r, hr0, hrx⟩ := paired_getL hxs hx
      obtain ⟨hp1, hp2⟩ := hS r (List.mem_of_getElem? hr0)
      refine ⟨x, rfl, x, r, rfl, hrx.mono (same_toT sm), by omega, hp2, fun H4 u ys s4 nu hu4 hys => ?_⟩
      refine ⟨u, rfl, ⟨_, SqL.of hu4⟩, ?_⟩
      have hyl := paired_len hys
      refine for_it (walk_list (xs := ys)) (fun m σ H5 => ∃ y3 : Option V, σ = [some (.ref l), some (.ref d), some x, y3] ∧ Same H H5 ∧ H5 u = some (.lst ys) ∧ Paired (PairV H5) ys (pairsR r) ∧ KnS H5 d ((rs.take i).flatMap pairsR ++ (pairsR r).take m) (i * 4096 + m))
        ⟨y3, rfl, sm.trans s4, hu4, hys, by rw [List.take_zero, List.append_nil]; exact knS_same hK s4⟩ (fun m σ H5 _ h => ?_) (fun m z σ H5 H6 hm hM y => ?_) (fun σ H5 hM => ?_)
      · obtain ⟨_, _, _, h, _⟩ := h
        exact SqL.of h
      · obtain ⟨y3, rfl, s5, hu5, hy5, hK5⟩ := hM
        obtain ⟨rfl, hz⟩ := y
        obtain ⟨⟨a, b⟩, hab, T, rfl, hT⟩ := paired_getL hy5 hz
        obtain ⟨kvs', hput, hK6⟩ := knS_put (v := .bl true) hK5 hT (by omega)
        obtain ⟨kv0, hd0, _⟩ := id hK5
        have nud : u ≠ d := ne_of hu5 hd0 (by intro e; cases e)
        refine ⟨.ref d, rfl, .ref T, rfl, d, _, rfl, hput, _, rfl, same_put s5 nd, by rw [upd_ne nud]; exact hu5, paired_mono (fun v pr h => ?_) hy5, ?_⟩
        · obtain ⟨w1, rfl, hw⟩ := h
          exact ⟨w1, rfl, by rw [upd_ne (ne_of hw hd0 (by intro e; cases e))]; exact hw⟩
        · rw [takeSucc hab, ← List.append_assoc]
          exact hK6
      · obtain ⟨y3, rfl, s5, hu5, hy5, hK5⟩ := hM
        rw [hyl, List.take_of_length_le (Nat.le_refl _)] at hK5
        refine ⟨_, _, rfl, s5, ?_⟩
        rw [takeSucc hr0, List.flatMap_append]
        obtain ⟨kvs, e, h1, h2⟩ := hK5
        exact ⟨kvs, e, by omega, by simpa using h2.1, h2.2⟩
    · obtain ⟨y2, y3, rfl, sm, hK⟩ := hI
      rw [hxl, List.take_of_length_le (Nat.le_refl _)] at hK
      obtain ⟨kvs, e, h1, h2⟩ := hK
      exact ⟨.ref d, rfl, q H2 d sm nd ⟨kvs, e, by omega, h2⟩⟩
theorem scLNew : FnScope ["_law_tables", "_law_plan", "_law_known_here", "_law_pair"] ["_law_tables", "_law_plan"] (defScope lNew) := ⟨rfl, rfl, rfl, by decide +kernel, rfl, by decide +kernel, by decide +kernel⟩
def spLNew (K : PySem.W.Frag) : Sp := fun vs H Q _ => ∃ (x : V) (l : Addr) (r : Rnd) (rs : List Rnd), vs = [x, .ref l] ∧ RndV H x r ∧ (pairsR r).length ≤ 100000 ∧ (∀ t ∈ r, t.length ≤ 100000) ∧ PlanV K H l rs ∧ rs.length ≤ 1000 ∧ (∀ r ∈ rs, (pairsR r).length ≤ 4096 ∧ ∀ t ∈ r, t.length ≤ 100000) ∧
  ∀ b H', Same H H' → (b = true ↔ ∀ p ∈ pairsR r, p ∉ rs.flatMap pairsR) → Q (.bl b) H'
def dP (p : Int × Int) : PyData := .tuple [.int p.1, .int p.2]
theorem shPairs (ps : List (Int × Int)) : SeqAt.shaped (.list (ps.map dP)) = true := by
  have l : ∀ ps : List (Int × Int), PyData.canLayAll0 (ps.map dP) = true := fun ps => by
    induction ps with
    | nil => rfl
    | cons x ps ih => simp [PyData.canLayAll0, PyData.canLay0, dP, ih]
  have h : ∀ ps : List (Int × Int), PyData.depthAll (ps.map dP) ≤ 1 := fun ps => by
    induction ps with
    | nil => simp [PyData.depthAll]
    | cons x ps ih =>
      have e : (dP x).depth ≤ 1 := by simp [dP, PyData.depth, PyData.depthAll]
      simp only [List.map_cons, PyData.depthAll]
      omega
  have h := h ps
  unfold SeqAt.shaped
  rw [Bool.and_eq_true]
  refine ⟨by simp [PyData.canLay0, l], decide_eq_true ?_⟩
  simp only [PyData.depth]
  omega
theorem eqv_nilP (ps : List (Int × Int)) : PyData.eqv (.list (ps.map dP)) (.list []) = ps.isEmpty := by
  cases ps <;> simp [PyData.eqv, PyData.eqvAll]
theorem ok_lnew {f fP fK : Addr} {fd fdP fdK : FuncData} (F : Fun K "_law_new" "_law_new" lNew f fd) (B : Blt mg) (FP : Fun K "_law_pairs" "_law_pairs" lPairs fP fdP) (bP : Binds K fdP ["_law_tables"] []) (gP : mg "_law_pairs" = some (.ref fP))
    (FK : Fun K "_law_known" "_law_known" lKnown fK fdK) (bK : Binds K fdK ["_law_plan"] []) (gK : mg "_law_known" = some (.ref fK)) : FnOk P w K mg base CX0 3 f fd ["_law_tables", "_law_plan"] (spLNew K) := by
  have GP : FnOk P w K mg base CX0 1 fP fdP ["_law_tables"] spLPairs := ok_lpairs FP B
  have GK : FnOk P w K mg base CX0 2 fK fdK ["_law_plan"] (spLKnown K) := ok_lknown FK B FP bP gP
  refine F.ok scLNew (fun vs H Q E h => ?_) (fun cdv A outer s H vs Q E hr h => ?_)
  · obtain ⟨x, l, r, rs, rfl, _⟩ := h
    rfl
  · obtain ⟨x, l, r, rs, rfl, hx, hpl, htl, hPl, hn, hS, q⟩ := h
    have hr1 : Room 1 _ := hr.mono (by decide)
    have hu := hu_of hr
    refine ⟨_, pss_cons (ps_set (i := 2) scLNew.nd rfl (.inr rfl) (pe_call GK hr (by rfl) gK FK.kp bK .nil pass0 (pa_cons (pv 1) pa_nil)))
      (pss_one (ps_ret (pe_cmpR (op_eqD hr.units) (pe_lc (own := [("_law_pair", 3)]) (g := gName 3) (tt := tB (tDIn (tVar 3) (tVar 2))) (te := tVar 3) (by rfl) scLNew.nd (pi_list (pe_call GP hr1 (by rfl) gP FP.kp bP .nil pass0 (pa_cons (pv 0) pa_nil)))
        (blkOk_by (N := ["_law_tables", "_law_plan", "_law_known_here", "_law_pair"]) (sc := defScope lNew) (by decide +kernel)) (fun _ _ _ _ _ => pg_name (i := 3) (x := "_law_pair") scLNew.nd rfl (.inl rfl) (.inr rfl))
        (fun _ _ _ _ _ => pts_one (pt_cmp (pc_din hu (pv 3) (pv 2)))) (fun _ _ _ _ _ => pv 3)) (pe_lst pa_nil) (nomark _)))), ?_⟩
    refine ⟨.ref l, rfl, l, rs, rfl, hPl, hn, hS, fun H1 d s1 nd hK => ?_⟩
    refine ⟨x, rfl, x, r, rfl, hx.mono (same_toT s1), hpl, htl, fun H2 u ys s2 nu hu2 hys => ?_⟩
    have hK2 := knS_same hK s2
    refine ⟨u, rfl, ⟨_, SqL.of hu2⟩, fun D nD => ?_⟩
    have s3 : Same H2 (upd H2 D (.lst [])) := same_new nD
    have hpl' : (pairsR r).length < sizeLine := Nat.lt_of_le_of_lt hpl (by decide)
    have hyl := paired_len hys
    refine lc_it (walk_list (xs := ys)) (fun i H5 => Same H2 H5 ∧ ∃ acc ps, H5 D = some (.lst acc) ∧ Paired (PairV H5) acc ps ∧ ps.length ≤ i ∧ (ps = [] ↔ ∀ p ∈ (pairsR r).take i, p ∉ rs.flatMap pairsR)) ⟨s3, [], [], upd_same, .nil, Nat.le_refl _, by simp⟩ (fun i H5 _ p => SqL.of (p.1 _ _ hu2)) (fun i z H5 H6 hi hI y => ?_) (fun H5 hI => ?_)
    · obtain ⟨rfl, hz⟩ := y
      obtain ⟨sm, acc, ps, hD, hps, hle, he⟩ := hI
      obtain ⟨⟨a, b⟩, hab, T, rfl, hT⟩ := paired_getL hys hz
      have hT6 := sm _ _ hT
      obtain ⟨kvs, hd, hkl, hkv, _⟩ := knS_same hK2 sm
      refine ⟨wipe_put (by decide), ?_⟩
      refine ⟨.ref T, rfl, .ref d, rfl, d, _, rfl, DGet.t (k := [Sum.inl a, Sum.inl b]) hd hT6, _, rfl, ite2 (fun hc => ?_) (fun hc => ?_)⟩
      · refine ⟨.ref T, rfl, acc, hD, ?_, same_put sm nD, acc ++ [.ref T], ps ++ [(a, b)], upd_same, ?_, ?_, ?_⟩
        · have := paired_len hps
          omega
        · have keepT : ∀ {z : V} {pr : Int × Int}, PairV H6 z pr → PairV (upd H6 D (.lst (acc ++ [.ref T]))) z pr := fun {z pr} h => by
            obtain ⟨u, rfl, hu⟩ := h
            exact ⟨u, rfl, by rw [upd_ne (ne_of hu hD (by intro z; cases z))]; exact hu⟩
          exact paired_snoc (paired_mono (fun z pr h => keepT h) hps) (keepT ⟨T, rfl, hT6⟩)
        · simp only [List.length_append, List.length_singleton]
          omega
        · constructor
          · intro z
            simp at z
          · intro z
            exact absurd ((hkv a b).mp hc) (z (a, b) (by rw [takeSucc hab]; simp))
      · refine ⟨sm, acc, ps, hD, hps, by omega, ?_⟩
        rw [he, takeSucc hab]
        constructor
        · intro z p hp
          rcases List.mem_append.mp hp with hp | hp
          · exact z p hp
          · rw [List.mem_singleton.mp hp]
            exact fun m => hc ((hkv a b).mpr m)
        · exact fun z p hp => z p (List.mem_append_left _ hp)
    · obtain ⟨sm, acc, ps, hD, hps, hle, he⟩ := hI
      rw [hyl, List.take_of_length_le (Nat.le_refl _)] at he
      refine ⟨Nat.zero_le _, fun e ne => ?_⟩
      have s6 : Same H5 (upd H5 e (.lst [])) := same_new ne
      refine ⟨.list (ps.map dP), .list [], dp_lst (fun _ _ h => dp_pair h) (SqL.of (s6 _ _ hD)) (paired_mono (fun _ _ h => h.mono (same_toT s6)) hps), .lst (SqL.of upd_same) .nil, shPairs ps, shNil, ?_⟩
      rw [eqv_nilP]
      refine q _ _ (((s1.trans s2).trans sm).trans s6) ?_
      rw [← he]
      cases ps <;> simp
end Nf

set_option Elab.async false
set_option linter.all false
set_option maxRecDepth 100000
set_option maxHeartbeats 4000000
namespace Nf
open PySem PySem.Spec PyProof.Rows L2
variable {P : Program} {w : World} {K : PySem.W.Frag} {mg : Str → Option Value} {base : Heap}
/-! ### the law's own look at a round -/
theorem scLIsRound : FnScope ["_law_guests", "_law_size", "_law_tables", "_law_everyone", "_law_table"] ["_law_guests", "_law_size", "_law_tables"] (defScope lIsRound) := ⟨rfl, rfl, rfl, by decide +kernel, rfl, by decide +kernel, by decide +kernel⟩
def spLIsRound : Sp := fun vs H Q _ => ∃ (g s : Int) (x : V) (r : Rnd), vs = [.int g, .int s, x] ∧ IsParty g s ∧ RndV H x r ∧ r.length ≤ 400 ∧ (∀ t ∈ r, t.length ≤ 100000) ∧ ∀ b H', Same H H' → (b = true ↔ IsRound g s r) → Q (.bl b) H'
theorem eqv_ints (xs ys : List Int) : (PyData.eqv (.list (xs.map .int)) (.list (ys.map .int)) = true) ↔ xs = ys := by
  simp only [PyData.eqv]
  exact eqvInts
theorem eqv_tabs (xs ys : List Tbl) : (PyData.eqv (.list (xs.map dT)) (.list (ys.map dT)) = true) ↔ xs = ys := by
  simp only [PyData.eqv]
  exact eqvTabs
theorem ok_lisRound {f : Addr} {fd : FuncData} (F : Fun K "_law_is_round" "_law_is_round" lIsRound f fd) (B : Blt mg) : FnOk P w K mg base CX0 1 f fd ["_law_guests", "_law_size", "_law_tables"] spLIsRound := by
  refine F.ok scLIsRound (fun vs H Q E h => ?_) (fun cdv A outer s H vs Q E hr h => ?_)
  · obtain ⟨g, s, x, r, rfl, _⟩ := h
    rfl
  · obtain ⟨g, z, x, r, rfl, hI, ⟨p, xs, rfl, hp, hxs⟩, hlen, htl, q⟩ := h
    refine ⟨_, pss_cons (ps_set (i := 3) scLIsRound.nd rfl (.inl rfl) (pe_lst pa_nil))
      (pss_cons (ps_for PassesOwn.never rfl (pi_tup (pv 2)) (pg_name (i := 4) scLIsRound.nd rfl (.inl rfl))
        (pss_cons (ps_if (PW.pt (pw_or (pt_not (pt_chain op_le op_le pe_int (pe_callB call_len_seq (by rfl) B.len PySem.boot_len (pa_cons (pv 4) pa_nil)) (pv 1)))
            (pw_or1 (pt_cmpR (op_neD hr.units) (pe_callTy call_list_of (by rfl) B.list (by decide +kernel) (pa_cons (pv 4) pa_nil)) (pe_callB (cr_sortD (fun i : Int => PyData.int i) hr.units) (by rfl) B.sorted (by decide +kernel) (pa_cons (pv 4) pa_nil)) (nomark _)))))
          (pss_one (ps_ret pe_bl)) pss_nil)
        (pss_one (ps_expr (pe_bm PySem.F.plainAttrs_list PySem.F.slot_list_extend PySem.F.type_list_extend mt_extendT (pv 3) (pa_cons (pv 4) pa_nil))))))
      (pss_cons (ps_if (PW.pt (pw_or (PW.pt (pw_and (pt_cmpR (op_neD hr.units) (pv 3) (pe_lst pa_nil) (nomark _)) (pw_and1 (PW.pt (pw_or (pt_cmpR op_lt (pe_callB (cr_min rfl) (by rfl) B.min (by decide +kernel) (pa_cons (pv 3) pa_nil)) pe_int (nomark _))
            (pw_or1 (pt_cmpR op_ge (pe_callB (cr_max rfl) (by rfl) B.max (by decide +kernel) (pa_cons (pv 3) pa_nil)) (pv 0) (nomark _))))))))
          (pw_or1 (pt_cmpR op_ne (pe_lenSet (by rfl) B.len (by rfl) B.set (pv 3)) (pe_callB call_len_seq (by rfl) B.len PySem.boot_len (pa_cons (pv 3) pa_nil)) (nomark _)))))
        (pss_one (ps_ret pe_bl)) pss_nil)
      (pss_one (ps_ret (pe_and (pe_cmpR op_le (pe_callB call_len_seq (by rfl) B.len PySem.boot_len (pa_cons (pv 2) pa_nil)) (pe_op op_fdiv (pv 0) (pv 1)) (nomark _))
        (pe_one (pe_cmpR (op_eqD hr.units) (pe_callTy call_list_of (by rfl) B.list (by decide +kernel) (pa_cons (pv 2) pa_nil)) (pe_callB (cr_sortD dT hr.units) (by rfl) B.sorted (by decide +kernel) (pa_cons (pv 2) pa_nil)) (nomark _)))))))), ?_⟩
    have no : ∀ H', Same H H' → ¬ IsRound g z r → Q (.bl false) H' := fun H' sm h => q false H' sm ⟨(fun e => by cases e), fun e => absurd e h⟩
    have hxl := paired_len hxs
    have big : (1000000 : Nat) < sizeLine := by decide
    have hz8 := hI.s8
    refine ⟨Nat.zero_le _, fun D nD => ?_⟩
    have s0 : Same H (upd H D (.lst [])) := same_new nD
    refine ⟨.ref p, rfl, p, rfl, ⟨_, SqT.of (s0 _ _ hp)⟩, ?_⟩
    refine for_it (walk_tup (xs := xs)) (fun i σ H2 => ∃ y4 : Option V, σ = [some (.int g), some (.int z), some (.ref p), some (.ref D), y4] ∧ Same H H2 ∧ H2 D = some (.lst ((r.take i).flatten.map V.int)) ∧ ((r.take i).flatten.length ≤ 8 * i) ∧ ∀ t ∈ r.take i, (1 ≤ t.length ∧ (t.length : Int) ≤ z) ∧ t.Pairwise (· ≤ ·))
      ⟨none, rfl, s0, upd_same, by simp, by simp⟩ (fun i σ H2 _ h => ?_) (fun i x σ H2 H3 hi hI2 y => ?_) (fun σ H2 hI2 => ?_)
    · obtain ⟨_, _, sm, _⟩ := h
      exact SqT.of (sm _ _ hp)
    · obtain ⟨y4, rfl, sm, hD, hfl, hall⟩ := hI2
      obtain ⟨rfl, hx⟩ := y
      obtain ⟨t, ht, a, rfl, ha⟩ := paired_getL hxs hx
      have hmt := List.mem_of_getElem? ht
      have ha3 := sm _ _ ha
      have bad : ∀ H', Same H H' → ¬ ((1 ≤ t.length ∧ (t.length : Int) ≤ z) ∧ t.Pairwise (· ≤ ·)) → Q (.bl false) H' := fun H' s' h => no H' s' fun y => h ⟨y.sz t hmt, y.up t hmt⟩
      refine ⟨.ref a, rfl, a, _, rfl, .inr (SqT.of ha3), 1, _, rfl, rfl, _, rfl, ite2 (fun h1 => ?_) (fun h1 => ?_)⟩
      · have h1 : 1 ≤ t.length := by
          have := of_decide_eq_true h1
          rw [List.length_map] at this
          omega
        refine ⟨.int z, rfl, _, _, rfl, rfl, _, rfl, ite2 (fun h2 => ?_) (fun h2 => ?_)⟩
        · refine iteT (bad _ sm fun y => ?_)
          rw [List.length_map] at h2
          simp [y.1.2] at h2
        · have h2 : (t.length : Int) ≤ z := by
            rw [List.length_map] at h2
            simpa using h2
          refine ⟨.ref a, rfl, a, _, rfl, .inr (SqT.of ha3), fun b nb => ?_⟩
          have s4 : Same H3 (upd H3 b (.lst (t.map V.int))) := same_new nb
          refine ⟨.ref a, rfl, ?_⟩
          dsimp only [tNil]
          refine sort_ints (.inr (SqT.of (s4 _ _ ha3))) fun c nc => ?_
          have s5 := s4.trans (same_new (o := .lst ((sortI t).map V.int)) nc)
          have hb5 := (same_new (o := .lst ((sortI t).map V.int)) nc) _ _ (upd_same : (upd H3 b (.lst (t.map V.int))) b = _)
          refine ⟨.list (t.map .int), .list ((sortI t).map .int), .lst (SqL.of hb5) (dpAll_ints t), .lst (SqL.of upd_same) (dpAll_ints _), shInts _, shInts _, _, rfl, ?_⟩
          have sm5 := sm.trans s5
          refine ite2 (fun h3 => ?_) (fun h3 => ?_)
          · refine bad _ sm5 fun y => ?_
            rw [(eqv_ints _ _).mpr ((sortI_iff t).mpr y.2)] at h3
            cases h3
          · have h3 : t.Pairwise (· ≤ ·) := by
              refine (sortI_iff t).mp ((eqv_ints _ _).mp ?_)
              simpa using h3
            have hD5 := s5 _ _ hD
            refine ⟨.ref D, rfl, .inl ⟨rfl, _, SqL.of hD5⟩, .ref a, rfl, D, a, _, _, rfl, rfl, hD5, s5 _ _ ha3, ?_, ⟨_, rfl, same_put sm5 nD, ?_, ?_, ?_⟩⟩
            · rw [List.length_map, List.length_map]
              omega
            · rw [upd_same, takeSucc ht, List.flatten_append, List.map_append]
              simp
            · rw [takeSucc ht, List.flatten_append, List.length_append]
              simp only [List.flatten_cons, List.flatten_nil, List.append_nil]
              omega
            · intro u hu
              rw [takeSucc ht] at hu
              rcases List.mem_append.mp hu with hu | hu
              · exact hall u hu
              · rw [List.mem_singleton.mp hu]
                exact ⟨⟨h1, h2⟩, h3⟩
      · refine ⟨_, rfl, iteT (bad _ sm fun y => h1 (decide_eq_true ?_))⟩
        rw [List.length_map]
        have := y.1.1
        omega
    · obtain ⟨y4, rfl, sm, hD, hfl, hall⟩ := hI2
      rw [hxl, List.take_of_length_le (Nat.le_refl _)] at hD hfl hall
      have hfl4 : r.flatten.length ≤ 4000 := by omega
      -- the last part: behind the bounds and the looks for guests told twice
      have last : ∀ H3, Same H2 H3 → (∀ x ∈ r.flatten, 0 ≤ x ∧ x < g) → r.flatten.Nodup → tRet (tAndV (tOp (rI0 fun i j => .bl (decide (i ≤ j))) (tCB (fun xs H Q => ∃ p ys, xs = [V.ref p] ∧ (SqL K H p ys ∨ SqT K H p ys) ∧ Q (V.int ys.length) H) (tCons (tVar 2) tNil)) (tOp (rI CDiv fun i j => .int (i / j)) (tVar 0) (tVar 1)))
          (tOp (rEqD K) (tCB (fun xs H Q => ∃ p ys, xs = [V.ref p] ∧ (SqL K H p ys ∨ SqT K H p ys) ∧ ∀ l, H l = none → Q (V.ref l) (upd H l (.lst ys))) (tCons (tVar 2) tNil)) (tCB (rSortD K dT) (tCons (tVar 2) tNil))))
          { nx := fun _ H' => Q .non H', rt := Q } [some (.int g), some (.int z), some (.ref p), some (.ref D), y4] H3 := fun H3 s3 hlo hnd => by
        have sm3 := sm.trans s3
        have hp3 := sm3 _ _ hp
        refine ⟨.ref p, rfl, p, xs, rfl, .inr (SqT.of hp3), .int g, rfl, .int z, rfl, g, z, rfl, rfl, ⟨by have := hI.s2; omega, by omega⟩, _, _, rfl, rfl, _, rfl, ite2 (fun h1 => ?_) (fun h1 => ?_)⟩
        · have h1 : (r.length : Int) ≤ g / z := by
            have := of_decide_eq_true h1
            omega
          refine ⟨.ref p, rfl, p, xs, rfl, .inr (SqT.of hp3), fun b nb => ?_⟩
          have s4 : Same H3 (upd H3 b (.lst xs)) := same_new nb
          refine ⟨.ref p, rfl, ?_⟩
          dsimp only [tNil]
          refine sort_tabs (.inr (SqT.of (s4 _ _ hp3))) (paired_mono (fun _ _ h => h.mono (same_toT (sm3.trans s4))) hxs) (fun t ht e => ?_) fun ys c nc hys => ?_
          · have := (hall t ht).1.1
            rw [e] at this
            simp at this
          · have s5 : Same (upd H3 b (.lst xs)) (upd (upd H3 b (.lst xs)) c (.lst ys)) := same_new nc
            have sm5 := (sm3.trans s4).trans s5
            refine ⟨.list (r.map dT), .list ((sortT r).map dT), dp_lst (fun _ _ h => dp_tab h) (SqL.of (s5 _ _ upd_same)) (paired_mono (fun _ _ h => h.mono (same_toT sm5)) hxs),
              dp_lst (fun _ _ h => dp_tab h) (SqL.of upd_same) (paired_mono (fun _ _ h => h.mono (same_toT s5)) hys), shTabs _, shTabs _, ?_⟩
            refine q _ _ sm5 ?_
            rw [eqv_tabs, sortT_iff]
            exact ⟨fun e => ⟨fun t ht => (hall t ht).1, fun t ht => (hall t ht).2, hlo, hnd, h1, e⟩, fun e => e.ord⟩
        · exact no _ sm3 fun y => h1 (decide_eq_true (by have := y.ct; omega))
      -- len(set(everyone)) != len(everyone)
      have two : ∀ H3, Same H2 H3 → (∀ x ∈ r.flatten, 0 ≤ x ∧ x < g) → tTest (tOp rNe (tLenSet K (tVar 3)) (tCB (fun xs H Q => ∃ p ys, xs = [V.ref p] ∧ (SqL K H p ys ∨ SqT K H p ys) ∧ Q (V.int ys.length) H) (tCons (tVar 3) tNil)))
          [some (.int g), some (.int z), some (.ref p), some (.ref D), y4] H3 (fun b H4 => if b = true then tRet (tC (.bl false)) { nx := fun _ H' => Q .non H', rt := Q } [some (.int g), some (.int z), some (.ref p), some (.ref D), y4] H4 else
            tRet (tAndV (tOp (rI0 fun i j => .bl (decide (i ≤ j))) (tCB (fun xs H Q => ∃ p ys, xs = [V.ref p] ∧ (SqL K H p ys ∨ SqT K H p ys) ∧ Q (V.int ys.length) H) (tCons (tVar 2) tNil)) (tOp (rI CDiv fun i j => .int (i / j)) (tVar 0) (tVar 1)))
          (tOp (rEqD K) (tCB (fun xs H Q => ∃ p ys, xs = [V.ref p] ∧ (SqL K H p ys ∨ SqT K H p ys) ∧ ∀ l, H l = none → Q (V.ref l) (upd H l (.lst ys))) (tCons (tVar 2) tNil)) (tCB (rSortD K dT) (tCons (tVar 2) tNil))))
          { nx := fun _ H' => Q .non H', rt := Q } [some (.int g), some (.int z), some (.ref p), some (.ref D), y4] H4) := fun H3 s3 hlo => by
        have hD3 := s3 _ _ hD
        refine ⟨.ref D, rfl, D, r.flatten, rfl, SqL.of hD3, hfl4, .ref D, rfl, D, _, rfl, .inl (SqL.of hD3), rfl, _, rfl, ite2 (fun h1 => ?_) (fun h1 => ?_)⟩
        · refine no _ (sm.trans s3) fun y => ?_
          have e := (metN_iff _).mpr y.nd
          rw [List.length_map, e] at h1
          simp at h1
        · refine last _ s3 hlo ((metN_iff _).mp ?_)
          rw [List.length_map] at h1
          have : V.int (metN r.flatten : Nat) = V.int (r.flatten.length : Nat) := by simpa using h1
          have := V.int.inj this
          omega
      -- everyone != []
      refine ⟨.ref D, rfl, Nat.zero_le _, fun e ne => ?_⟩
      have s3 : Same H2 (upd H2 e (.lst [])) := same_new ne
      refine ⟨.list (r.flatten.map .int), .list [], .lst (SqL.of (s3 _ _ hD)) (dpAll_ints _), .lst (SqL.of upd_same) .nil, shInts _, shNil, _, rfl, ?_⟩
      rw [eqv_nil]
      cases hf : r.flatten with
      | nil =>
        refine iteF (iteF ?_)
        exact two _ s3 (by rw [hf]; simp)
      | cons f0 fr =>
        refine iteT ?_
        have hpos : 0 < r.flatten.length := by rw [hf]; simp
        refine ⟨.ref D, rfl, D, r.flatten, rfl, SqL.of (s3 _ _ hD), hpos, fun m hm hmin => ⟨m, 0, rfl, rfl, _, rfl, ite2 (fun h1 => ?_) (fun h1 => ?_)⟩⟩
        · refine iteT (no _ (sm.trans s3) fun y => ?_)
          have := (y.lo m hm).1
          have := of_decide_eq_true h1
          omega
        · have h1 : 0 ≤ m := by
            have : ¬ m < 0 := fun e => h1 (decide_eq_true e)
            omega
          refine ⟨.ref D, rfl, D, r.flatten, rfl, SqL.of (s3 _ _ hD), hpos, fun M hM hmax => ⟨.int g, rfl, M, g, rfl, rfl, _, rfl, ite2 (fun h2 => ?_) (fun h2 => ?_)⟩⟩
          · refine (no _ (sm.trans s3) fun y => ?_)
            have := (y.lo M hM).2
            have := of_decide_eq_true h2
            omega
          · have h2 : M < g := by
              have : ¬ g ≤ M := fun e => h2 (decide_eq_true e)
              omega
            refine two _ s3 fun x hx => ?_
            have := hmin x hx
            have := hmax x hx
            omega
end Nf

set_option Elab.async false
set_option linter.all false
set_option maxRecDepth 100000
set_option maxHeartbeats 4000000
namespace Nf
open PySem PySem.Spec PyProof.Rows L2
/-! ### d.update(e), keys that are pairs -/
/-- the hash of a pair of small numbers -/
def hP (a b : Nat) : Int := reduceHash (Builtin.Tuple.tupleHashOf [hashInt (a : Nat), hashInt (b : Nat)])
def pairL : List (Nat × Nat) := (List.range 64).flatMap fun a => (List.range 64).filterMap fun b => if a < b then some (a, b) else none
/-- all unlike, looked up in a number's bits -/
def unlikeB {α : Type} (f : α → Nat) : List α → Nat → Bool
  | [], _ => true
  | x :: xs, m => !(m.testBit (f x)) && unlikeB f xs (m ||| 1 <<< f x)
theorem unlikeB_nodup {α : Type} (f : α → Nat) : ∀ (l : List α) (m : Nat), unlikeB f l m = true → l.Pairwise (fun x y => f x ≠ f y) ∧ ∀ x ∈ l, m.testBit (f x) = false
  | [], _, _ => ⟨.nil, fun _ h => by simp at h⟩
  | x :: l, m, h => by
    simp only [unlikeB, Bool.and_eq_true, Bool.not_eq_true'] at h
    obtain ⟨h1, h2⟩ := unlikeB_nodup f l _ h.2
    have key : ∀ y ∈ l, f x ≠ f y ∧ m.testBit (f y) = false := fun y hy => by
      have := h2 y hy
      rw [Nat.testBit_or, Bool.or_eq_false_iff] at this
      refine ⟨fun e => ?_, this.1⟩
      have z := this.2
      rw [← e, Nat.one_shiftLeft, Nat.testBit_two_pow_self] at z
      cases z
    refine ⟨List.pairwise_cons.mpr ⟨fun y hy => (key y hy).1, h1⟩, fun y hy => ?_⟩
    rcases List.mem_cons.mp hy with rfl | hy
    · exact h.1
    · exact (key y hy).2
theorem pair_hash : unlikeB (fun p : Nat × Nat => (hP p.1 p.2 % 18057).toNat) pairL 0 = true := by decide +kernel
theorem mem_pairL {a b : Nat} (h : a < b) (hb : b < 64) : (a, b) ∈ pairL := by
  unfold pairL
  rw [List.mem_flatMap]
  refine ⟨a, List.mem_range.mpr (by omega), ?_⟩
  rw [List.mem_filterMap]
  exact ⟨b, List.mem_range.mpr hb, if_pos h⟩
theorem pw_inj {α : Type} {β : Type} {f : α → β} : ∀ {l : List α}, l.Pairwise (fun x y => f x ≠ f y) → ∀ x ∈ l, ∀ y ∈ l, f x = f y → x = y
  | [], _, x, hx, _, _, _ => by simp at hx
  | z :: l, h, x, hx, y, hy, e => by
    obtain ⟨h1, h2⟩ := List.pairwise_cons.mp h
    rcases List.mem_cons.mp hx with ex | hx
    · rcases List.mem_cons.mp hy with ey | hy
      · rw [ex, ey]
      · rw [ex] at e
        exact absurd e (h1 y hy)
    · rcases List.mem_cons.mp hy with ey | hy
      · rw [ey] at e
        exact absurd e.symm (h1 x hx)
      · exact pw_inj h2 x hx y hy e
theorem hP_inj {a b c d : Nat} (h1 : a < b) (h2 : b < 64) (h3 : c < d) (h4 : d < 64) (e : hP a b = hP c d) : a = c ∧ b = d := by
  have z := pw_inj (unlikeB_nodup _ _ _ pair_hash).1 (a, b) (mem_pairL h1 h2) (c, d) (mem_pairL h3 h4) (by
    show (hP a b % 18057).toNat = (hP c d % 18057).toNat
    rw [e])
  exact Prod.mk.inj z
/-- a pair that can stand at a table -/
def PairOk (p : Int × Int) : Prop := 0 ≤ p.1 ∧ p.1 < p.2 ∧ p.2 < 64
theorem hash_pairs {P : Program} {w : World} : ∀ {ks : List (Int × Int)}, ks.Nodup → (∀ p ∈ ks, PairOk p) → (ks.map fun p => tupleKeyHash (mixKind P w) (key2 p)).Nodup
  | [], _, _ => by simp
  | x :: ks, hn, hk => by
    obtain ⟨h1, h2⟩ := List.nodup_cons.mp hn
    rw [List.map_cons]
    refine List.nodup_cons.mpr ⟨fun h => ?_, hash_pairs h2 fun p hp => hk p (by simp [hp])⟩
    obtain ⟨y, hy, e⟩ := List.mem_map.mp h
    obtain ⟨a1, a2, a3⟩ := hk x (by simp)
    obtain ⟨b1, b2, b3⟩ := hk y (by simp [hy])
    obtain ⟨xa, xb⟩ := x
    obtain ⟨ya, yb⟩ := y
    simp only at a1 a2 a3 b1 b2 b3
    obtain ⟨na, rfl⟩ := Int.eq_ofNat_of_zero_le a1
    obtain ⟨nb, rfl⟩ := Int.eq_ofNat_of_zero_le (show 0 ≤ xb by omega)
    obtain ⟨ma, rfl⟩ := Int.eq_ofNat_of_zero_le b1
    obtain ⟨mb, rfl⟩ := Int.eq_ofNat_of_zero_le (show 0 ≤ yb by omega)
    have e : hP ma mb = hP na nb := e
    obtain ⟨z1, z2⟩ := hP_inj (by omega) (by omega) (by omega) (by omega) e
    exact h1 (by rw [← z1, ← z2]; exact hy)
section
variable {X : Cx}
theorem kt_all {H : Hp} : ∀ {more : List (List L2.Key × V)} {ys : List (List L2.Key × Addr × Value)}, KT H more ys → ∀ {kvs : List (List L2.Key × V)} {xs : List (List L2.Key × Addr × Value)}, KT H kvs xs → KT H (more.foldl (fun acc p => putK acc p.1 p.2) kvs) (storedAllH xs ys)
  | _, _, .nil, _, _, h => h
  | _, _, .cons (a := p) (b := q) r t, kvs, xs, h => by
    obtain ⟨r1, r2, r3⟩ := r
    rw [List.foldl_cons]
    refine kt_all t (xs := storedH xs q.1 q.2.1 q.2.2) ?_
    rw [← r1]
    exact KT.put h p.1 r2 r3
theorem putAll_len : ∀ (more kvs : List (List L2.Key × V)), (more.foldl (fun acc p => putK acc p.1 p.2) kvs).length ≤ kvs.length + more.length
  | [], kvs => Nat.le_refl _
  | p :: more, kvs => by
    have h1 := putAll_len more (putK kvs p.1 p.2)
    have h2 := length_putK kvs p.1 p.2
    rw [List.foldl_cons, List.length_cons]
    omega
def rUpdT (P : Program) (w : World) : V → List V → Hp → VK → Prop := fun x xs H Q => ∃ (a b : Addr) (kvs more : List (List L2.Key × V)), x = .ref a ∧ xs = [.ref b] ∧ a ≠ b ∧ H a = some (.dT kvs) ∧ H b = some (.dT more) ∧
  (kvs ≠ [] ∨ (more.map fun p => tupleKeyHash (mixKind P w) p.1).Nodup) ∧ kvs.length + more.length ≤ sizeLine ∧ Q .non (upd H a (.dT (more.foldl (fun acc p => putK acc p.1 p.2) kvs)))
theorem mt_updT (hu : X.A.units + 1 < cLine) : MtR X "dict.update" (rUpdT X.prog X.w) := by
  intro pins s σ H x xs v us Q I rx rxs h
  obtain ⟨a, b, kvs, more, rfl, rfl, nab, ha, hb, hap, hsz, q⟩ := h
  cases rx
  rw [Vals.ref1 rxs]
  obtain ⟨z1, hd1, xs1, rel1, dd1⟩ := dt_of I.hok ha
  obtain ⟨z2, hd2, xs2, rel2, dd2⟩ := dt_of I.hok hb
  have l1 : xs1.length = kvs.length := (Paired.length rel1).symm
  have l2 : xs2.length = more.length := (Paired.length rel2).symm
  have ek : ∀ {l : List (List L2.Key × V)} {m : List (List L2.Key × Addr × Value)}, KT H l m → m.map (fun x => (tupleKind (mixKind X.prog X.w)).hash x.1) = l.map fun p => tupleKeyHash (mixKind X.prog X.w) p.1 := fun {l m} r => by
    induction r with
    | nil => rfl
    | cons h t ih =>
      rw [List.map_cons, List.map_cons, ih, ← h.1]
      rfl
  refine call_update_dictH (knd := tupleKind (mixKind X.prog X.w)) (tupleKind_room_in1 hu) nab hd2 dd1 dd2 ?_ (by omega) fun h' d1 d2 hs => ?_
  · rcases hap with z | z
    · refine .inl fun e => z ?_
      rw [e] at l1
      exact List.eq_nil_of_length_eq_zero l1.symm
    · refine .inr ⟨fun x hx => ?_, by rw [ek rel2]; exact z⟩
      obtain ⟨_, _, _, _, _, _, _, his, _⟩ := dd2
      exact IsTupleKey.typeIs (his x hx)
  · obtain ⟨o, es, ep, hq, h2, h3, h4, _, h5⟩ := d1
    have hl := putAll_len more kvs
    have I2 : Inv X pins σ (upd H a (.dT (more.foldl (fun acc p => putK acc p.1 p.2) kvs))) { s with heap := h', toks := s.toks } :=
      d_write I (by rw [ha]; exact True.intro) hs ⟨o, hq⟩ ⟨by omega, hd1, _, (kt_all rel2 rel1).keeps (fun c ys ec => (by rw [upd_ne (ne_of ec ha (fun z => nomatch z))]; exact ec)), o, es, ep, hq, h2, h3, h4, h5⟩
    exact ⟨.non, _, I2, rfl, q⟩
end
/-- the keys of a dict are these pairs -/
def KnK (kvs : List (List L2.Key × V)) (ps : List (Int × Int)) : Prop := (∀ a b : Int, (valV kvs [Sum.inl a, Sum.inl b]).isSome = true ↔ (a, b) ∈ ps) ∧ ∃ ks : List (Int × Int), kvs.map (·.1) = ks.map key2 ∧ ks.Nodup
theorem knK_put {kvs : List (List L2.Key × V)} {ps : List (Int × Int)} (h : KnK kvs ps) (p : Int × Int) (v : V) : KnK (putK kvs (key2 p) v) (ps ++ [p]) := by
  obtain ⟨h1, ks, h2, h3⟩ := h
  refine ⟨fun a b => ?_, ?_⟩
  · rw [valV_put, List.mem_append, List.mem_singleton, ← h1]
    by_cases e : key2 (a, b) = key2 p
    · have e2 := key2_inj e
      have e3 : ([Sum.inl a, Sum.inl b] : List L2.Key) = key2 p := e
      rw [if_pos e3]
      simp [e2]
    · have e3 : ¬ ([Sum.inl a, Sum.inl b] : List L2.Key) = key2 p := e
      rw [if_neg e3]
      constructor
      · exact .inl
      · rintro (z | z)
        · exact z
        · exact absurd (by rw [z]) e
  · by_cases m : key2 p ∈ kvs.map (·.1)
    · exact ⟨ks, by rw [keysPut_old v m]; exact h2, h3⟩
    · refine ⟨ks ++ [p], by rw [keysPut_new v m, h2, List.map_append]; rfl, List.nodup_append.mpr ⟨h3, by simp, fun a ha b hb => ?_⟩⟩
      rw [List.mem_singleton.mp hb]
      rintro rfl
      exact m (by rw [h2]; exact mem_key2.mpr ha)
theorem knK_all : ∀ {more kvs : List (List L2.Key × V)} {ps ks : List (Int × Int)}, KnK kvs ps → more.map (·.1) = ks.map key2 → KnK (more.foldl (fun acc p => putK acc p.1 p.2) kvs) (ps ++ ks)
  | [], kvs, ps, ks, h, e => by
    have : ks = [] := by
      cases ks with
      | nil => rfl
      | cons _ _ => simp at e
    rw [this, List.append_nil]
    exact h
  | p :: more, kvs, ps, [], h, e => by simp at e
  | p :: more, kvs, ps, k :: ks, h, e => by
    rw [List.map_cons, List.map_cons] at e
    injection e with e1 e2
    rw [List.foldl_cons, e1]
    have := knK_all (knK_put h k p.2) e2
    rwa [List.append_assoc] at this
/-- known.update(known of another plan) -/
theorem knS_update {P : Program} {w : World} {H : Hp} {d e : Addr} {ps qs : List (Int × Int)} {N M : Nat} {Q : VK} (h1 : KnS H d ps N) (h2 : KnS H e qs M) (n : d ≠ e) (hb : ∀ p ∈ qs, PairOk p) (hz : N + M ≤ sizeLine)
    (q : ∀ o, KnS (upd H d o) d (ps ++ qs) (N + M) → Q .non (upd H d o)) : rUpdT P w (.ref d) [.ref e] H Q := by
  obtain ⟨kvs, hd, hl, hv, hk⟩ := h1
  obtain ⟨more, he, hm, hv2, ks, hk2, hn⟩ := h2
  have hmem : ∀ p, p ∈ ks ↔ p ∈ qs := fun p => by
    rw [← hv2 p.1 p.2, ← mem_key2, ← hk2, ← anyKey, ← valV_any]
    rfl
  refine ⟨d, e, kvs, more, rfl, rfl, n, hd, he, .inr ?_, by omega, q _ ?_⟩
  · have : (more.map fun p => tupleKeyHash (mixKind P w) p.1) = ks.map fun p => tupleKeyHash (mixKind P w) (key2 p) := by
      have e1 : (more.map fun p => tupleKeyHash (mixKind P w) p.1) = (more.map (·.1)).map (tupleKeyHash (mixKind P w)) := by rw [List.map_map]; rfl
      rw [e1, hk2, List.map_map]
      rfl
    rw [this]
    exact hash_pairs hn fun p hp => hb p ((hmem p).mp hp)
  · obtain ⟨k1, k2⟩ := knK_all (ps := ps) ⟨hv, hk⟩ hk2
    refine ⟨_, upd_same, Nat.le_trans (putAll_len _ _) (by omega), fun a b => ?_, k2⟩
    rw [k1 a b, List.mem_append, List.mem_append, hmem]
end Nf

set_option Elab.async false
set_option linter.all false
set_option maxRecDepth 100000
set_option maxHeartbeats 4000000
namespace Nf
open PySem PySem.Spec PyProof.Rows L2
variable {P : Program} {w : World} {K : PySem.W.Frag} {mg : Str → Option Value} {base : Heap}
/-! ### a round with hosts -/
/-- lists of numbers, all new, in a new list -/
structure SeatI (H0 H : Hp) (D : Addr) (ds : List Addr) (cs : List (List Int)) : Prop where
  sm : Same H0 H
  lst : H D = some (.lst (ds.map V.ref))
  nD : H0 D = none
  len : ds.length = cs.length
  nd : ds.Nodup
  new : ∀ d ∈ ds, H0 d = none ∧ d ≠ D
  at_ : ∀ (j : Nat) (d : Addr), ds[j]? = some d → ∃ c, cs[j]? = some c ∧ H d = some (.lst (c.map V.int))
theorem SeatI.keep {H0 H H' : Hp} {D : Addr} {ds : List Addr} {cs : List (List Int)} (h : SeatI H0 H D ds cs) (s : Same H H') : SeatI H0 H' D ds cs := by
  refine ⟨h.sm.trans s, s _ _ h.lst, h.nD, h.len, h.nd, h.new, fun j d e => ?_⟩
  obtain ⟨c, e1, e2⟩ := h.at_ j d e
  exact ⟨c, e1, s _ _ e2⟩
theorem nodup_ix {ds : List Addr} (nd : ds.Nodup) {i j : Nat} {d : Addr} (h1 : ds[i]? = some d) (h2 : ds[j]? = some d) : i = j := by
  obtain ⟨l1, e1⟩ := List.getElem?_eq_some_iff.mp h1
  obtain ⟨l2, e2⟩ := List.getElem?_eq_some_iff.mp h2
  rcases Nat.lt_trichotomy i j with z | z | z
  · exact absurd (e1.trans e2.symm) (List.pairwise_iff_getElem.mp nd i j l1 l2 z)
  · exact z
  · exact absurd (e2.trans e1.symm) (List.pairwise_iff_getElem.mp nd j i l2 l1 z)
/-- one more number behind the i-th -/
theorem SeatI.put {H0 H : Hp} {D : Addr} {ds : List Addr} {cs : List (List Int)} {i : Nat} {v : Int} (h : SeatI H0 H D ds cs) (hi : i < cs.length) :
    ∃ d c, (ds.map V.ref)[i]? = some (.ref d) ∧ cs.getD i [] = c ∧ H d = some (.lst (c.map V.int)) ∧ SeatI H0 (upd H d (.lst (c.map V.int ++ [.int v]))) D ds (addAt cs i v) := by
  have hl : i < ds.length := by rw [h.len]; exact hi
  have hd : ds[i]? = some ds[i] := List.getElem?_eq_getElem hl
  generalize ds[i] = d at hd
  obtain ⟨c, hc, hdc⟩ := h.at_ i d hd
  obtain ⟨n0, nD⟩ := h.new d (List.mem_of_getElem? hd)
  have ec : cs.getD i [] = c := by rw [List.getD_eq_getElem?_getD, hc]; rfl
  refine ⟨d, c, by rw [List.getElem?_map, hd]; rfl, ec, hdc, same_put h.sm n0, (upd_ne nD.symm).trans h.lst, h.nD, by rw [addAt_len]; exact h.len, h.nd, h.new, fun j d' e => ?_⟩
  rw [addAt_get hi, ec]
  by_cases ej : i = j
  · subst ej
    rw [hd] at e
    cases e
    refine ⟨c ++ [v], by rw [if_pos rfl], ?_⟩
    rw [upd_same, List.map_append]
    rfl
  · obtain ⟨c', e1, e2⟩ := h.at_ j d' e
    refine ⟨c', by rw [if_neg ej]; exact e1, ?_⟩
    rw [upd_ne (fun z => ej (nodup_ix h.nd (by rw [z] at e; exact hd) (by rw [z] at e; exact e)))]
    exact e2
theorem scHosted : FnScope ["tables", "size", "number", "seated", "step", "place", "host", "table"] ["tables", "size", "number"] (defScope sHosted) := ⟨rfl, rfl, rfl, by decide +kernel, rfl, by decide +kernel, by decide +kernel⟩
def rTupH (K : PySem.W.Frag) : List V → Hp → VK → Prop := fun xs H Q => ∃ p ys, xs = [.ref p] ∧ ((SqL K H p ys ∧ ∀ l, H l = none → Q (.ref l) (upd H l (.tup ys))) ∨ (SqT K H p ys ∧ Q (.ref p) H))
def spHosted : Sp := fun vs H Q _ => ∃ (T s n : Nat), vs = [.int (T : Nat), .int (s : Nat), .int (n : Nat)] ∧ 1 ≤ T ∧ T ≤ 8 ∧ 1 ≤ s ∧ s ≤ 8 ∧ n ≤ 8 ∧ ∀ y H', Same H H' → RndV H' y (hostM T s n) → Q y H'
theorem ok_hosted {f : Addr} {fd : FuncData} (F : Fun K "hosted" "hosted" sHosted f fd) (B : Blt mg) : FnOk P w K mg base CX0 1 f fd ["tables", "size", "number"] spHosted := by
  refine F.ok scHosted (fun vs H Q E h => ?_) (fun cdv A outer s H vs Q E hr h => ?_)
  · obtain ⟨T, s, n, rfl, _⟩ := h
    rfl
  · obtain ⟨T, z, n, rfl, hT1, hT8, hz1, hz8, hn8, q⟩ := h
    refine ⟨_, pss_cons (ps_setLc (i := 3) (own := [("host", 6)]) (g := gName 6) (tt := tYes) (te := tLst (tCons (tVar 6) tNil)) (by rfl) scHosted.nd rfl rfl (sw_true rfl rfl rfl (by decide +kernel)) (pi_range1 (by rfl) B.range (pa_cons (pv 0) pa_nil))
          (blkOk_by (N := ["tables", "size", "number", "seated", "step", "place", "host", "table"]) (sc := defScope sHosted) (by decide +kernel))
          (fun _ _ _ _ _ => pg_name (i := 6) (x := "host") scHosted.nd rfl (.inl rfl) (.inr rfl)) (fun _ _ _ _ _ => pts_nil)
          (fun _ _ _ _ _ => pe_lst (pa_cons (pv 6) pa_nil)))
      (pss_cons (ps_for PassesOwn.never rfl (pi_range2 (by rfl) B.range (pa_cons pe_int (pa_cons (pv 1) pa_nil))) (pg_name (i := 4) scHosted.nd rfl (.inl rfl))
        (pss_one (ps_for PassesOwn.never rfl (pi_range1 (by rfl) B.range (pa_cons (pv 0) pa_nil)) (pg_name (i := 5) scHosted.nd rfl (.inl rfl))
          (pss_one (ps_expr (pe_bm PySem.F.plainAttrs_list PySem.F.slot_list_append PySem.F.type_list_append mt_append (pe_ix ix_list (pv 3) (pe_op op_mod (pe_op op_add (pv 5) (pe_op op_mul (pv 4) (pv 2))) (pv 0)) (fun _ _ => rfl))
            (pa_cons (pe_op op_add (pe_op op_mul (pv 4) (pv 0)) (pv 5)) pa_nil)))))))
      (pss_one (ps_ret (pe_callTy call_tuple_of (by rfl) B.tuple (by decide +kernel) (pa_cons
        (pe_lc (own := [("table", 7)]) (g := gName 7) (wi := iList K (tVar 3)) (tt := tYes) (te := tCB (rTupH K) (tCons (tVar 7) tNil)) (by rfl) scHosted.nd (pi_list (pv 3))
          (blkOk_by (N := ["tables", "size", "number", "seated", "step", "place", "host", "table"]) (sc := defScope sHosted) (by decide +kernel))
          (fun _ _ _ _ _ => pg_name (i := 7) (x := "table") scHosted.nd rfl (.inl rfl) (.inr rfl)) (fun _ _ _ _ _ => pts_nil)
          (fun _ _ _ _ _ => pe_callTy call_tuple_of (by rfl) B.tuple (by decide +kernel) (pa_cons (pv 7) pa_nil))) pa_nil))))), ?_⟩
    have big : (100000 : Nat) < sizeLine := by decide
    -- seated
    refine ⟨.int _, rfl, _, rfl, by omega, by omega, fun D nD => ?_⟩
    have s0 : Same H (upd H D (.lst [])) := same_new nD
    refine lc_it walk_range (fun i H5 => ∃ ds, SeatI H H5 D ds ((List.range i).map fun j : Nat => [(j : Int)])) ⟨[], s0, upd_same, nD, rfl, .nil, by simp, by simp⟩ (fun _ _ _ _ => trivial) (fun i x H5 H6 hi hI y => ?_) (fun H5 hI => ?_)
    · obtain ⟨ds, hI⟩ := hI
      obtain ⟨rfl, hxv⟩ := y
      have hxv : x = V.int ((i : Nat) : Int) := hxv.trans (by show V.int (0 + ((i : Nat) : Int)) = _; rw [Int.zero_add])
      subst hxv
      refine ⟨wipe_put (by decide), yesT ?_⟩
      refine ⟨.int _, rfl, (by show 1 ≤ sizeLine; decide), fun d nd => ?_⟩
      have s1 : Same H6 (upd H6 d (.lst [.int ((i : Nat) : Int)])) := same_new nd
      have hI1 := hI.keep s1
      have hdD : d ≠ D := fun e => by
        rw [e, hI.lst] at nd
        cases nd
      have hdl : ds.length = i := by rw [hI.len]; simp
      have hnd : d ∉ ds := fun hm => by
        obtain ⟨j, hj⟩ := List.mem_iff_getElem?.mp hm
        obtain ⟨c, _, e2⟩ := hI.at_ j d hj
        rw [e2] at nd
        cases nd
      have hd1 : (upd H6 d (.lst [.int ((i : Nat) : Int)])) d = some (.lst [.int ((i : Nat) : Int)]) := upd_same
      generalize (upd H6 d (.lst [.int ((i : Nat) : Int)])) = H7 at s1 hI1 hd1 ⊢
      refine ⟨_, hI1.lst, by rw [List.length_map]; omega, ds ++ [d], same_put hI1.sm nD, ?_, nD, ?_, ?_, fun d' hd' => ?_, fun j d' hj => ?_⟩
      · rw [upd_same, List.map_append]
        rfl
      · rw [List.length_append, List.length_map, List.length_range, hdl]
        rfl
      · refine List.nodup_append.mpr ⟨hI1.nd, by simp, fun a ha b hb e => ?_⟩
        rw [List.mem_singleton.mp hb] at e
        exact hnd (e ▸ ha)
      · rcases List.mem_append.mp hd' with hd' | hd'
        · exact hI1.new d' hd'
        · rw [List.mem_singleton.mp hd']
          exact ⟨hI.sm.free nd, hdD⟩
      · rw [List.range_succ, List.map_append]
        by_cases hlt : j < ds.length
        · rw [List.getElem?_append_left hlt] at hj
          obtain ⟨c, e1, e2⟩ := hI1.at_ j d' hj
          refine ⟨c, ?_, ?_⟩
          · rw [List.getElem?_append_left (by rw [List.length_map, List.length_range]; omega)]
            exact e1
          · rw [upd_ne (hI1.new d' (List.mem_of_getElem? hj)).2]
            exact e2
        · have hj2 := hj
          rw [List.getElem?_append_right (by omega)] at hj2
          have ej : j - ds.length = 0 := by
            have := (List.getElem?_eq_some_iff.mp hj2).1
            simp at this
            omega
          rw [ej] at hj2
          have ed : d = d' := by simpa using hj2
          subst ed
          refine ⟨[((i : Nat) : Int)], ?_, ?_⟩
          · rw [List.getElem?_append_right (by rw [List.length_map, List.length_range]; omega), List.length_map, List.length_range]
            have : j - i = 0 := by omega
            rw [this]
            rfl
          · rw [upd_ne hdD]
            exact hd1
    · obtain ⟨ds, hI⟩ := hI
      have hI : SeatI H H5 D ds (simS T n 0) := hI
      -- for step in range(1, size)
      refine ⟨.int _, rfl, _, _, rfl, ⟨by decide, by decide, by omega, by omega⟩, ?_⟩
      refine for_it walk_range (fun k σ H6 => ∃ (y4 y5 : Option V), σ = [some (.int (T : Nat)), some (.int (z : Nat)), some (.int (n : Nat)), some (.ref D), y4, y5, none, none] ∧ SeatI H H6 D ds (simS T n k)) ⟨none, none, rfl, hI⟩ (fun _ _ _ _ _ => trivial) (fun k x σ H6 H7 hk hK y => ?_) (fun σ H6 hK => ?_)
      · obtain ⟨y4, y5, rfl, hK⟩ := hK
        obtain ⟨rfl, hxv⟩ := y
        have hxv : x = V.int ((k + 1 : Nat) : Int) := hxv.trans (by show V.int (1 + ((k : Nat) : Int)) = _; congr 1; omega)
        subst hxv
        refine ⟨.int _, rfl, _, rfl, by omega, by omega, ?_⟩
        refine for_it walk_range (fun p σ H8 => ∃ (y5 : Option V), σ = [some (.int (T : Nat)), some (.int (z : Nat)), some (.int (n : Nat)), some (.ref D), some (.int ((k + 1 : Nat) : Int)), y5, none, none] ∧ SeatI H H8 D ds (simP T n (k + 1) (simS T n k) p)) ⟨y5, rfl, hK⟩ (fun _ _ _ _ _ => trivial) (fun p x σ H8 H9 hp hP y => ?_) (fun σ H8 hP => ?_)
        · obtain ⟨y5, rfl, hP⟩ := hP
          obtain ⟨rfl, hxv⟩ := y
          have hxv : x = V.int ((p : Nat) : Int) := hxv.trans (by show V.int (0 + ((p : Nat) : Int)) = _; rw [Int.zero_add])
          subst hxv
          have hlen : (simP T n (k + 1) (simS T n k) p).length = T := by rw [simP_len, simS_len]
          have hi : (p + (k + 1) * n) % T < (simP T n (k + 1) (simS T n k) p).length := by
            rw [hlen]
            exact Nat.mod_lt _ (by omega)
          obtain ⟨d, c, hd, hc, hdc, hP2⟩ := hP.put (v := (((k + 1) * T + p : Nat) : Int)) hi
          have hkz : k + 1 ≤ 8 := by omega
          have hcl : c.length ≤ 1000 := by
            rw [← hc, List.getD_eq_getElem?_getD, List.getElem?_eq_getElem hi]
            have := simP_each (simS_each (T := T) (n := n) k) p _ (List.getElem_mem hi)
            have h2 : k * T ≤ 8 * 8 := Nat.mul_le_mul (by omega) hT8
            exact Nat.le_trans this (by omega)
          have ei : (((p : Nat) : Int) + ((k + 1 : Nat) : Int) * ((n : Nat) : Int)) % ((T : Nat) : Int) = (((p + (k + 1) * n) % T : Nat) : Int) := by
            simp only [Int.natCast_emod, Int.natCast_add, Int.natCast_mul]
          have ev : ((k + 1 : Nat) : Int) * ((T : Nat) : Int) + ((p : Nat) : Int) = (((k + 1) * T + p : Nat) : Int) := by
            simp only [Int.natCast_add, Int.natCast_mul]
          have hP3 : SeatI H (upd H9 d (.lst (c.map V.int ++ [.int (((k + 1 : Nat) : Int) * ((T : Nat) : Int) + ((p : Nat) : Int))]))) D ds (addAt (simP T n (k + 1) (simS T n k) p) ((p + (k + 1) * n) % T) (((k + 1) * T + p : Nat) : Int)) := by
            rw [ev]
            exact hP2
          refine ⟨.ref D, rfl, .int _, rfl, .int _, rfl, .int _, rfl, _, _, rfl, rfl, .inl ⟨by omega, by omega⟩, _, _, rfl, rfl, .int _, rfl, _, _, rfl, rfl, (by omega : (0 : Int) < (T : Nat)), D, _, _, .ref d, rfl, rfl, SqL.of hP.lst, ?_, ?_⟩
          · rw [ei]
            exact atI_nat hd
          refine ⟨.inl ⟨rfl, _, SqL.of hdc⟩, .int _, rfl, .int _, rfl, _, _, rfl, rfl, .inl ⟨by omega, by omega⟩, .int _, rfl, _, _, rfl, rfl, d, _, _, rfl, rfl, hdc, by rw [List.length_map]; omega, ?_⟩
          exact ⟨_, rfl, hP3⟩
        · obtain ⟨y5, rfl, hP⟩ := hP
          exact ⟨_, _, rfl, hP⟩
      · obtain ⟨y4, y5, rfl, hK⟩ := hK
        have ek : ((((z : Nat) : Int) - 1).toNat) = z - 1 := by omega
        rw [ek] at hK
        have hdl : ds.length = T := by rw [hK.len, simS_len]
        -- tuple([tuple(table) for table in seated])
        refine ⟨.ref D, rfl, D, rfl, ⟨_, SqL.of hK.lst⟩, fun D2 nD2 => ?_⟩
        have s2 : Same H6 (upd H6 D2 (.lst [])) := same_new nD2
        refine lc_it (walk_list (xs := ds.map V.ref)) (fun i H7 => Same H6 H7 ∧ ∃ acc, H7 D2 = some (.lst acc) ∧ acc.length = i ∧ Paired (TabV H7) acc ((simS T n (z - 1)).take i)) ⟨s2, [], upd_same, rfl, .nil⟩ (fun i H7 _ h => SqL.of (h.1 _ _ hK.lst)) (fun i x H7 H8 hi hJ y => ?_) (fun H7 hJ => ?_)
        · obtain ⟨sm, acc, hD2, hal, hac⟩ := hJ
          obtain ⟨rfl, hx⟩ := y
          rw [List.getElem?_map] at hx
          obtain ⟨d, hd, rfl⟩ := Option.map_eq_some_iff.mp hx
          obtain ⟨c, hc, hdc⟩ := hK.at_ i d hd
          refine ⟨wipe_put (by decide), yesT ?_⟩
          refine ⟨.ref d, rfl, d, _, rfl, .inl ⟨SqL.of (sm _ _ hdc), fun t nt => ?_⟩⟩
          have s3 : Same H8 (upd H8 t (.tup (c.map V.int))) := same_new nt
          have hD3 := s3 _ _ hD2
          rw [List.length_map] at hi
          refine ⟨acc, hD3, by omega, same_put (sm.trans s3) nD2, acc ++ [.ref t], upd_same, by rw [List.length_append, List.length_singleton]; omega, ?_⟩
          have keepT : ∀ {v : V} {u : Tbl}, TabV _ v u → TabV (upd _ D2 (.lst (acc ++ [.ref t]))) v u := fun {v u} h => by
            obtain ⟨a, rfl, ha⟩ := h
            exact ⟨a, rfl, by rw [upd_ne (ne_of ha hD3 (by intro e; cases e))]; exact ha⟩
          rw [takeSucc hc]
          exact paired_snoc (paired_mono (fun v u h => keepT (h.mono (same_toT s3))) hac) (keepT ⟨t, rfl, upd_same⟩)
        · obtain ⟨sm, acc, hD2, hal, hac⟩ := hJ
          rw [List.length_map, hdl, List.take_of_length_le (by rw [simS_len]; exact Nat.le_refl _)] at hac
          refine ⟨D2, _, rfl, .inl ⟨SqL.of hD2, fun t nt => ?_⟩⟩
          have s4 : Same H7 (upd H7 t (.tup acc)) := same_new nt
          exact q _ _ ((hK.sm.trans sm).trans s4) ⟨t, acc, rfl, upd_same, paired_mono (fun _ _ h => h.mono (same_toT s4)) hac⟩
end Nf

set_option Elab.async false
set_option linter.all false
set_option maxRecDepth 100000
set_option maxHeartbeats 4000000
namespace Nf
open PySem PySem.Spec PyProof.Rows L2
variable {P : Program} {w : World} {K : PySem.W.Frag} {mg : Str → Option Value} {base : Heap}
/-! ### with_hosts -/
/-- HOSTED_TABLES -/
def HoT (K : PySem.W.Frag) (mg : Str → Option Value) : Prop := ∃ u, mg "HOSTED_TABLES" = some (.ref u) ∧ ∀ H, SqT K H u [.int 2, .int 3, .int 5, .int 7]
theorem inV_host (t : Int) : inV (.int t) [.int 2, .int 3, .int 5, .int 7] = decide (t = 2 ∨ t = 3 ∨ t = 5 ∨ t = 7) := by
  show ((2 == t) || ((3 == t) || ((5 == t) || ((7 == t) || false)))) = _
  rw [Bool.eq_iff_iff]
  simp
  omega
theorem scWithHosts : FnScope ["tables", "size", "number"] ["tables", "size"] (defScope sWithHosts) := ⟨rfl, rfl, rfl, by decide +kernel, rfl, by decide +kernel, by decide +kernel⟩
def spWithHosts : Sp := fun vs H Q _ => ∃ (T s : Nat), vs = [.int (T : Nat), .int (s : Nat)] ∧ IsHost T s ∧ ∀ H' q ys, Same H H' → H q = none → H' q = some (.lst ys) → Paired (RndV H') ys (hostP T s) → Q (.ref q) H'
theorem hostP_take {T s n : Nat} (hn : n < T) : (hostP T s).take (n + 1) = (hostP T s).take n ++ [hostM T s n] := by
  refine takeSucc ?_
  unfold hostP
  rw [List.getElem?_map, List.getElem?_range hn]
  rfl
theorem hostP_len (T s : Nat) : (hostP T s).length = T := by simp [hostP]
theorem ok_withHosts {f fH : Addr} {fd fdH : FuncData} (F : Fun K "with_hosts" "with_hosts" sWithHosts f fd) (B : Blt mg) (Z : HoT K mg) (ms : ∃ t, mg "SMALLEST_SIZE" = some (.int 2 t))
    (FH : Fun K "hosted" "hosted" sHosted fH fdH) (bH : Binds K fdH ["tables", "size", "number"] []) (gH : mg "hosted" = some (.ref fH)) :
    FnOk P w K mg base CX0 2 f fd ["tables", "size"] spWithHosts := by
  have GH : FnOk P w K mg base CX0 1 fH fdH ["tables", "size", "number"] spHosted := ok_hosted FH B
  obtain ⟨u, hu, hZ⟩ := Z
  obtain ⟨t2, m2⟩ := ms
  refine F.ok scWithHosts (fun vs H Q E h => ?_) (fun cdv A outer s H vs Q E hr h => ?_)
  · obtain ⟨T, s, rfl, _⟩ := h
    rfl
  · obtain ⟨T, z, rfl, hI, q⟩ := h
    refine ⟨_, pss_cons (ps_if (PW.pt (pw_or (pt_cmpR op_notIn_seq (pv 0) (pe_glob (v := .ref u) (by rfl) hu rfl) (by rfl)) (pw_or1 (pt_not (pt_chain op_le op_le (pe_glob (v := .int 2) (by rfl) m2 ⟨_, rfl⟩) (pv 1) (pv 0)))))) pss_never pss_nil)
      (pss_one (ps_ret (pe_lc (own := [("number", 2)]) (g := gName 2) (tt := tYes) (te := tCall spHosted [] E0 (tCons (tVar 0) (tCons (tVar 1) (tCons (tVar 2) tNil)))) (by rfl) scWithHosts.nd (pi_range1 (by rfl) B.range (pa_cons (pv 0) pa_nil))
          (blkOk_by (N := ["tables", "size", "number"]) (sc := defScope sWithHosts) (by decide +kernel))
          (fun _ _ _ _ _ => pg_name (i := 2) (x := "number") scWithHosts.nd rfl (.inl rfl) (.inr rfl)) (fun _ _ _ _ _ => pts_nil)
          (fun _ _ _ _ _ => pe_call GH hr (by rfl) gH FH.kp bH .nil pass0 (pa_cons (pv 0) (pa_cons (pv 1) (pa_cons (pv 2) pa_nil))))))), ?_⟩
    have big : (100000 : Nat) < sizeLine := by decide
    have hs2 := hI.s2
    have hsT := hI.sT
    have hT7 : T ≤ 7 := by
      have := hI.t
      omega
    have e1 : (!inV (.int (T : Nat)) [.int 2, .int 3, .int 5, .int 7]) = false := by
      rw [inV_host, decide_eq_true (by have := hI.t; omega)]
      rfl
    refine ⟨.int _, rfl, u, _, rfl, .inr (hZ H), rfl, rfl, _, rfl, ?_⟩
    rw [e1]
    refine iteF ?_
    refine ⟨.int _, rfl, 2, (z : Nat), rfl, rfl, _, rfl, ite2 (fun h1 => ?_) (fun h1 => absurd (decide_eq_true (by omega)) h1)⟩
    refine ⟨.int _, rfl, (z : Nat), (T : Nat), rfl, rfl, _, rfl, ?_⟩
    have e2 : decide (((z : Nat) : Int) ≤ ((T : Nat) : Int)) = true := decide_eq_true (by omega)
    rw [e2]
    refine iteF ?_
    refine ⟨.int _, rfl, _, rfl, by omega, by omega, fun D nD => ?_⟩
    have s0 : Same H (upd H D (.lst [])) := same_new nD
    refine lc_it walk_range (fun i H5 => Same H H5 ∧ ∃ acc, H5 D = some (.lst acc) ∧ acc.length = i ∧ Paired (RndV H5) acc ((hostP T z).take i)) ⟨s0, [], upd_same, rfl, .nil⟩ (fun _ _ _ _ => trivial) (fun i x H5 H6 hi hI5 y => ?_) (fun H5 hI5 => ?_)
    · obtain ⟨sm, acc, hD, hal, hac⟩ := hI5
      obtain ⟨rfl, hxv⟩ := y
      have hxv : x = V.int ((i : Nat) : Int) := hxv.trans (by show V.int (0 + ((i : Nat) : Int)) = _; rw [Int.zero_add])
      subst hxv
      refine ⟨wipe_put (by decide), yesT ?_⟩
      refine ⟨.int _, rfl, .int _, rfl, .int _, rfl, T, z, i, rfl, by omega, by omega, by omega, by omega, by omega, fun y H7 s7 hy => ?_⟩
      have hD7 := s7 _ _ hD
      refine ⟨acc, hD7, by omega, same_put (sm.trans s7) nD, acc ++ [y], upd_same, by rw [List.length_append, List.length_singleton]; omega, ?_⟩
      have sq : SameT H7 (upd H7 D (.lst (acc ++ [y]))) := fun a us ha => by
        rw [upd_ne (ne_of ha hD7 (by intro e; cases e))]
        exact ha
      rw [hostP_take (by omega)]
      exact paired_snoc (paired_mono (fun _ _ h => RndV.mono h ((same_toT s7).trans sq)) hac) (hy.mono sq)
    · obtain ⟨sm, acc, hD, hal, hac⟩ := hI5
      have et : (((T : Nat) : Int).toNat) = T := by omega
      rw [et, List.take_of_length_le (by rw [hostP_len]; exact Nat.le_refl _)] at hac
      exact q _ D acc sm nD hD hac
/-- what is known of BadParty, so that it is raised and caught -/
structure BpTxt (K : PySem.W.Frag) (mg : Str → Option Value) (CP : Addr) : Prop where
  g : mg "BadParty" = some (.ref CP)
  x : PySem.W.excIn K CP [.type "ValueError", .type "Exception", .type "BaseException", .type "object"] "ValueError.__new__" = true
  k : PySem.W.keepIn K (.ref CP) = true
  b : PySem.W.subIn K (.ref CP) (.type "BaseException") = some true
  t : PySem.W.typeIn K (.ref CP) = some (.type "type")
  e : PySem.W.exmOne K (.ref CP) (.ref CP) = some true
def spNoHosts (CP : Addr) : Sp := fun vs H _ E => ∃ (t s : Int), vs = [.int t, .int s] ∧ (¬ (t = 2 ∨ t = 3 ∨ t = 5 ∨ t = 7) ∨ ¬ (2 ≤ s ∧ s ≤ t)) ∧ t.natAbs < 1000 ∧ s.natAbs < 1000 ∧ ∀ H', Same H H' → E (.ref CP) none H'
theorem small_log {t : Int} (h : t.natAbs < 1000) : t.natAbs.log2 < 1920 := Nat.lt_of_le_of_lt (Nat.log2_le_self _) (by omega)
theorem host_words {t s : Int} (ht : t.natAbs.log2 < 1920) (hs : s.natAbs.log2 < 1920) {a b : Str} (ha : a.length ≤ 1000) (hb : b.length ≤ 1000) : (Str.empty ++ a).length ≤ sizeLine ∧ (Str.empty ++ a ++ Str.ofString (toString t)).length ≤ sizeLine ∧ (Str.empty ++ a ++ Str.ofString (toString t) ++ b).length ≤ sizeLine ∧ (Str.empty ++ a ++ Str.ofString (toString t) ++ b ++ Str.ofString (toString s)).length ≤ sizeLine := by
  have e := int_text_length_le (k := 1920) (by decide) ht
  have e2 := int_text_length_le (k := 1920) (by decide) hs
  have e3 : Str.empty.length = 0 := rfl
  have big : (100000 : Nat) < sizeLine := by decide
  simp only [Str.length_append, PySem.ofString_length]
  omega
theorem ok_noHosts {f CP : Addr} {fd : FuncData} (F : Fun K "with_hosts" "with_hosts" sWithHosts f fd) (B : Blt mg) (Z : HoT K mg) (ms : ∃ t, mg "SMALLEST_SIZE" = some (.int 2 t)) (BP : BpTxt K mg CP) :
    FnOk P w K mg base (L2.CX P w) 2 f fd ["tables", "size"] (spNoHosts CP) := by
  obtain ⟨u, hu, hZ⟩ := Z
  obtain ⟨t2, m2⟩ := ms
  refine F.okX scWithHosts (fun vs H Q E h => ?_) (fun cdv A outer s H vs Q E hr h => ?_)
  · obtain ⟨t, s, rfl, _⟩ := h
    rfl
  · obtain ⟨t, z, rfl, hbad, ht, hz, q⟩ := h
    refine ⟨_, pss_cons (ps_if (PW.pt (pw_or (pt_cmpR op_notIn_seq (pv 0) (pe_glob (v := .ref u) (by rfl) hu rfl) (by rfl)) (pw_or1 (pt_not (pt_chain op_le op_le (pe_glob (v := .int 2) (by rfl) m2 ⟨_, rfl⟩) (pv 1) (pv 0))))))
        (pss_one (ps_raise rfl (takes_of rfl rfl rfl rfl) (SkE.pmk_own1 PySem.F.excBase_ValueError BP.x BP.g BP.k (raises_own BP.b BP.t) rfl (pe_joined (.cons pe_str (.cons (pe_fmt (pv 0)) (.cons pe_str (.cons (pe_fmt (pv 1)) .nil)))))))) pss_nil)
      pss_never, ?_⟩
    obtain ⟨l1, l2, l3, l4⟩ := host_words (small_log ht) (small_log hz) (a := "there is no plan with hosts at ") (b := " tables of ") (by decide) (by decide)
    refine ⟨.int _, rfl, u, _, rfl, .inr (hZ H), rfl, rfl, _, rfl, ?_⟩
    rw [inV_host]
    refine ite2 (fun h1 => ?_) (fun h1 => ?_)
    · exact iteT ⟨_, rfl, l1, .int t, rfl, .inr ⟨t, rfl, small_log ht, _, rfl, l2, _, rfl, l3, .int z, rfl, .inr ⟨z, rfl, small_log hz, _, rfl, l4, q _ (Same.refl _)⟩⟩⟩
    · have hin : t = 2 ∨ t = 3 ∨ t = 5 ∨ t = 7 := by
        have : decide (t = 2 ∨ t = 3 ∨ t = 5 ∨ t = 7) = true := by
          cases e : decide (t = 2 ∨ t = 3 ∨ t = 5 ∨ t = 7) with
          | true => rfl
          | false => rw [e] at h1; exact absurd rfl h1
        exact of_decide_eq_true this
      have hno : ¬ (2 ≤ z ∧ z ≤ t) := hbad.elim (fun h => absurd hin h) id
      refine ⟨.int z, rfl, 2, z, rfl, rfl, _, rfl, ite2 (fun h2 => ?_) (fun h2 => ?_)⟩
      · have h2 := of_decide_eq_true h2
        refine ⟨.int t, rfl, z, t, rfl, rfl, _, rfl, ?_⟩
        have e2 : decide (z ≤ t) = false := decide_eq_false fun h => hno ⟨h2, h⟩
        rw [e2]
        exact iteT ⟨_, rfl, l1, .int t, rfl, .inr ⟨t, rfl, small_log ht, _, rfl, l2, _, rfl, l3, .int z, rfl, .inr ⟨z, rfl, small_log hz, _, rfl, l4, q _ (Same.refl _)⟩⟩⟩
      · exact ⟨_, rfl, iteT ⟨_, rfl, l1, .int t, rfl, .inr ⟨t, rfl, small_log ht, _, rfl, l2, _, rfl, l3, .int z, rfl, .inr ⟨z, rfl, small_log hz, _, rfl, l4, q _ (Same.refl _)⟩⟩⟩⟩
end Nf

set_option Elab.async false
set_option linter.all false
set_option maxRecDepth 100000
set_option maxHeartbeats 4000000
namespace Nf
open PySem PySem.Spec PyProof.Rows L2
variable {P : Program} {w : World} {K : PySem.W.Frag} {mg : Str → Option Value} {base : Heap}
/-! ### the law: there is no such plan -/
theorem scNone : FnScope ["_law_tables", "_law_size"] ["_law_tables", "_law_size"] (defScope lNone) := ⟨rfl, rfl, rfl, by decide +kernel, rfl, by decide +kernel, by decide +kernel⟩
def spNone : Sp := fun vs H Q _ => ∃ (t s : Int), vs = [.int t, .int s] ∧ (¬ (t = 2 ∨ t = 3 ∨ t = 5 ∨ t = 7) ∨ ¬ (2 ≤ s ∧ s ≤ t)) ∧ t.natAbs < 1000 ∧ s.natAbs < 1000 ∧ ∀ H', Same H H' → Q (.bl true) H'
theorem ok_none {f fW CP : Addr} {fd fdW : FuncData} (F : Fun K "_law_none" "_law_none" lNone f fd) (BP : BpTxt K mg CP) (GW : FnOk P w K mg base (L2.CX P w) 2 fW fdW ["tables", "size"] (spNoHosts CP)) (FW : Fun K "with_hosts" "with_hosts" sWithHosts fW fdW) (bW : Binds K fdW ["tables", "size"] []) (gW : mg "with_hosts" = some (.ref fW)) :
    FnOk P w K mg base CX0 3 f fd ["_law_tables", "_law_size"] spNone := by
  refine F.ok scNone (fun vs H Q E h => ?_) (fun cdv A outer s H vs Q E hr h => ?_)
  · obtain ⟨t, s, rfl, _⟩ := h
    rfl
  · obtain ⟨t, z, rfl, hbad, ht, hz, q⟩ := h
    refine ⟨_, pss_one (ps_try_only (Wout := fun _ _ _ _ => False) (ts := fun _ _ _ => tRet (tC (.bl true))) (tb := fun W => tSeq (tDrop (tCallS (spNoHosts CP) (WE W) (tCons (tVar 0) (tCons (tVar 1) tNil)))) tNever) rfl rfl ⟨rfl, by decide, .inl BP.g⟩ takes0
        (fun W pn xe tk _ => pss_cons (ps_expr (by exact (pe_callS GW hr (by rfl) gW FW.kp bW (fun σ => passAt tk σ) (by exact (pa_cons (pv 0) (pa_cons (pv 1) pa_nil)))))) pss_never)
        (fun a oe cls d pn hz hf => pss_one (ps_ret pe_bl))), ?_⟩
    exact ⟨.int t, rfl, .int z, rfl, t, z, rfl, hbad, ht, hz, fun H' sm => ⟨true, BP.e, fun _ a na => q _ sm, fun e => Bool.noConfusion e⟩⟩
end Nf

set_option Elab.async false
set_option linter.all false
set_option maxRecDepth 100000
set_option maxHeartbeats 4000000
namespace Nf
open PySem PySem.Spec PyProof.Rows L2
variable {P : Program} {w : World} {K : PySem.W.Frag} {mg : Str → Option Value} {base : Heap}
/-! ### the law's look at a plan with hosts -/
theorem k8TT : kitB "tuple" "tuple" = some true := by decide +kernel
theorem k8LL : kitB "list" "list" = some true := by decide +kernel
theorem shTabsT (xs : List Tbl) : SeqAt.shaped (.tuple (xs.map dT)) = true := by
  have h := depTabs xs
  have l := layTabs xs
  unfold SeqAt.shaped
  rw [Bool.and_eq_true]
  refine ⟨by simp [PyData.canLay0, l], decide_eq_true ?_⟩
  simp only [PyData.depth]
  omega
theorem paired_take {α β : Type} {R : α → β → Prop} : ∀ {xs : List α} {ys : List β} (i : Nat), Paired R xs ys → Paired R (xs.take i) (ys.take i)
  | _, _, 0, h => by simpa using Paired.nil
  | _, _, _ + 1, .nil => .nil
  | _, _, i + 1, .cons r t => .cons r (paired_take i t)
theorem cutTo8 (xs : List V) (j : Nat) : cutV xs none (some ((j : Nat) : Int)) = xs.take j := by
  unfold cutV
  rw [HT.sIx_nat xs.length xs.length j]
  show List.take (min j xs.length - 0) (List.drop 0 xs) = _
  rw [List.drop_zero, Nat.sub_zero]
  exact (List.take_eq_take_min ..).symm
theorem host_some {T s : Nat} {r : Rnd} (h : HostR T s r) (hT : 1 ≤ T) (hs : 2 ≤ s) : ∃ p, p ∈ pairsR r := by
  have hl := h.len
  cases r with
  | nil => simp at hl; omega
  | cons t r =>
    have ht := h.each t (by simp)
    cases t with
    | nil => simp at ht; omega
    | cons a t =>
      cases t with
      | nil => simp at ht; omega
      | cons b t => exact ⟨(a, b), List.mem_flatMap.mpr ⟨_, List.mem_cons_self, by simp [pairsT]⟩⟩
theorem host_head {T s k : Nat} {r : Rnd} {t : Tbl} (h : HostR T s r) (ht : r[k]? = some t) (hs : 1 ≤ s) : t.length = s ∧ t[0]? = some (k : Int) := by
  have hl := h.each t (List.mem_of_getElem? ht)
  have hk : k < T := by
    rw [← h.len]
    exact (List.getElem?_eq_some_iff.mp ht).1
  refine ⟨hl, ?_⟩
  have e : (r.map (·.headD 0))[k]? = some (t.headD 0) := by rw [List.getElem?_map, ht]; rfl
  rw [h.heads] at e
  unfold rangeI at e
  rw [List.getElem?_map, List.getElem?_range hk] at e
  have e2 : ((k : Nat) : Int) = t.headD 0 := Option.some.inj e
  cases t with
  | nil => simp at hl; omega
  | cons a t => exact congrArg some e2.symm
theorem small8 {g s : Int} (hI : IsParty g s) {r : Rnd} (h : IsRound g s r) : (pairsR r).length ≤ 4096 ∧ True ∧ ∀ t ∈ r, t.length ≤ 100000 := by
  have i2 := hI.s2
  have i8 := hI.s8
  refine ⟨h.pairs_le (by omega) hI.g64, trivial, fun t ht => ?_⟩
  have := (h.sz t ht).2
  omega
theorem perm_len_of_mem {ks ps : List (Int × Int)} (h1 : ks.Nodup) (h2 : ps.Nodup) (h : ∀ p, p ∈ ks ↔ p ∈ ps) : ks.Perm ps := (List.perm_ext_iff_of_nodup h1 h2).mpr h
def hN8 : List Str := ["_law_tables", "_law_size", "_law_plan", "_law_known_here", "_law_every", "_law_seen", "_law_k", "_law_pair"]
theorem scHostedL : FnScope hN8 ["_law_tables", "_law_size", "_law_plan"] (defScope lHosted) := ⟨rfl, rfl, rfl, by decide +kernel, rfl, by decide +kernel, by decide +kernel⟩
def spHostedL (K : PySem.W.Frag) : Sp := fun vs H Q _ => ∃ (T s : Nat) (l : Addr) (xs : List V), vs = [.int (T : Nat), .int (s : Nat), .ref l] ∧ IsHost T s ∧ H l = some (.lst xs) ∧ Paired (RndV H) xs (hostP T s) ∧ ∀ H', Same H H' → Q (.bl true) H'
theorem ok_hostedL {f fI fP fK fN : Addr} {fd fdI fdP fdK fdN : FuncData} (F : Fun K "_law_hosted" "_law_hosted" lHosted f fd) (B : Blt mg)
    (FI : Fun K "_law_is_round" "_law_is_round" lIsRound fI fdI) (bI : Binds K fdI ["_law_guests", "_law_size", "_law_tables"] []) (gI : mg "_law_is_round" = some (.ref fI))
    (FP : Fun K "_law_pairs" "_law_pairs" lPairs fP fdP) (bP : Binds K fdP ["_law_tables"] []) (gP : mg "_law_pairs" = some (.ref fP))
    (FK : Fun K "_law_known" "_law_known" lKnown fK fdK) (bK : Binds K fdK ["_law_plan"] []) (gK : mg "_law_known" = some (.ref fK))
    (FN : Fun K "_law_new" "_law_new" lNew fN fdN) (bN : Binds K fdN ["_law_tables", "_law_plan"] []) (gN : mg "_law_new" = some (.ref fN)) :
    FnOk P w K mg base CX0 4 f fd ["_law_tables", "_law_size", "_law_plan"] (spHostedL K) := by
  have GP : FnOk P w K mg base CX0 1 fP fdP ["_law_tables"] spLPairs := ok_lpairs FP B
  have GK : FnOk P w K mg base CX0 2 fK fdK ["_law_plan"] (spLKnown K) := ok_lknown FK B FP bP gP
  have GN : FnOk P w K mg base CX0 3 fN fdN ["_law_tables", "_law_plan"] (spLNew K) := ok_lnew FN B FP bP gP FK bK gK
  have GI : FnOk P w K mg base CX0 1 fI fdI ["_law_guests", "_law_size", "_law_tables"] spLIsRound := ok_lisRound FI B
  refine F.ok scHostedL (fun vs H Q E h => ?_) (fun cdv A outer s H vs Q E hr h => ?_)
  · obtain ⟨T, s, l, xs, rfl, _⟩ := h
    rfl
  · obtain ⟨T, z, l, xs, rfl, hI, hl, hxs, q⟩ := h
    have hr1 : Room 1 _ := hr.mono (by decide)
    have hr2 : Room 2 _ := hr.mono (by decide)
    have hu := hu_of hr
    have hu65 : A.units + 3 + 65 < cLine := by have := hr.un; show _ < _; exact Nat.lt_of_le_of_lt (by show _ ≤ A.units + 3 + 16 * 3 + 200; omega) this
    refine ⟨_, pss_cons (ps_if (PW.pt (pw_or (pt_not (pt_val (pe_callB call_isi (by rfl) B.isinstance (by decide +kernel) (pa_cons (pv 2) (pa_cons (pe_bltn (v := .ty "list") (by rfl) B.list (by decide +kernel) rfl) pa_nil)))))
          (pw_or1 (pt_cmpR op_ne (pe_callB call_len_seq (by rfl) B.len PySem.boot_len (pa_cons (pv 2) pa_nil)) (pv 0) (nomark _))))) pss_never pss_nil)
      (pss_cons (ps_set (i := 3) scHostedL.nd rfl (.inl rfl) pe_dnewT)
      (pss_cons (ps_for PassesOwn.never rfl (pi_list (pv 2)) (pg_name (i := 4) scHostedL.nd rfl (.inr rfl))
        (pss_cons (ps_if (PW.pt (pw_or (pt_not (pt_val (pe_callB call_isi (by rfl) B.isinstance (by decide +kernel) (pa_cons (pv 4) (pa_cons (pe_bltn (v := .ty "tuple") (by rfl) B.tuple (by decide +kernel) rfl) pa_nil)))))
          (pw_or (pt_not (pt_val (pe_call GI hr1 (by rfl) gI FI.kp bI .nil pass0 (pa_cons (pe_op op_mul (pv 0) (pv 1)) (pa_cons (pv 1) (pa_cons (pv 4) pa_nil))))))
          (pw_or1 (pt_cmpR op_ne (pe_callB call_len_seq (by rfl) B.len PySem.boot_len (pa_cons (pv 4) pa_nil)) (pv 0) (nomark _)))))) pss_never pss_nil)
        (pss_cons (ps_if (pt_cmpR (op_neD hr.units) (pe_lc (own := [("_law_k", 6)]) (g := gName 6)
            (tt := tOr (tTest (tOp rNe (tCB (fun xs H Q => ∃ p ys, xs = [.ref p] ∧ (SqL K H p ys ∨ SqT K H p ys) ∧ Q (.int ys.length) H) (tCons (tOp (rIx K) (tVar 4) (tVar 6)) tNil)) (tVar 1)))
              (tTest (tOp rNe (tOp (rIx K) (tOp (rIx K) (tVar 4) (tVar 6)) (tC (.int 0))) (tVar 6))))
            (te := tVar 6) (by rfl) scHostedL.nd (pi_range1 (by rfl) B.range (pa_cons (pv 0) pa_nil))
            (blkOk_by (N := hN8) (sc := defScope lHosted) (by decide +kernel)) (fun _ _ _ _ _ => pg_name (i := 6) (x := "_law_k") scHostedL.nd rfl (.inl rfl) (.inr rfl))
            (fun _ _ _ _ _ => pts_one (PW.pt (pw_or (pt_cmpR op_ne (pe_callB call_len_seq (by rfl) B.len PySem.boot_len (pa_cons (pe_ix ix_seq (pv 4) (pv 6) (fun _ _ => rfl)) pa_nil)) (pv 1) (nomark _))
              (pw_or1 (pt_cmpR op_ne (pe_ix ix_seq (pe_ix ix_seq (pv 4) (pv 6) (fun _ _ => rfl)) pe_int (fun _ _ => rfl)) (pv 6) (nomark _))))))
            (fun _ _ _ _ _ => pv 6)) (pe_lst pa_nil) (nomark _)) pss_never pss_nil)
        (pss_cons (ps_if (pt_not (pt_val (pe_call GN hr (by rfl) gN FN.kp bN .nil pass0 (pa_cons (pv 4) (pa_cons (pe_slice sl_list (pv 2) po_none (po_some (pe_bm PySem.F.plainAttrs_list PySem.F.slot_list_index PySem.F.type_list_index (mt_indexD hu65) (pv 2) (pa_cons (pv 4) pa_nil)))) pa_nil))))) pss_never pss_nil)
        (pss_one (ps_expr (pe_bm PySem.F.plainAttrs_dict PySem.F.slot_dict_update PySem.F.type_dict_update (mt_updT hu) (pv 3) (pa_cons (pe_call GK hr2 (by rfl) gK FK.kp bK .nil pass0 (pa_cons (pe_lst (pa_cons (pv 4) pa_nil)) pa_nil)) pa_nil))))))))
      (pss_cons (ps_lock (ps_setLc (i := 5) (own := [("_law_pair", 7)]) (g := gName 7) (tt := tTest (tOp (rI0 fun i j => .bl (decide (i < j))) (tOp (rIx K) (tVar 7) (tC (.int 0))) (tVar 0))) (te := tVar 7) (by rfl) scHostedL.nd rfl rfl (sw_true rfl rfl rfl (by decide +kernel)) (pi_keys (pv 3))
          (blkOk_by (N := hN8) (sc := defScope lHosted) (by decide +kernel)) (fun _ _ _ _ _ => pg_name (i := 7) (x := "_law_pair") scHostedL.nd rfl (.inl rfl) (.inr rfl))
          (fun _ _ _ _ _ => pts_one (pt_cmpR op_lt (pe_ix ix_seq (pv 7) pe_int (fun _ _ => rfl)) (pv 0) (nomark _))) (fun _ _ _ _ _ => pv 7)))
      (pss_one (ps_ret (pe_and (pe_cmpR op_eq (pe_callB call_len_dT (by rfl) B.len PySem.boot_len (pa_cons (pv 3) pa_nil)) (pe_op op_fdiv (pe_op op_mul (pe_op op_mul (pe_op op_mul (pv 0) (pv 0)) (pv 1)) (pe_op op_sub (pv 1) pe_int)) pe_int) (nomark _))
        (pe_one (pe_cmpR op_eq (pe_callB call_len_seq (by rfl) B.len PySem.boot_len (pa_cons (pv 5) pa_nil)) (pe_op op_mul (pe_op op_mul (pv 0) (pv 0)) (pe_op op_sub (pv 1) pe_int)) (nomark _))))))))), ?_⟩
    have big : (5000000 : Nat) < sizeLine := by decide
    have hs2 := hI.s2
    have hsT := hI.sT
    have hT7 : T ≤ 7 := by
      have := hI.t
      omega
    have hPl : (hostP T z).length = T := by simp [hostP]
    have hxl := paired_len hxs
    rw [hPl] at hxl
    have hG := host_good hI
    have hM := host_mem hI
    have eTz : ((T * z : Nat) : Int) = ((T : Nat) : Int) * ((z : Nat) : Int) := Int.natCast_mul T z
    have h1 : 2 * 2 ≤ T * z := Nat.mul_le_mul (by omega) hs2
    have h2 : T * z ≤ 7 * 7 := Nat.mul_le_mul hT7 (by omega)
    have hIP : IsParty ((T : Nat) * (z : Nat) : Int) (z : Nat) := by
      rw [← eTz]
      exact ⟨by omega, by omega, by omega, by omega, by rw [eTz]; exact Int.mul_emod_left _ _⟩
    have tL : TyX K H (.ref l) (.type "list") := .base (.lst hl)
    refine ⟨.ref l, rfl, _, _, _, _, _, rfl, .ty _, tL, kit_ty k8LL, ⟨_, rfl, iteF ?_⟩⟩
    refine ⟨.ref l, rfl, l, xs, rfl, .inl (SqL.of hl), .int _, rfl, rfl, _, rfl, ?_⟩
    rw [hxl, decide_eq_true rfl]
    refine iteF ?_
    intro d nd
    have s0 : Same H (upd H d (.dT [])) := same_new nd
    refine ⟨.ref l, rfl, l, rfl, ⟨_, SqL.of (s0 _ _ hl)⟩, ?_⟩
    refine for_it (walk_list (xs := xs)) (fun i σ H2 => ∃ (y4 : Option V), σ = [some (.int (T : Nat)), some (.int (z : Nat)), some (.ref l), some (.ref d), y4, none, none, none] ∧ Same H H2 ∧ KnS H2 d (((hostP T z).take i).flatMap pairsR) (i * 4096)) ⟨none, rfl, s0, [], upd_same, Nat.le_refl _, fun a b => by simp [valV], [], rfl, .nil⟩ (fun i σ H2 _ h => ?_) (fun i x σ H2 H3 hi hI2 y => ?_) (fun σ H2 hI2 => ?_)
    · obtain ⟨_, _, sm, _⟩ := h
      exact SqL.of (sm _ _ hl)
    · obtain ⟨y4, rfl, sm, hK⟩ := hI2
      obtain ⟨rfl, hx⟩ := y
      obtain ⟨r, hr0, hrx⟩ := paired_getL hxs hx
      have hmem : r ∈ hostP T z := List.mem_of_getElem? hr0
      have hil : i < T := by omega
      have R := hM r hmem
      have hR : IsRound ((T : Nat) * (z : Nat) : Int) (z : Nat) r := by
        rw [← eTz]
        exact R.rd
      obtain ⟨hp1, hp2, hp3⟩ := small8 hIP hR
      have hrx3 := hrx.mono (same_toT sm)
      obtain ⟨p, us, rfl, hp, hus⟩ := id hrx3
      have hul := paired_len hus
      rw [R.len] at hul
      have tT : TyX K H3 (.ref p) (.type "tuple") := .base (.tup hp)
      refine ⟨.ref p, rfl, _, _, _, _, _, rfl, .ty _, tT, kit_ty k8TT, ⟨_, rfl, iteF ?_⟩⟩
      refine ⟨.int _, rfl, .int _, rfl, _, _, rfl, rfl, .inl ⟨by omega, by omega⟩, .int _, rfl, .ref p, rfl, _, _, .ref p, r, rfl, hIP, hrx3, by rw [R.len]; omega, hp3, fun b H4 s4 hb => ?_⟩
      refine ⟨_, rfl, ?_⟩
      rw [hb.mpr hR]
      refine iteF ?_
      have hp4 := s4 _ _ hp
      have hus4 := paired_mono (fun _ _ h => TabV.mono h (same_toT s4)) hus
      refine ⟨.ref p, rfl, p, us, rfl, .inr (SqT.of hp4), .int _, rfl, rfl, _, rfl, ?_⟩
      rw [hul, decide_eq_true rfl]
      refine iteF ?_
      -- tables as they should be
      refine ⟨.int _, rfl, _, rfl, by omega, by omega, fun D nD => ?_⟩
      have s5 : Same H4 (upd H4 D (.lst [])) := same_new nD
      refine lc_it walk_range (fun i H6 => Same H4 H6 ∧ H6 D = some (.lst [])) ⟨s5, upd_same⟩ (fun _ _ _ _ => trivial) (fun k x H6 H7 hk hJ y => ?_) (fun H6 hJ => ?_)
      · obtain ⟨sm6, hD⟩ := hJ
        obtain ⟨rfl, hxv⟩ := y
        have hxv : x = V.int ((k : Nat) : Int) := hxv.trans (by show V.int (0 + ((k : Nat) : Int)) = _; rw [Int.zero_add])
        subst hxv
        have hkl : k < us.length := by omega
        have hv : us[k]? = some us[k] := List.getElem?_eq_getElem hkl
        generalize us[k] = v at hv
        obtain ⟨t, ht, ua, rfl, hua⟩ := paired_getL hus4 hv
        obtain ⟨htl, ht0⟩ := host_head R ht (by omega)
        have hua6 := sm6 _ _ hua
        refine ⟨wipe_put (by decide), ?_⟩
        refine ⟨.ref p, rfl, .int _, rfl, .inr (.inl ⟨p, us, _, _, rfl, rfl, SqT.of (sm6 _ _ hp4), atI_nat hv, ua, _, rfl, .inr (SqT.of hua6), .int _, rfl, rfl, _, rfl, ?_⟩)⟩
        rw [List.length_map, htl, decide_eq_true rfl]
        refine iteF ?_
        refine ⟨.ref p, rfl, .int _, rfl, .inr (.inl ⟨p, us, _, _, rfl, rfl, SqT.of (sm6 _ _ hp4), atI_nat hv, .inr (.inl ⟨ua, _, _, .int (k : Nat), rfl, rfl, SqT.of hua6, atI_nat (j := 0) (int_getElem? ht0), .int _, rfl, rfl, _, rfl, ?_⟩)⟩)⟩
        rw [decide_eq_true rfl]
        exact iteF ⟨sm6, hD⟩
      · obtain ⟨sm6, hD⟩ := hJ
        refine ⟨Nat.zero_le _, fun e ne => ?_⟩
        have s7 : Same H6 (upd H6 e (.lst [])) := same_new ne
        refine ⟨.list [], .list [], .lst (SqL.of (s7 _ _ hD)) .nil, .lst (SqL.of upd_same) .nil, shNil, shNil, _, rfl, iteF ?_⟩
        have sH7 := (sm.trans s4).trans (sm6.trans s7)
        have hK7 := knS_same hK (s4.trans (sm6.trans s7))
        have hrx7 := hrx.mono (same_toT sH7)
        generalize (upd H6 e (.lst [])) = H7 at s7 sH7 hK7 hrx7 ⊢
        have hl7 := sH7 _ _ hl
        have hxs7 := paired_mono (fun _ _ h => RndV.mono h (same_toT sH7)) hxs
        -- new(every, plan[:plan.index(every)])
        refine ⟨.ref p, rfl, .ref l, rfl, .ref l, rfl, .inl ⟨rfl, _, SqL.of hl7⟩, .ref p, rfl, l, .ref p, .tuple (r.map dT), (hostP T z).map (fun r => .tuple (r.map dT)), i, .tuple (r.map dT), rfl, rfl, dp_lst (fun _ _ h => dp_rnd h) (SqL.of hl7) hxs7, dp_rnd hrx7, shRnds _, shTabsT _, by rw [List.getElem?_map, hr0]; rfl, ?_, fun m z' hm hz' => ?_, _, rfl, l, xs, rfl, SqL.of hl7, fun c nc => ?_⟩
        · simp only [PyData.eqv]
          exact eqvTabs.mpr rfl
        · rw [List.getElem?_map] at hz'
          obtain ⟨rm, hrm, rfl⟩ := Option.map_eq_some_iff.mp hz'
          refine Bool.eq_false_iff.mpr fun he => ?_
          simp only [PyData.eqv] at he
          have he := eqvTabs.mp he
          subst he
          obtain ⟨pp, hpp⟩ := host_some R (by omega) hs2
          obtain ⟨l1, g1⟩ := List.getElem?_eq_some_iff.mp hrm
          obtain ⟨l2, g2⟩ := List.getElem?_eq_some_iff.mp hr0
          have := List.pairwise_iff_getElem.mp hG.np m i l1 l2 hm
          rw [g1, g2] at this
          exact this pp hpp hpp
        rw [cutTo8]
        have s8 : Same H7 (upd H7 c (.lst (xs.take i))) := same_new nc
        refine ⟨.ref p, c, r, (hostP T z).take i, rfl, hrx7.mono (same_toT s8), by omega, hp3, ⟨_, SqL.of upd_same, paired_take i (paired_mono (fun _ _ h => RndV.mono h (same_toT s8)) hxs7)⟩, by rw [List.length_take]; omega, fun r' hr' => ?_, fun b H9 s9 hb => ⟨_, rfl, ?_⟩⟩
        · have R' := hM r' (List.mem_of_mem_take hr')
          have hR' : IsRound ((T : Nat) * (z : Nat) : Int) (z : Nat) r' := by
            rw [← eTz]
            exact R'.rd
          exact ⟨(small8 hIP hR').1, (small8 hIP hR').2.2⟩
        rw [hb.mpr fun pp hpp hm => ?hnew]
        case hnew =>
          obtain ⟨r', hr', hp'⟩ := List.mem_flatMap.mp hm
          obtain ⟨j', hj'⟩ := List.mem_iff_getElem?.mp hr'
          rw [List.getElem?_take] at hj'
          split at hj'
          · rename_i hlt
            obtain ⟨l1, g1⟩ := List.getElem?_eq_some_iff.mp hj'
            obtain ⟨l2, g2⟩ := List.getElem?_eq_some_iff.mp hr0
            have := List.pairwise_iff_getElem.mp hG.np j' i l1 l2 hlt
            rw [g1, g2] at this
            exact this _ hp' hpp
          · cases hj'
        refine iteF ?_
        have hK9 := knS_same hK7 (s8.trans s9)
        have sH9 := sH7.trans (s8.trans s9)
        have hrx9 := hrx.mono (same_toT sH9)
        -- known_here.update(known([every]))
        obtain ⟨kv0, hd0, _⟩ := id hK9
        refine ⟨.ref d, rfl, .inr (.inr (.inl ⟨rfl, .inr ⟨_, hd0⟩⟩)), .ref p, rfl, (by show 1 ≤ sizeLine; decide), fun e2 ne2 => ?_⟩
        have s10 : Same H9 (upd H9 e2 (.lst [.ref p])) := same_new ne2
        refine ⟨e2, [r], rfl, ⟨[.ref p], SqL.of upd_same, .cons (hrx9.mono (same_toT s10)) .nil⟩, by simp, fun r' hr' => ?_, fun HA d2 sA nd2 hK2 => ?_⟩
        · rw [List.mem_singleton.mp hr']
          exact ⟨hp1, hp3⟩
        have hKA := knS_same hK9 (s10.trans sA)
        have ndd : d ≠ d2 := by
          rintro rfl
          rw [s10 _ _ hd0] at nd2
          cases nd2
        have eps : [r].flatMap pairsR = pairsR r := by simp
        rw [eps] at hK2
        obtain ⟨kvs2, ks2, hd2, hl2, hk2, hn2, hm2⟩ := hK2.keys
        have hK2' : KnS HA d2 (pairsR r) (pairsR r).length := by
          obtain ⟨kvs, hdd, hll, hv, ks, hk, hn⟩ := hK2
          refine ⟨kvs, hdd, ?_, hv, ks, hk, hn⟩
          have e : kvs = kvs2 := by
            rw [hd2] at hdd
            cases hdd
            rfl
          subst e
          have e1 : kvs.length = ks2.length := by
            have := congrArg List.length hk2
            rwa [List.length_map, List.length_map] at this
          have pm : ks2.Perm (pairsR r) := perm_len_of_mem hn2 ?_ hm2
          · rw [e1, pm.length_eq]
            exact Nat.le_refl _
          · have nd := host_nodup hI
            unfold pairsP at nd
            rw [List.flatMap_def] at nd
            exact (List.pairwise_flatten.mp nd).1 _ (List.mem_map.mpr ⟨r, hmem, rfl⟩)
        dsimp only [tNil]
        refine knS_update hKA hK2' ndd (fun pp hpp => ?_) (by omega) fun o hKB => ?_
        · have := hR.pair pp hpp
          exact ⟨this.1, this.2.1, by omega⟩
        · refine ⟨_, rfl, same_put (sH9.trans (s10.trans sA)) nd, ?_⟩
          rw [takeSucc hr0, List.flatMap_append, eps]
          obtain ⟨kvs, h1, h2, h3⟩ := hKB
          exact ⟨kvs, h1, by omega, h3⟩
    · obtain ⟨y4, rfl, sm, hK⟩ := hI2
      rw [hxl, List.take_of_length_le (by rw [hPl]; exact Nat.le_refl _)] at hK
      obtain ⟨kvs, ks, hd, hkl, hks, hkn, hkm⟩ := hK.keys
      have hkl2 : kvs.length = ks.length := by
        have := congrArg List.length hks
        rwa [List.length_map, List.length_map] at this
      have pm : ks.Perm (pairsP (hostP T z)) := perm_len_of_mem hkn (host_nodup hI) hkm
      obtain ⟨c1, c2⟩ := host_count hI
      rw [← pm.length_eq, ← hkl2] at c1
      rw [← (pm.filter _).length_eq] at c2
      -- the pairs with a host
      refine ⟨d, _, hd, trivial, fun od => ?_⟩
      refine ⟨.ref d, rfl, d, od, rfl, .inr ⟨kvs, upd_same, fun D nD => ?_⟩⟩
      have hdD : D ≠ d := fun e => by
        rw [e, upd_same] at nD
        cases nD
      have nD2 : H2 D = none := by rwa [upd_ne hdD] at nD
      have sf : Same H (upd H2 d (.frz od (.dT kvs))) := same_put sm nd
      have nD0 : H D = none := sm.free nD2
      refine lc_it (walk_keysT (kvs := kvs)) (fun i H6 => H6 d = some (.frz od (.dT kvs)) ∧ Same H H6 ∧ ∃ acc, H6 D = some (.lst acc) ∧ acc.length = ((ks.take i).filter fun p => decide (p.1 < ((T : Nat) : Int))).length) ⟨(upd_ne hdD.symm).trans upd_same, sf.trans (same_new nD), [], upd_same, rfl⟩ (fun i H6 _ h => h.1) (fun i x H6 H7 hi hJ y => ?_) (fun H6 hJ => ?_)
      · obtain ⟨hf6, sm6, acc, hD6, hal⟩ := hJ
        obtain ⟨rfl, k, v, q0, hkv, rfl, hq0⟩ := y
        have hkk : (kvs.map (·.1))[i]? = some k := by rw [List.getElem?_map, hkv]; rfl
        rw [hks, List.getElem?_map] at hkk
        obtain ⟨pr, hpr, rfl⟩ := Option.map_eq_some_iff.mp hkk
        have hil : i < ks.length := (List.getElem?_eq_some_iff.mp hpr).1
        refine ⟨wipe_put (by decide), ?_⟩
        refine ⟨.ref q0, rfl, .inr (.inl ⟨q0, _, _, .int pr.1, rfl, rfl, SqT.of hq0, rfl, .int _, rfl, _, _, rfl, rfl, _, rfl, ?_⟩)⟩
        rw [takeSucc hpr, List.filter_append]
        refine ite2 (fun hc => ?_) (fun hc => ?_)
        · have hlen := List.length_filter_le (fun p : Int × Int => decide (p.1 < ((T : Nat) : Int))) (ks.take i)
          rw [List.length_take] at hlen
          refine ⟨.ref q0, rfl, acc, hD6, by omega, (upd_ne hdD.symm).trans hf6, same_put sm6 nD0, acc ++ [.ref q0], upd_same, ?_⟩
          rw [List.filter_cons_of_pos (p := fun p : Int × Int => decide (p.1 < ((T : Nat) : Int))) hc, List.length_append, List.length_append, hal]
          rfl
        · refine ⟨hf6, sm6, acc, hD6, ?_⟩
          rw [List.filter_cons_of_neg (p := fun p : Int × Int => decide (p.1 < ((T : Nat) : Int))) hc, List.length_append, hal]
          rfl
      · obtain ⟨hf6, sm6, acc, hD6, hal⟩ := hJ
        rw [hkl2, List.take_of_length_le (Nat.le_refl _)] at hal
        refine ⟨hf6, ?_⟩
        have hD7 : (upd H6 d (.dT kvs)) D = some (.lst acc) := (upd_ne hdD).trans hD6
        have hd7 : (upd H6 d (.dT kvs)) d = some (.dT kvs) := upd_same
        have sm7 : Same H (upd H6 d (.dT kvs)) := same_put sm6 nd
        generalize (upd H6 d (.dT kvs)) = H8 at hD7 hd7 sm7 ⊢
        have ez : ((z : Nat) : Int) - 1 = ((z - 1 : Nat) : Int) := by omega
        refine ⟨.ref d, rfl, d, kvs, rfl, hd7, .int _, rfl, .int _, rfl, _, _, rfl, rfl, .inl ⟨by omega, by omega⟩, .int _, rfl, _, _, rfl, rfl, .inr ⟨by omega, by omega⟩, .int _, rfl, _, _, rfl, rfl, _, _, rfl, rfl, .inr ⟨by omega, by omega⟩, _, _, rfl, rfl, ⟨by decide, by decide⟩, rfl, _, rfl, ?_⟩
        have e1 : ((T : Nat) : Int) * ((T : Nat) : Int) * ((z : Nat) : Int) * (((z : Nat) : Int) - 1) / 2 = ((kvs.length : Nat) : Int) := by
          rw [ez]
          simp only [← Int.natCast_mul]
          omega
        refine ite2 (fun _ => ?_) (fun hc => absurd (decide_eq_true (congrArg V.int e1.symm)) hc)
        refine ⟨.ref D, rfl, D, acc, rfl, .inl (SqL.of hD7), .int _, rfl, .int _, rfl, _, _, rfl, rfl, .inl ⟨by omega, by omega⟩, .int _, rfl, _, _, rfl, rfl, _, _, rfl, rfl, .inr ⟨by omega, by omega⟩, rfl, ?_⟩
        have e2 : ((T : Nat) : Int) * ((T : Nat) : Int) * (((z : Nat) : Int) - 1) = ((acc.length : Nat) : Int) := by
          rw [ez, hal, c2]
          simp only [← Int.natCast_mul]
        have e3 : decide (V.int ((acc.length : Nat) : Int) = V.int (((T : Nat) : Int) * ((T : Nat) : Int) * (((z : Nat) : Int) - 1))) = true := decide_eq_true (congrArg V.int e2.symm)
        show Q (.bl (decide (V.int ((acc.length : Nat) : Int) = V.int (((T : Nat) : Int) * ((T : Nat) : Int) * (((z : Nat) : Int) - 1))))) _
        rw [e3]
        exact q _ sm7
end Nf

set_option Elab.async false
set_option linter.all false
set_option maxRecDepth 100000
set_option maxHeartbeats 4000000
namespace Nf
open PySem PySem.Spec PyProof.Rows L2
variable {P : Program} {w : World} {K : PySem.W.Frag} {mg : Str → Option Value} {base : Heap}
/-! ### law_k08 -/
structure Has8 (P : Program) (w : World) (K : PySem.W.Frag) (mg : Str → Option Value) (base : Heap) (n : Nat) (x : Str) (f : Addr) (fd : FuncData) (ps : List Str) (sp : Sp) : Prop where
  ok : FnOk P w K mg base CX0 n f fd ps sp
  kp : PySem.W.keepIn K (.ref f) = true
  b : Binds K fd ps []
  g : mg x = some (.ref f)
theorem four8 : 4 ≤ sizeLine := by decide
theorem eight8 : 8 ≤ sizeLine := by decide
theorem scLaw : FnScope ["_law_script", "_law_row", "_law_tables", "_law_size", "_law_turn", "_law_plan", "_law_odd"] ["_law_script"] (defScope lLaw) := ⟨rfl, rfl, rfl, by decide +kernel, rfl, by decide +kernel, by decide +kernel⟩
def spLaw (K : PySem.W.Frag) : Sp := fun vs H Q _ => ∃ (a : Addr) (ns : List Int), vs = [.ref a] ∧ SqL K H a (ns.map V.int) ∧ ns.length ≤ 63 ∧ ∀ H', Q (.bl true) H'
theorem ok_law {f fT fW fH fN : Addr} {fd fdT fdW fdH fdN : FuncData} (F : Fun K "law" "law" lLaw f fd) (B : Blt mg)
    (HT : Has8 P w K mg base 1 "_law_taken" fT fdT ["_law_row", "_law_many"] (spTaken K)) (HW : Has8 P w K mg base 2 "with_hosts" fW fdW ["tables", "size"] spWithHosts)
    (HH : Has8 P w K mg base 4 "_law_hosted" fH fdH ["_law_tables", "_law_size", "_law_plan"] (spHostedL K)) (HN : Has8 P w K mg base 3 "_law_none" fN fdN ["_law_tables", "_law_size"] spNone) :
    FnOk P w K mg base CX0 5 f fd ["_law_script"] (spLaw K) := by
  refine F.ok scLaw (fun vs H Q E h => ?_) (fun cdv A outer s H vs Q E hr h => ?_)
  · obtain ⟨a, ns, rfl, _⟩ := h
    rfl
  · obtain ⟨a, ns, rfl, hS, hlen, q⟩ := h
    have hr1 : Room 1 _ := hr.mono (by decide)
    have hr2 : Room 2 _ := hr.mono (by decide)
    have hr3 : Room 3 _ := hr.mono (by decide)
    refine ⟨_, (pss_cons (ps_set (i := 1) scLaw.nd rfl (.inl rfl) (pe_lst (pa_cons (pv 0) (pa_cons pe_int (pa_cons pe_int (pa_cons pe_int pa_nil))))))
      (pss_cons (ps_set (i := 2) scLaw.nd rfl (.inl rfl) (pe_ix ix_list (pe_lst (pa_cons pe_int (pa_cons pe_int (pa_cons pe_int (pa_cons pe_int pa_nil))))) (pe_call HT.ok hr1 (by rfl) HT.g HT.kp HT.b .nil pass0 (pa_cons (pv 1) (pa_cons pe_int pa_nil))) (fun _ _ => rfl)))
      (pss_cons (ps_set (i := 3) scLaw.nd rfl (.inl rfl) (pe_op op_add pe_int (pe_call HT.ok hr1 (by rfl) HT.g HT.kp HT.b .nil pass0 (pa_cons (pv 1) (pa_cons (pe_op op_sub (pv 2) pe_int) pa_nil)))))
      (pss_cons (ps_for PassesOwn.never rfl (pi_range1 (by rfl) B.range (pa_cons pe_int pa_nil)) (pg_name (i := 4) scLaw.nd rfl (.inl rfl))
        (pss_cons (ps_set (i := 5) scLaw.nd rfl (.inl rfl) (pe_call HW.ok hr2 (by rfl) HW.g HW.kp HW.b .nil pass0 (pa_cons (pv 2) (pa_cons (pv 3) pa_nil))))
        (pss_cons (ps_if (pt_not (pt_val (pe_call HH.ok hr (by rfl) HH.g HH.kp HH.b .nil pass0 (pa_cons (pv 2) (pa_cons (pv 3) (pa_cons (pv 5) pa_nil)))))) pss_never pss_nil)
        (pss_one (ps_expr (pe_bm0 PySem.F.plainAttrs_list PySem.F.slot_list_clear PySem.F.type_list_clear mt_clear (pv 5)))))))
      (pss_cons (ps_set (i := 6) scLaw.nd rfl (.inl rfl) (pe_ix ix_list (pe_lst (pa_cons pe_int (pa_cons pe_int (pa_cons pe_int (pa_cons pe_int (pa_cons pe_int (pa_cons pe_int (pa_cons pe_int (pa_cons (pe_op op_sub pe_int pe_int) pa_nil))))))))) (pe_call HT.ok hr1 (by rfl) HT.g HT.kp HT.b .nil pass0 (pa_cons (pv 1) (pa_cons pe_int pa_nil))) (fun _ _ => rfl)))
      (pss_one (ps_ret (pe_and (pe_call HN.ok hr3 (by rfl) HN.g HN.kp HN.b .nil pass0 (pa_cons (pv 6) (pa_cons pe_int pa_nil)))
        (pe_and (pe_call HN.ok hr3 (by rfl) HN.g HN.kp HN.b .nil pass0 (pa_cons (pv 2) (pa_cons pe_int pa_nil)))
          (pe_one (pe_call HN.ok hr3 (by rfl) HN.g HN.kp HN.b .nil pass0 (pa_cons (pv 2) (pa_cons (pe_op op_add (pe_op op_add (pv 2) pe_int) (pe_call HT.ok hr1 (by rfl) HT.g HT.kp HT.b .nil pass0 (pa_cons (pv 1) (pa_cons pe_int pa_nil)))) pa_nil))))))))))))), ?_⟩
    -- row
    refine ⟨.ref a, rfl, four8, fun r nr => ?_⟩
    have R0 : RowAt K (upd H r (.lst [.ref a, .int 0, .int 0, .int 0])) r a ns := RowAt.new hS nr
    -- tables
    refine ⟨four8, fun b1 nb1 => ?_⟩
    have R1 := R0.keep (same_new (o := .lst [.int 2, .int 3, .int 5, .int 7]) nb1)
    obtain ⟨xr1, hxr1⟩ := R0.lst
    have nb1r : b1 ≠ r := fun e => by
      rw [e, hxr1] at nb1
      cases nb1
    refine ⟨.ref r, rfl, r, a, ns, 4, rfl, R1, by decide, by decide, fun u H2 u0 u1 R2 s2 => ?_⟩
    have hb1 := s2 _ _ nb1r (upd_same : (upd _ b1 (.lst [.int 2, .int 3, .int 5, .int 7])) b1 = _)
    obtain ⟨T, hat, hT⟩ : ∃ T : Nat, atI [V.int 2, V.int 3, V.int 5, V.int 7] u = some (.int (T : Nat)) ∧ (T = 2 ∨ T = 3 ∨ T = 5 ∨ T = 7) := by
      have hu : u = 0 ∨ u = 1 ∨ u = 2 ∨ u = 3 := by omega
      rcases hu with rfl | rfl | rfl | rfl
      · exact ⟨2, rfl, .inl rfl⟩
      · exact ⟨3, rfl, .inr (.inl rfl)⟩
      · exact ⟨5, rfl, .inr (.inr (.inl rfl))⟩
      · exact ⟨7, rfl, .inr (.inr (.inr rfl))⟩
    refine ⟨b1, _, u, _, rfl, rfl, SqL.of hb1, hat, ?_⟩
    -- size
    refine ⟨.ref r, rfl, .int _, rfl, _, _, rfl, rfl, r, a, ns, _, rfl, R2, by omega, by omega, fun k H3 k0 k1 R3 s3 => ⟨_, _, rfl, rfl, ?_⟩⟩
    obtain ⟨z, hz⟩ : ∃ z : Nat, 2 + k = (z : Nat) := ⟨(2 + k).toNat, by omega⟩
    have hI : IsHost T z := ⟨hT, by omega, by omega⟩
    -- two turns
    refine ⟨2, rfl, by decide, by decide, ?_⟩
    refine for_it walk_range (fun i σ H4 => ∃ (y4 y5 : Option V), σ = [some (.ref a), some (.ref r), some (.int (T : Nat)), some (.int (2 + k)), y4, y5, none] ∧ Same H3 H4) ⟨none, none, rfl, Same.refl _⟩ (fun _ _ _ _ _ => trivial) (fun i x σ H4 H5 hi hI4 y => ?_) (fun σ H4 hI4 => ?_)
    · obtain ⟨y4, y5, rfl, sm⟩ := hI4
      obtain ⟨rfl, rfl⟩ := y
      refine ⟨.int _, rfl, .int _, rfl, T, z, congrArg (fun i => [V.int (T : Nat), V.int i]) hz, hI, fun H6 ql ys s6 nq hq hys => ?_⟩
      refine ⟨.int _, rfl, .int _, rfl, .ref ql, rfl, T, z, ql, ys, congrArg (fun i => [V.int (T : Nat), V.int i, V.ref ql]) hz, hI, hq, hys, fun H7 s7 => ⟨true, rfl, iteF ?_⟩⟩
      have hq7 := s7 _ _ hq
      refine ⟨.ref ql, rfl, .inl ⟨rfl, _, SqL.of hq7⟩, ql, ys, rfl, rfl, hq7, ?_⟩
      exact ⟨_, _, rfl, same_put (sm.trans (s6.trans s7)) (sm.free nq)⟩
    · obtain ⟨y4, y5, rfl, sm⟩ := hI4
      have R4 := R3.keep sm
      -- odd
      refine ⟨0, 3, rfl, rfl, eight8, fun b2 nb2 => ?_⟩
      have s5 : Same H4 (upd H4 b2 (.lst [.int 1, .int 4, .int 6, .int 8, .int 9, .int 11, .int 0, .int (0 - 3)])) := same_new nb2
      have R5 := R4.keep s5
      obtain ⟨xr4, hxr4⟩ := R4.lst
      have nb2r : b2 ≠ r := fun e => by
        rw [e, hxr4] at nb2
        cases nb2
      refine ⟨.ref r, rfl, r, a, ns, 8, rfl, R5, by decide, by decide, fun v H6 v0 v1 R6 s6 => ?_⟩
      have hb2 := s6 _ _ nb2r (upd_same : (upd H4 b2 (.lst [.int 1, .int 4, .int 6, .int 8, .int 9, .int 11, .int 0, .int (0 - 3)])) b2 = _)
      obtain ⟨o, hat2, ho, ho2⟩ : ∃ o : Int, atI [V.int 1, V.int 4, V.int 6, V.int 8, V.int 9, V.int 11, V.int 0, V.int (0 - 3)] v = some (.int o) ∧ ¬ (o = 2 ∨ o = 3 ∨ o = 5 ∨ o = 7) ∧ o.natAbs < 1000 := by
        have hv : v = 0 ∨ v = 1 ∨ v = 2 ∨ v = 3 ∨ v = 4 ∨ v = 5 ∨ v = 6 ∨ v = 7 := by omega
        rcases hv with rfl | rfl | rfl | rfl | rfl | rfl | rfl | rfl
        · exact ⟨1, rfl, by decide, by decide⟩
        · exact ⟨4, rfl, by decide, by decide⟩
        · exact ⟨6, rfl, by decide, by decide⟩
        · exact ⟨8, rfl, by decide, by decide⟩
        · exact ⟨9, rfl, by decide, by decide⟩
        · exact ⟨11, rfl, by decide, by decide⟩
        · exact ⟨0, rfl, by decide, by decide⟩
        · exact ⟨0 - 3, rfl, by decide, by decide⟩
      refine ⟨b2, _, v, _, rfl, rfl, SqL.of hb2, hat2, ?_⟩
      refine ⟨.int o, rfl, o, 2, rfl, .inl ho, ho2, by decide, fun H7 s7 => ⟨_, rfl, iteT ?_⟩⟩
      refine ⟨.int _, rfl, (T : Nat), 1, rfl, .inr (fun h => absurd h.1 (by decide)), by omega, by decide, fun H8 s8 => ⟨_, rfl, iteT ?_⟩⟩
      have R8 := R6.keep (s7.trans s8)
      refine ⟨.int _, rfl, .int _, rfl, _, _, rfl, rfl, .ref r, rfl, r, a, ns, 4, rfl, R8, by decide, by decide, fun k2 H9 k20 k21 R9 s9 => ?_⟩
      refine ⟨_, _, rfl, rfl, (T : Nat), (T : Nat) + 1 + k2, rfl, .inr (fun h => by have := h.2; omega), by omega, by omega, fun H10 s10 => q _⟩
end Nf

set_option Elab.async false
set_option linter.all false
set_option maxRecDepth 100000
set_option maxHeartbeats 4000000
namespace Nf
open PySem L2
/-! ### what the top has laid, the end -/
theorem all_mk {l : PySem.W.OpenLaw} {w : World} {K : PySem.W.Frag} {h : Heap} {mg : Str → Option Value} {fa f_with_hosts f_hosted f_L_taken f_L_pairs f_L_known f_L_new f_L_is_round f_L_none f_L_hosted f_law : Addr} (X : K.In h) (G : h.Ns mainGlobals mg) (hfa : mg "law" = some (.ref fa))
    {od_with_hosts an_with_hosts od_hosted an_hosted od_L_taken an_L_taken od_L_pairs an_L_pairs od_L_known an_L_known od_L_new an_L_new od_L_is_round an_L_is_round od_L_none an_L_none od_L_hosted an_L_hosted od_law an_law : Option Addr} {sl_with_hosts sl_hosted sl_L_taken sl_L_pairs sl_L_known sl_L_new sl_L_is_round sl_L_none sl_L_hosted sl_law : Array (Option Value)} {oc_with_hosts kV_with_hosts dc_with_hosts pm_with_hosts cd_with_hosts ct_with_hosts oc_hosted kV_hosted dc_hosted pm_hosted cd_hosted ct_hosted oc_L_taken kV_L_taken dc_L_taken pm_L_taken cd_L_taken ct_L_taken oc_L_pairs kV_L_pairs dc_L_pairs pm_L_pairs cd_L_pairs ct_L_pairs oc_L_known kV_L_known dc_L_known pm_L_known cd_L_known ct_L_known oc_L_new kV_L_new dc_L_new pm_L_new cd_L_new ct_L_new oc_L_is_round kV_L_is_round dc_L_is_round pm_L_is_round cd_L_is_round ct_L_is_round oc_L_none kV_L_none dc_L_none pm_L_none cd_L_none ct_L_none oc_L_hosted kV_L_hosted dc_L_hosted pm_L_hosted cd_L_hosted ct_L_hosted oc_law kV_law dc_law pm_law cd_law ct_law : Value} {CP u_ho : Addr} {d_ho : Option Addr} {i_ho : Array Value} {n_ho : Nat} {s_ho : Array (Option Value)}
    (a_with_hosts : PySem.W.nsIn K mainGlobals "with_hosts" = some (some (.ref f_with_hosts)))
    (l_with_hosts : K.lookup f_with_hosts = some ⟨oc_with_hosts, od_with_hosts, .func (PySem.W.fnOf "with_hosts" "with_hosts" (defArgs sWithHosts) (defBody sWithHosts) (defScope sWithHosts) .none kV_with_hosts dc_with_hosts pm_with_hosts an_with_hosts cd_with_hosts ct_with_hosts), sl_with_hosts⟩)
    (c_with_hosts : PySem.W.codeIn K cd_with_hosts "with_hosts" = true)
    (k_with_hosts : PySem.W.keepIn K (.ref f_with_hosts) = true)
    (a_hosted : PySem.W.nsIn K mainGlobals "hosted" = some (some (.ref f_hosted)))
    (l_hosted : K.lookup f_hosted = some ⟨oc_hosted, od_hosted, .func (PySem.W.fnOf "hosted" "hosted" (defArgs sHosted) (defBody sHosted) (defScope sHosted) .none kV_hosted dc_hosted pm_hosted an_hosted cd_hosted ct_hosted), sl_hosted⟩)
    (c_hosted : PySem.W.codeIn K cd_hosted "hosted" = true)
    (k_hosted : PySem.W.keepIn K (.ref f_hosted) = true)
    (a_L_taken : PySem.W.nsIn K mainGlobals "_law_taken" = some (some (.ref f_L_taken)))
    (l_L_taken : K.lookup f_L_taken = some ⟨oc_L_taken, od_L_taken, .func (PySem.W.fnOf "_law_taken" "_law_taken" (defArgs lTaken) (defBody lTaken) (defScope lTaken) .none kV_L_taken dc_L_taken pm_L_taken an_L_taken cd_L_taken ct_L_taken), sl_L_taken⟩)
    (c_L_taken : PySem.W.codeIn K cd_L_taken "_law_taken" = true)
    (k_L_taken : PySem.W.keepIn K (.ref f_L_taken) = true)
    (a_L_pairs : PySem.W.nsIn K mainGlobals "_law_pairs" = some (some (.ref f_L_pairs)))
    (l_L_pairs : K.lookup f_L_pairs = some ⟨oc_L_pairs, od_L_pairs, .func (PySem.W.fnOf "_law_pairs" "_law_pairs" (defArgs lPairs) (defBody lPairs) (defScope lPairs) .none kV_L_pairs dc_L_pairs pm_L_pairs an_L_pairs cd_L_pairs ct_L_pairs), sl_L_pairs⟩)
    (c_L_pairs : PySem.W.codeIn K cd_L_pairs "_law_pairs" = true)
    (k_L_pairs : PySem.W.keepIn K (.ref f_L_pairs) = true)
    (a_L_known : PySem.W.nsIn K mainGlobals "_law_known" = some (some (.ref f_L_known)))
    (l_L_known : K.lookup f_L_known = some ⟨oc_L_known, od_L_known, .func (PySem.W.fnOf "_law_known" "_law_known" (defArgs lKnown) (defBody lKnown) (defScope lKnown) .none kV_L_known dc_L_known pm_L_known an_L_known cd_L_known ct_L_known), sl_L_known⟩)
    (c_L_known : PySem.W.codeIn K cd_L_known "_law_known" = true)
    (k_L_known : PySem.W.keepIn K (.ref f_L_known) = true)
    (a_L_new : PySem.W.nsIn K mainGlobals "_law_new" = some (some (.ref f_L_new)))
    (l_L_new : K.lookup f_L_new = some ⟨oc_L_new, od_L_new, .func (PySem.W.fnOf "_law_new" "_law_new" (defArgs lNew) (defBody lNew) (defScope lNew) .none kV_L_new dc_L_new pm_L_new an_L_new cd_L_new ct_L_new), sl_L_new⟩)
    (c_L_new : PySem.W.codeIn K cd_L_new "_law_new" = true)
    (k_L_new : PySem.W.keepIn K (.ref f_L_new) = true)
    (a_L_is_round : PySem.W.nsIn K mainGlobals "_law_is_round" = some (some (.ref f_L_is_round)))
    (l_L_is_round : K.lookup f_L_is_round = some ⟨oc_L_is_round, od_L_is_round, .func (PySem.W.fnOf "_law_is_round" "_law_is_round" (defArgs lIsRound) (defBody lIsRound) (defScope lIsRound) .none kV_L_is_round dc_L_is_round pm_L_is_round an_L_is_round cd_L_is_round ct_L_is_round), sl_L_is_round⟩)
    (c_L_is_round : PySem.W.codeIn K cd_L_is_round "_law_is_round" = true)
    (k_L_is_round : PySem.W.keepIn K (.ref f_L_is_round) = true)
    (a_L_none : PySem.W.nsIn K mainGlobals "_law_none" = some (some (.ref f_L_none)))
    (l_L_none : K.lookup f_L_none = some ⟨oc_L_none, od_L_none, .func (PySem.W.fnOf "_law_none" "_law_none" (defArgs lNone) (defBody lNone) (defScope lNone) .none kV_L_none dc_L_none pm_L_none an_L_none cd_L_none ct_L_none), sl_L_none⟩)
    (c_L_none : PySem.W.codeIn K cd_L_none "_law_none" = true)
    (k_L_none : PySem.W.keepIn K (.ref f_L_none) = true)
    (a_L_hosted : PySem.W.nsIn K mainGlobals "_law_hosted" = some (some (.ref f_L_hosted)))
    (l_L_hosted : K.lookup f_L_hosted = some ⟨oc_L_hosted, od_L_hosted, .func (PySem.W.fnOf "_law_hosted" "_law_hosted" (defArgs lHosted) (defBody lHosted) (defScope lHosted) .none kV_L_hosted dc_L_hosted pm_L_hosted an_L_hosted cd_L_hosted ct_L_hosted), sl_L_hosted⟩)
    (c_L_hosted : PySem.W.codeIn K cd_L_hosted "_law_hosted" = true)
    (k_L_hosted : PySem.W.keepIn K (.ref f_L_hosted) = true)
    (a_law : PySem.W.nsIn K mainGlobals "law" = some (some (.ref f_law)))
    (l_law : K.lookup f_law = some ⟨oc_law, od_law, .func (PySem.W.fnOf "law" "law" (defArgs lLaw) (defBody lLaw) (defScope lLaw) .none kV_law dc_law pm_law an_law cd_law ct_law), sl_law⟩)
    (c_law : PySem.W.codeIn K cd_law "law" = true)
    (k_law : PySem.W.keepIn K (.ref f_law) = true)
    (zSS : ∃ t, PySem.W.nsIn K mainGlobals "SMALLEST_SIZE" = some (some (.int 2 t)))
    (b_len : PySem.W.nsIn K mainGlobals "len" = some none)
    (b_all : PySem.W.nsIn K mainGlobals "all" = some none)
    (b_zip : PySem.W.nsIn K mainGlobals "zip" = some none)
    (b_set : PySem.W.nsIn K mainGlobals "set" = some none)
    (b_sorted : PySem.W.nsIn K mainGlobals "sorted" = some none)
    (b_enumerate : PySem.W.nsIn K mainGlobals "enumerate" = some none)
    (b_list : PySem.W.nsIn K mainGlobals "list" = some none)
    (b_tuple : PySem.W.nsIn K mainGlobals "tuple" = some none)
    (b_range : PySem.W.nsIn K mainGlobals "range" = some none)
    (b_isinstance : PySem.W.nsIn K mainGlobals "isinstance" = some none)
    (b_min : PySem.W.nsIn K mainGlobals "min" = some none)
    (b_max : PySem.W.nsIn K mainGlobals "max" = some none)
    (b_int : PySem.W.nsIn K mainGlobals "int" = some none)
    (b_bool : PySem.W.nsIn K mainGlobals "bool" = some none)
    (b_str : PySem.W.nsIn K mainGlobals "str" = some none)
    (x_ho : PySem.W.nsIn K mainGlobals "HOSTED_TABLES" = some (some (.ref u_ho)))
    (x_hoL : K.lookup u_ho = some ⟨.type "tuple", d_ho, .seq i_ho n_ho, s_ho⟩)
    (x_hoV : Vals [.int 2, .int 3, .int 5, .int 7] i_ho.toList)
    (x_gP : PySem.W.nsIn K mainGlobals "BadParty" = some (some (.ref CP)))
    (x_bX : PySem.W.excIn K CP [.type "ValueError", .type "Exception", .type "BaseException", .type "object"] "ValueError.__new__" = true)
    (x_bXk : PySem.W.keepIn K (.ref CP) = true)
    (x_bXb : PySem.W.subIn K (.ref CP) (.type "BaseException") = some true)
    (x_tX : PySem.W.typeIn K (.ref CP) = some (.type "type"))
    (x_hX : PySem.W.hasDictIn K CP = true)
    (x_sXX : PySem.W.subIn K (.ref CP) (.ref CP) = some true) :
    ∃ fd : FuncData, (∀ (s : Shared) (v : Value), BindsTo s fd ⟨[v], []⟩ [("_law_script", v)]) ∧ ∀ base : Heap, K.In base → base.Ns mainGlobals mg → FnOk l.prog w K mg base CX0 5 fa fd ["_law_script"] (spLaw K) := by
  have e := hfa.symm.trans (PySem.W.mg_of X G a_law)
  cases e
  obtain ⟨tSS, zSS⟩ := zSS
  have B : Blt mg := ⟨PySem.W.mg_none_of X G b_len, PySem.W.mg_none_of X G b_all, PySem.W.mg_none_of X G b_zip, PySem.W.mg_none_of X G b_set, PySem.W.mg_none_of X G b_sorted, PySem.W.mg_none_of X G b_enumerate, PySem.W.mg_none_of X G b_list, PySem.W.mg_none_of X G b_tuple, PySem.W.mg_none_of X G b_range, PySem.W.mg_none_of X G b_isinstance, PySem.W.mg_none_of X G b_min, PySem.W.mg_none_of X G b_max, PySem.W.mg_none_of X G b_int, PySem.W.mg_none_of X G b_bool, PySem.W.mg_none_of X G b_str⟩
  have F_with_hosts := fun_mk (st := sWithHosts) l_with_hosts c_with_hosts k_with_hosts
  have B_with_hosts := F_with_hosts.binds (ps := ["tables", "size"]) fun _ _ _ _ _ _ us hl => match us, hl with | [_, _], _ => rfl
  have G_with_hosts := PySem.W.mg_of X G a_with_hosts
  have F_hosted := fun_mk (st := sHosted) l_hosted c_hosted k_hosted
  have B_hosted := F_hosted.binds (ps := ["tables", "size", "number"]) fun _ _ _ _ _ _ us hl => match us, hl with | [_, _, _], _ => rfl
  have G_hosted := PySem.W.mg_of X G a_hosted
  have F_L_taken := fun_mk (st := lTaken) l_L_taken c_L_taken k_L_taken
  have B_L_taken := F_L_taken.binds (ps := ["_law_row", "_law_many"]) fun _ _ _ _ _ _ us hl => match us, hl with | [_, _], _ => rfl
  have G_L_taken := PySem.W.mg_of X G a_L_taken
  have F_L_pairs := fun_mk (st := lPairs) l_L_pairs c_L_pairs k_L_pairs
  have B_L_pairs := F_L_pairs.binds (ps := ["_law_tables"]) fun _ _ _ _ _ _ us hl => match us, hl with | [_], _ => rfl
  have G_L_pairs := PySem.W.mg_of X G a_L_pairs
  have F_L_known := fun_mk (st := lKnown) l_L_known c_L_known k_L_known
  have B_L_known := F_L_known.binds (ps := ["_law_plan"]) fun _ _ _ _ _ _ us hl => match us, hl with | [_], _ => rfl
  have G_L_known := PySem.W.mg_of X G a_L_known
  have F_L_new := fun_mk (st := lNew) l_L_new c_L_new k_L_new
  have B_L_new := F_L_new.binds (ps := ["_law_tables", "_law_plan"]) fun _ _ _ _ _ _ us hl => match us, hl with | [_, _], _ => rfl
  have G_L_new := PySem.W.mg_of X G a_L_new
  have F_L_is_round := fun_mk (st := lIsRound) l_L_is_round c_L_is_round k_L_is_round
  have B_L_is_round := F_L_is_round.binds (ps := ["_law_guests", "_law_size", "_law_tables"]) fun _ _ _ _ _ _ us hl => match us, hl with | [_, _, _], _ => rfl
  have G_L_is_round := PySem.W.mg_of X G a_L_is_round
  have F_L_none := fun_mk (st := lNone) l_L_none c_L_none k_L_none
  have B_L_none := F_L_none.binds (ps := ["_law_tables", "_law_size"]) fun _ _ _ _ _ _ us hl => match us, hl with | [_, _], _ => rfl
  have G_L_none := PySem.W.mg_of X G a_L_none
  have F_L_hosted := fun_mk (st := lHosted) l_L_hosted c_L_hosted k_L_hosted
  have B_L_hosted := F_L_hosted.binds (ps := ["_law_tables", "_law_size", "_law_plan"]) fun _ _ _ _ _ _ us hl => match us, hl with | [_, _, _], _ => rfl
  have G_L_hosted := PySem.W.mg_of X G a_L_hosted
  have F_law := fun_mk (st := lLaw) l_law c_law k_law
  refine ⟨PySem.W.fnOf "law" "law" (defArgs lLaw) (defBody lLaw) (defScope lLaw) .none kV_law dc_law pm_law an_law cd_law ct_law, fun s v => .of_eq rfl, fun base _ _ => ?_⟩
  have Zs : HoT K mg := ⟨_, PySem.W.mg_of X G x_ho, fun H => .inr ⟨_, _, _, x_hoL, rfl, rfl, (by
    have e : ([.int 2, .int 3, .int 5, .int 7] : List V).length = i_ho.toList.length := x_hoV.length
    have e2 : i_ho.size = i_ho.toList.length := by simp
    rw [e2, ← e]
    show 4 ≤ sizeLine
    decide), x_hoV⟩⟩
  have BP : BpTxt K mg CP := ⟨PySem.W.mg_of X G x_gP, x_bX, x_bXk, x_bXb, x_tX, PySem.W.exm_ref x_bXb x_hX x_tX x_sXX⟩
  have ms : ∃ t, mg "SMALLEST_SIZE" = some (.int 2 t) := ⟨tSS, PySem.W.mg_of X G zSS⟩
  have GW := ok_withHosts (P := l.prog) (w := w) (base := base) F_with_hosts B Zs ms F_hosted B_hosted G_hosted
  have GX := ok_noHosts (P := l.prog) (w := w) (base := base) F_with_hosts B Zs ms BP
  have GN := ok_none (P := l.prog) (w := w) (base := base) F_L_none BP GX F_with_hosts B_with_hosts G_with_hosts
  have GH := ok_hostedL (P := l.prog) (w := w) (base := base) F_L_hosted B F_L_is_round B_L_is_round G_L_is_round F_L_pairs B_L_pairs G_L_pairs F_L_known B_L_known G_L_known F_L_new B_L_new G_L_new
  exact ok_law F_law B ⟨ok_taken F_L_taken B, k_L_taken, B_L_taken, G_L_taken⟩ ⟨GW, k_with_hosts, B_with_hosts, G_with_hosts⟩ ⟨GH, k_L_hosted, B_L_hosted, G_L_hosted⟩ ⟨GN, k_L_none, B_L_none, G_L_none⟩
theorem walk {l : PySem.W.OpenLaw} {q : Program} {loose : List Str} {XP : (Str → Option Value) → Heap → Prop} {YP : World → Heap → Prop} {d : DefRec} {K : Params → PySem.W.Frag} (hn : l.most = some 63) (hdf : d.params.defaults = [])
    (hY : ∀ (w : World) (h : Heap), YP w h → (K w.params).In h)
    (F : ∀ (w : World) (mg : Str → Option Value) (fa : Addr) (h : Heap), (K w.params).In h → h.Ns mainGlobals mg → mg d.name = some (.ref fa) →
      ∃ fd : FuncData, (∀ (s : Shared) (u : Value), BindsTo s fd ⟨[u], []⟩ [("_law_script", u)]) ∧ ∀ base : Heap, (K w.params).In base → base.Ns mainGlobals mg → FnOk l.prog w (K w.params) mg base CX0 5 fa fd ["_law_script"] (spLaw (K w.params))) :
    PySem.W.WalkO q loose XP YP l.row.toRowW d [] (fun f vs => PySem.call f vs) :=
  L2.walk_of (n := 63) (k := 5) (x := "_law_script") (CX := fun _ => CX0) (sp := fun w => spLaw (K w.params)) hn (by decide) hdf ⟨rfl, by decide, by decide⟩ hY F (fun _ _ a ns hl _ hS => ⟨a, ns, rfl, hS, hl, fun _ => rfl⟩) fun _ _ _ _ _ z => z
end Nf

set_option Elab.async false
set_option maxRecDepth 100000
open PySem PySem.W PyProof.Rows in
set_option maxRecDepth 100000 in
set_option maxHeartbeats 0 in
theorem PySem.Challenge.cw_newfaces_k08_whole_hosts_who_stay_holds : PySem.Challenge.rw_newfaces_k08_whole_hosts_who_stay.Holds := by
  w_on; o_law; k_head; (case hw => w_witness2)
  k_fill
  refine Nf.walk (l := PySem.Challenge.rw_newfaces_k08_whole_hosts_who_stay) rfl rfl (fun w h Y => PySem.W.kIn_of Y) ?F
  case F =>
    intro w mg fa h KX G hmg
    refine' Nf.all_mk KX G hmg ?a_with_hosts ?l_with_hosts ?c_with_hosts ?k_with_hosts ?a_hosted ?l_hosted ?c_hosted ?k_hosted ?a_L_taken ?l_L_taken ?c_L_taken ?k_L_taken ?a_L_pairs ?l_L_pairs ?c_L_pairs ?k_L_pairs ?a_L_known ?l_L_known ?c_L_known ?k_L_known ?a_L_new ?l_L_new ?c_L_new ?k_L_new ?a_L_is_round ?l_L_is_round ?c_L_is_round ?k_L_is_round ?a_L_none ?l_L_none ?c_L_none ?k_L_none ?a_L_hosted ?l_L_hosted ?c_L_hosted ?k_L_hosted ?a_law ?l_law ?c_law ?k_law ?zSS ?b_len ?b_all ?b_zip ?b_set ?b_sorted ?b_enumerate ?b_list ?b_tuple ?b_range ?b_isinstance ?b_min ?b_max ?b_int ?b_bool ?b_str ?x_ho ?x_hoL ?x_hoV ?x_gP ?x_bX ?x_bXk ?x_bXb ?x_tX ?x_hX ?x_sXX
    (case a_with_hosts => k_is)
    (case l_with_hosts => k_is)
    (case c_with_hosts => k_is)
    (case k_with_hosts => k_is)
    (case a_hosted => k_is)
    (case l_hosted => k_is)
    (case c_hosted => k_is)
    (case k_hosted => k_is)
    (case a_L_taken => k_is)
    (case l_L_taken => k_is)
    (case c_L_taken => k_is)
    (case k_L_taken => k_is)
    (case a_L_pairs => k_is)
    (case l_L_pairs => k_is)
    (case c_L_pairs => k_is)
    (case k_L_pairs => k_is)
    (case a_L_known => k_is)
    (case l_L_known => k_is)
    (case c_L_known => k_is)
    (case k_L_known => k_is)
    (case a_L_new => k_is)
    (case l_L_new => k_is)
    (case c_L_new => k_is)
    (case k_L_new => k_is)
    (case a_L_is_round => k_is)
    (case l_L_is_round => k_is)
    (case c_L_is_round => k_is)
    (case k_L_is_round => k_is)
    (case a_L_none => k_is)
    (case l_L_none => k_is)
    (case c_L_none => k_is)
    (case k_L_none => k_is)
    (case a_L_hosted => k_is)
    (case l_L_hosted => k_is)
    (case c_L_hosted => k_is)
    (case k_L_hosted => k_is)
    (case a_law => k_is)
    (case l_law => k_is)
    (case c_law => k_is)
    (case k_law => k_is)
    (case zSS => exact ⟨_, by k_is⟩)
    (case b_len => k_is)
    (case b_all => k_is)
    (case b_zip => k_is)
    (case b_set => k_is)
    (case b_sorted => k_is)
    (case b_enumerate => k_is)
    (case b_list => k_is)
    (case b_tuple => k_is)
    (case b_range => k_is)
    (case b_isinstance => k_is)
    (case b_min => k_is)
    (case b_max => k_is)
    (case b_int => k_is)
    (case b_bool => k_is)
    (case b_str => k_is)
    (case x_ho => k_is)
    (case x_hoL => k_is)
    (case x_hoV => exact .cons ⟨_, rfl⟩ (.cons ⟨_, rfl⟩ (.cons ⟨_, rfl⟩ (.cons ⟨_, rfl⟩ .nil))))
    (case x_gP => k_is)
    (case x_bX => first | k_exc | k_is | decide +kernel)
    (case x_bXk => k_is)
    (case x_bXb => k_is)
    (case x_tX => k_is)
    (case x_hX => k_is)
    (case x_sXX => first | rfl | k_is)

