import PyProof.Rows.All
import Wide.All
import OpenK.AllK
import Wide.FinOn
import HandS.ForMost
import HandS.Sort
import HandS.SortInts
import HandS.Conv
import HandS.Zip
import HandS.IsInst
import HandS.Deep
import HandS.Walk
import KE.SortData
import KE.GoesMore
import KE.GoesEnum
import PyProof.Rows.Range3
import HandS.TupAny
import HandS.Flow
import HandS.More
import HandS.Exc
import HandS.ExcInit
import HandS.ExcSuper
import HandS.WordsExc
import HandS.ForSpec
import HandS.FStr
import KE.KExcSuper
import KE.KSuper
import KE.KExcIs
import HandS.ExcIs
import HandS.CallSlots
import HandS.TryOnly
import KE.KDictCopyH
import HandS.TupSets
import HandS.RaiseMore
import KE.DataFind
import PySem.Challenge.RW_newfaces_k06_rounds_turned
set_option autoImplicit false
/-! Rounds of tables: the mathematics. -/
namespace Nf
abbrev Tbl := List Int
abbrev Rnd := List Tbl

/-! ### lists -/
theorem dropCons {α : Type} {l : List α} {i : Nat} {x : α} (h : l[i]? = some x) : l.drop i = x :: l.drop (i + 1) := by
  obtain ⟨hi, e⟩ := List.getElem?_eq_some_iff.mp h
  rw [List.drop_eq_getElem_cons hi, e]
theorem takeSucc {α : Type} {l : List α} {i : Nat} {x : α} (h : l[i]? = some x) : l.take (i + 1) = l.take i ++ [x] := by
  rw [List.take_add_one, h]
  rfl

/-! ### pairs -/
def pairsT : Tbl → List (Int × Int)
  | [] => []
  | a :: t => t.map (fun b => (a, b)) ++ pairsT t
def pairsR (r : Rnd) : List (Int × Int) := r.flatMap pairsT
theorem pairsT_len : ∀ t : Tbl, (pairsT t).length ≤ t.length * t.length
  | [] => Nat.le_refl _
  | a :: t => by
    have := pairsT_len t
    simp only [pairsT, List.length_append, List.length_map, List.length_cons]
    have e : (t.length + 1) * (t.length + 1) = t.length * t.length + 2 * t.length + 1 := by
      simp only [Nat.add_mul, Nat.mul_add]
      omega
    omega
theorem mem_pairsT : ∀ {t : Tbl} {p : Int × Int}, p ∈ pairsT t → p.1 ∈ t ∧ p.2 ∈ t
  | [], _, h => by simp [pairsT] at h
  | a :: t, p, h => by
    simp only [pairsT, List.mem_append, List.mem_map] at h
    rcases h with ⟨b, hb, rfl⟩ | h
    · exact ⟨by simp, by simp [hb]⟩
    · exact ⟨List.mem_cons_of_mem _ (mem_pairsT h).1, List.mem_cons_of_mem _ (mem_pairsT h).2⟩

/-! ### order of tables, of pairs -/
def leI (a b : Int) : Bool := decide (a ≤ b)
def leT (a b : Tbl) : Bool := decide (a ≤ b)
theorem leI_trans (a b c : Int) (h : leI a b = true) (h' : leI b c = true) : leI a c = true := by
  simp only [leI, decide_eq_true_eq] at *
  omega
theorem leI_total (a b : Int) : (leI a b || leI b a) = true := by
  simp only [leI, Bool.or_eq_true, decide_eq_true_eq]
  omega
theorem leT_trans (a b c : Tbl) (h : leT a b = true) (h' : leT b c = true) : leT a c = true := by
  simp only [leT, decide_eq_true_eq] at *
  exact List.le_trans h h'
theorem leT_total (a b : Tbl) : (leT a b || leT b a) = true := by
  simp only [leT, Bool.or_eq_true, decide_eq_true_eq]
  exact List.le_total a b
def sortI (t : Tbl) : Tbl := t.mergeSort leI
def sortT (r : Rnd) : Rnd := r.mergeSort leT
theorem sortI_perm (t : Tbl) : (sortI t).Perm t := List.mergeSort_perm _ _
theorem sortT_perm (r : Rnd) : (sortT r).Perm r := List.mergeSort_perm _ _
theorem sortI_up (t : Tbl) : (sortI t).Pairwise (· ≤ ·) := (List.pairwise_mergeSort leI_trans leI_total t).imp fun h => of_decide_eq_true h
theorem sortT_up (r : Rnd) : (sortT r).Pairwise (· ≤ ·) := (List.pairwise_mergeSort leT_trans leT_total r).imp fun h => of_decide_eq_true h
theorem sortI_iff (t : Tbl) : t = sortI t ↔ t.Pairwise (· ≤ ·) := by
  constructor
  · intro h
    rw [h]
    exact sortI_up t
  · intro h
    exact (List.mergeSort_of_pairwise (h.imp fun q => decide_eq_true q)).symm
theorem sortT_iff (r : Rnd) : r = sortT r ↔ r.Pairwise (· ≤ ·) := by
  constructor
  · intro h
    rw [h]
    exact sortT_up r
  · intro h
    exact (List.mergeSort_of_pairwise (h.imp fun q => decide_eq_true q)).symm

/-! ### rounds -/
structure IsRound (g s : Int) (r : Rnd) : Prop where
  sz : ∀ t ∈ r, 1 ≤ t.length ∧ (t.length : Int) ≤ s
  up : ∀ t ∈ r, t.Pairwise (· ≤ ·)
  lo : ∀ x ∈ r.flatten, 0 ≤ x ∧ x < g
  nd : r.flatten.Nodup
  ct : (r.length : Int) ≤ g / s
  ord : r.Pairwise (· ≤ ·)

def rises (t : Tbl) : Bool := (t.zip (t.drop 1)).all fun p => decide (p.1 < p.2)
theorem rises_iff : ∀ t : Tbl, rises t = true ↔ t.Pairwise (· < ·)
  | [] => by simp [rises]
  | [a] => by simp [rises]
  | a :: b :: t => by
    have ih := rises_iff (b :: t)
    have e : rises (a :: b :: t) = (decide (a < b) && rises (b :: t)) := by
      simp [rises]
    rw [e, Bool.and_eq_true, ih, decide_eq_true_eq, List.pairwise_cons (a := a)]
    constructor
    · rintro ⟨h, q⟩
      refine ⟨fun x hx => ?_, q⟩
      rcases List.mem_cons.mp hx with rfl | hx
      · exact h
      · have := (List.pairwise_cons.mp q).1 x hx
        omega
    · rintro ⟨h, q⟩
      exact ⟨h b (by simp), q⟩

theorem up_strict {t : Tbl} (h : t.Pairwise (· ≤ ·)) (n : t.Nodup) : t.Pairwise (· < ·) :=
  List.Pairwise.imp₂ (fun a b (h1 : a ≤ b) (h2 : a ≠ b) => by omega) h n
theorem strict_up {t : Tbl} (h : t.Pairwise (· < ·)) : t.Pairwise (· ≤ ·) := h.imp fun q => by omega

/-- the program's own test of a table -/
structure IsTable (g s : Int) (t : Tbl) : Prop where
  sz : 1 ≤ t.length ∧ (t.length : Int) ≤ s
  up : t.Pairwise (· < ·)
  lo : 0 ≤ t.headD 0
  hi : t.getLastD 0 < g
theorem last_top : ∀ {t : Tbl}, t.Pairwise (· ≤ ·) → ∀ x ∈ t, x ≤ t.getLastD 0
  | [], _, x, h => by simp at h
  | [a], _, x, h => by
    have e : x = a := by simpa using h
    subst e
    simp
  | a :: b :: t, h, x, hx => by
    have ih := last_top (t := b :: t) (List.pairwise_cons.mp h).2
    have e : (a :: b :: t).getLastD 0 = (b :: t).getLastD 0 := by simp [List.getLastD]
    rw [e]
    rcases List.mem_cons.mp hx with rfl | hx
    · have h1 := (List.pairwise_cons.mp h).1 b (by simp)
      have h2 := ih b (by simp)
      omega
    · exact ih x hx
theorem head_low : ∀ {t : Tbl}, t.Pairwise (· ≤ ·) → ∀ x ∈ t, t.headD 0 ≤ x
  | [], _, x, h => by simp at h
  | a :: t, h, x, hx => by
    show a ≤ x
    rcases List.mem_cons.mp hx with rfl | hx
    · exact Int.le_refl _
    · exact (List.pairwise_cons.mp h).1 x hx
theorem head_mem : ∀ {t : Tbl}, 1 ≤ t.length → t.headD 0 ∈ t
  | [], h => by simp at h
  | a :: t, _ => by simp
theorem last_mem : ∀ {t : Tbl}, 1 ≤ t.length → t.getLastD 0 ∈ t
  | [], h => by simp at h
  | [a], _ => by simp
  | a :: b :: t, _ => by
    have := last_mem (t := b :: t) (by simp)
    have e : (a :: b :: t).getLastD 0 = (b :: t).getLastD 0 := by simp [List.getLastD]
    rw [e]
    exact List.mem_cons_of_mem _ this
theorem IsTable.range {g s : Int} {t : Tbl} (h : IsTable g s t) : ∀ x ∈ t, 0 ≤ x ∧ x < g := fun x hx =>
  ⟨Int.le_trans h.lo (head_low (strict_up h.up) x hx), Int.lt_of_le_of_lt (last_top (strict_up h.up) x hx) h.hi⟩

theorem le_of_head {a b : Tbl} (ha : 1 ≤ a.length) (hb : 1 ≤ b.length) (h : a.headD 0 < b.headD 0) : a ≤ b := by
  cases a with
  | nil => simp at ha
  | cons x a =>
    cases b with
    | nil => simp at hb
    | cons y b => exact List.cons_le_cons_iff.mpr (.inl h)
theorem head_of_le {a b : Tbl} (ha : 1 ≤ a.length) (hb : 1 ≤ b.length) (h : a ≤ b) (d : ∀ x ∈ a, x ∉ b) : a.headD 0 < b.headD 0 := by
  cases a with
  | nil => simp at ha
  | cons x a =>
    cases b with
    | nil => simp at hb
    | cons y b =>
      rcases List.cons_le_cons_iff.mp h with h | ⟨rfl, _⟩
      · exact h
      · exact absurd List.mem_cons_self (d x List.mem_cons_self)

theorem flat_disjoint {r : Rnd} (h : r.flatten.Nodup) : r.Pairwise (fun a b => ∀ x ∈ a, x ∉ b) :=
  (List.pairwise_flatten.mp h).2.imp fun q x hx hy => q x hx x hy rfl
theorem flat_each {r : Rnd} (h : r.flatten.Nodup) : ∀ t ∈ r, t.Nodup := (List.pairwise_flatten.mp h).1

theorem pw_mem {α : Type} {R S : α → α → Prop} {l : List α} (h : l.Pairwise R) (q : ∀ a ∈ l, ∀ b ∈ l, R a b → S a b) : l.Pairwise S := by
  induction l with
  | nil => exact .nil
  | cons x l ih =>
    obtain ⟨h1, h2⟩ := List.pairwise_cons.mp h
    exact List.pairwise_cons.mpr ⟨fun y hy => q x (by simp) y (by simp [hy]) (h1 y hy), ih h2 fun a ha b hb => q a (by simp [ha]) b (by simp [hb])⟩

/-- the program's own test of a round -/
theorem isRound_iff {g s : Int} {r : Rnd} : IsRound g s r ↔ ((r.length : Int) ≤ g / s ∧ (∀ t ∈ r, IsTable g s t) ∧ r.flatten.Nodup ∧ (r.map (·.headD 0)).Pairwise (· < ·)) := by
  constructor
  · intro h
    refine ⟨h.ct, fun t ht => ?_, h.nd, ?_⟩
    · have l1 := h.sz t ht
      have m : ∀ x ∈ t, x ∈ r.flatten := fun x hx => List.mem_flatten.mpr ⟨t, ht, hx⟩
      exact ⟨l1, up_strict (h.up t ht) (flat_each h.nd t ht), (h.lo _ (m _ (head_mem l1.1))).1, (h.lo _ (m _ (last_mem l1.1))).2⟩
    · rw [List.pairwise_map]
      exact pw_mem (List.Pairwise.imp₂ (fun a b (p : a ≤ b) (q : ∀ x ∈ a, x ∉ b) => And.intro p q) h.ord (flat_disjoint h.nd)) fun a ha b hb q =>
        head_of_le (h.sz a ha).1 (h.sz b hb).1 q.1 q.2
  · rintro ⟨h1, h2, h3, h4⟩
    refine ⟨fun t ht => (h2 t ht).sz, fun t ht => strict_up (h2 t ht).up, fun x hx => ?_, h3, h1, ?_⟩
    · obtain ⟨t, ht, hxt⟩ := List.mem_flatten.mp hx
      exact (h2 t ht).range x hxt
    · rw [List.pairwise_map] at h4
      exact pw_mem h4 fun a ha b hb q => le_of_head (h2 a ha).sz.1 (h2 b hb).sz.1 q

theorem sum_le {r : Rnd} {s : Int} (h : ∀ t ∈ r, (t.length : Int) ≤ s) : (r.flatten.length : Int) ≤ r.length * s := by
  induction r with
  | nil => simp
  | cons t r ih =>
    have h1 := h t (by simp)
    have h2 := ih fun t ht => h t (by simp [ht])
    simp only [List.flatten_cons, List.length_append, List.length_cons]
    have e : ((r.length + 1 : Nat) : Int) * s = (r.length : Int) * s + s := by
      rw [Int.natCast_add, Int.add_mul]
      simp
    rw [e]
    omega

/-! ### what is wrong with a plan -/
inductive Verd where
  | good
  | rnd (k : Nat)
  | twice (a b : Int) (j k : Nat)
abbrev Known := Int → Int → Option Nat
open Classical in
noncomputable def kadd (kn : Known) (r : Rnd) (k : Nat) : Known := fun a b => if (a, b) ∈ pairsR r then some k else kn a b
def k0 : Known := fun _ _ => none
inductive IsV (g s : Int) : List Rnd → Known → Nat → Verd → Prop where
  | nil {kn : Known} {k : Nat} : IsV g s [] kn k .good
  | bad {r : Rnd} {rs : List Rnd} {kn : Known} {k : Nat} : ¬ IsRound g s r → IsV g s (r :: rs) kn k (.rnd k)
  | twice {r : Rnd} {rs : List Rnd} {kn : Known} {k j : Nat} {a b : Int} : IsRound g s r → (a, b) ∈ pairsR r → kn a b = some j →
      (∀ c d, (c, d) ∈ pairsR r → kn c d ≠ none → a < c ∨ (a = c ∧ b ≤ d)) → IsV g s (r :: rs) kn k (.twice a b j k)
  | next {r : Rnd} {rs : List Rnd} {kn : Known} {k : Nat} {v : Verd} : IsRound g s r → (∀ c d, (c, d) ∈ pairsR r → kn c d = none) →
      IsV g s rs (kadd kn r k) (k + 1) v → IsV g s (r :: rs) kn k v
theorem IsV.unique {g s : Int} : ∀ {rs : List Rnd} {kn : Known} {k : Nat} {v v' : Verd}, IsV g s rs kn k v → IsV g s rs kn k v' → v = v'
  | _, _, _, _, _, .nil, .nil => rfl
  | _, _, _, _, _, .bad _, .bad _ => rfl
  | _, _, _, _, _, .bad h, .twice h' _ _ _ => absurd h' h
  | _, _, _, _, _, .bad h, .next h' _ _ => absurd h' h
  | _, _, _, _, _, .twice h' _ _ _, .bad h => absurd h' h
  | _, _, _, _, _, .next h' _ _, .bad h => absurd h' h
  | _, _, _, _, _, .twice (a := a) (b := b) _ m e l, .twice (a := a') (b := b') _ m' e' l' => by
    have q := l _ _ m' (by rw [e']; exact Option.some_ne_none _)
    have q' := l' _ _ m (by rw [e]; exact Option.some_ne_none _)
    have ea : a = a' := by omega
    subst ea
    have eb : b = b' := by omega
    subst eb
    rw [e] at e'
    cases e'
    rfl
  | _, _, _, _, _, .twice _ m e _, .next _ n _ => by
    rw [n _ _ m] at e
    cases e
  | _, _, _, _, _, .next _ n _, .twice _ m e _ => by
    rw [n _ _ m] at e
    cases e
  | _, _, _, _, _, .next _ _ q, .next _ _ q' => q.unique q'

/-- no two sit together twice -/
structure GoodP (g s : Int) (plan : List Rnd) : Prop where
  rd : ∀ r ∈ plan, IsRound g s r
  np : plan.Pairwise (fun r r' => ∀ p ∈ pairsR r, p ∉ pairsR r')
theorem GoodP.nil {g s : Int} : GoodP g s [] := ⟨fun _ h => by simp at h, .nil⟩
theorem GoodP.snoc {g s : Int} {plan : List Rnd} {r : Rnd} (h : GoodP g s plan) (hr : IsRound g s r) (hn : ∀ p ∈ pairsR r, ∀ q ∈ plan, p ∉ pairsR q) : GoodP g s (plan ++ [r]) := by
  refine ⟨fun q hq => ?_, ?_⟩
  · rcases List.mem_append.mp hq with hq | hq
    · exact h.rd q hq
    · rw [List.mem_singleton.mp hq]
      exact hr
  · refine List.pairwise_append.mpr ⟨h.np, by simp, fun a ha b hb p hp hq => ?_⟩
    rw [List.mem_singleton.mp hb] at hq
    exact hn p hq a ha hp
theorem GoodP.isV {g s : Int} : ∀ {plan : List Rnd} {kn : Known} {k : Nat}, GoodP g s plan → (∀ r ∈ plan, ∀ p ∈ pairsR r, kn p.1 p.2 = none) → IsV g s plan kn k .good
  | [], _, _, _, _ => .nil
  | r :: rs, kn, k, h, e => by
    obtain ⟨h1, h2⟩ := List.pairwise_cons.mp h.np
    refine .next (h.rd r (by simp)) (fun c d m => e r (by simp) (c, d) m) (GoodP.isV ⟨fun q hq => h.rd q (by simp [hq]), h2⟩ fun q hq p hp => ?_)
    unfold kadd
    rw [if_neg fun z => h1 q hq _ z hp]
    exact e q (by simp [hq]) p hp

/-! ### rounds that are drawn -/
theorem chunk_flat (l : List Int) (s : Nat) : ∀ n : Nat, ((List.range n).map fun i => (l.drop (i * s)).take s).flatten = l.take (n * s)
  | 0 => by simp
  | n + 1 => by
    rw [List.range_succ, List.map_append, List.flatten_append, chunk_flat l s n]
    simp only [List.map_cons, List.map_nil, List.flatten_cons, List.flatten_nil, List.append_nil]
    rw [Nat.add_mul, Nat.one_mul, List.take_add]
theorem map_perm_flat {α : Type} (f g : α → List Int) : ∀ l : List α, (∀ x ∈ l, (f x).Perm (g x)) → ((l.map f).flatten).Perm ((l.map g).flatten)
  | [], _ => .refl _
  | x :: l, h => by
    simp only [List.map_cons, List.flatten_cons]
    exact (h x (by simp)).append (map_perm_flat f g l fun y hy => h y (by simp [hy]))
def rangeI (g : Nat) : List Int := (List.range g).map fun i : Nat => (i : Int)
theorem mem_rangeI {g : Nat} {x : Int} : x ∈ rangeI g ↔ 0 ≤ x ∧ x < g := by
  unfold rangeI
  constructor
  · intro h
    obtain ⟨i, hi, rfl⟩ := List.mem_map.mp h
    have := List.mem_range.mp hi
    omega
  · rintro ⟨h1, h2⟩
    exact List.mem_map.mpr ⟨x.toNat, List.mem_range.mpr (by omega), by omega⟩
theorem rangeI_nodup (g : Nat) : (rangeI g).Nodup := by
  unfold rangeI
  unfold List.Nodup
  rw [List.pairwise_map]
  exact (List.nodup_range (n := g)).imp fun h e => h (by omega)
theorem rangeI_len (g : Nat) : (rangeI g).length = g := by simp [rangeI]

/-- a round by its facts, its tables sorted -/
theorem isRound_sort {g s : Int} {r : Rnd} (sz : ∀ t ∈ r, 1 ≤ t.length ∧ (t.length : Int) ≤ s) (up : ∀ t ∈ r, t.Pairwise (· ≤ ·)) (lo : ∀ x ∈ r.flatten, 0 ≤ x ∧ x < g) (nd : r.flatten.Nodup) (ct : (r.length : Int) ≤ g / s) : IsRound g s (sortT r) := by
  have p := sortT_perm r
  refine ⟨fun t ht => sz t (p.mem_iff.mp ht), fun t ht => up t (p.mem_iff.mp ht), fun x hx => lo x (p.flatten.mem_iff.mp hx), p.flatten.nodup_iff.mpr nd, ?_, sortT_up r⟩
  rw [p.length_eq]
  exact ct

/-- seated: chunks, each sorted, the tables sorted -/
def seatedM (l : List Int) (s n : Nat) : Rnd := sortT ((List.range n).map fun i => sortI ((l.drop (i * s)).take s))
theorem seated_len (l : List Int) (s n : Nat) : (seatedM l s n).length = n := by
  unfold seatedM
  rw [(sortT_perm _).length_eq]
  simp
theorem seated_flat {l : List Int} {s n : Nat} (hl : l.length = n * s) : (seatedM l s n).flatten.Perm l := by
  refine ((sortT_perm _).flatten).trans ((map_perm_flat _ (fun i => (l.drop (i * s)).take s) _ fun i _ => sortI_perm _).trans ?_)
  rw [chunk_flat, List.take_of_length_le (by omega)]
theorem seated_each {l : List Int} {s n : Nat} (hl : l.length = n * s) : ∀ t ∈ seatedM l s n, t.length = s ∧ t.Pairwise (· ≤ ·) := fun t ht => by
  obtain ⟨i, hi, rfl⟩ := List.mem_map.mp ((sortT_perm _).mem_iff.mp ht)
  refine ⟨?_, sortI_up _⟩
  have hi := List.mem_range.mp hi
  rw [(sortI_perm _).length_eq, List.length_take, List.length_drop, hl]
  have e : (i + 1) * s ≤ n * s := Nat.mul_le_mul_right s hi
  rw [Nat.add_mul, Nat.one_mul] at e
  omega
theorem seated_round {l : List Int} {s n : Nat} (hp : l.Perm (rangeI (n * s))) (hs : 1 ≤ s) : IsRound ((n * s : Nat) : Int) s (seatedM l s n) := by
  have hl : l.length = n * s := by rw [hp.length_eq, rangeI_len]
  have fl := (seated_flat (s := s) hl).trans hp
  refine ⟨fun t ht => ?_, fun t ht => (seated_each hl t ht).2, fun x hx => ?_, fl.nodup_iff.mpr (rangeI_nodup _), ?_, sortT_up _⟩
  · rw [(seated_each hl t ht).1]
    exact ⟨hs, Int.le_refl _⟩
  · exact mem_rangeI.mp (fl.mem_iff.mp hx)
  · rw [seated_len]
    have : ((n * s : Nat) : Int) / (s : Int) = n := by
      rw [Int.natCast_mul]
      exact Int.mul_ediv_cancel _ (by omega)
    omega

/-- some of a round's guests are away -/
structure Thin (r f : Rnd) (i : Nat) : Prop where
  fl : f.flatten.Sublist (r.take i).flatten
  ct : f.length ≤ i
  each : ∀ t ∈ f, t ≠ [] ∧ ∃ u ∈ r, t.Sublist u
theorem Thin.zero (r : Rnd) : Thin r [] 0 := ⟨by simp, Nat.le_refl _, fun _ h => by simp at h⟩
theorem Thin.skip {r f : Rnd} {i : Nat} (h : Thin r f i) : Thin r f (i + 1) := by
  refine ⟨h.fl.trans ?_, Nat.le_succ_of_le h.ct, h.each⟩
  rw [List.take_add, List.flatten_append]
  exact List.sublist_append_left _ _
theorem Thin.add {r f : Rnd} {i : Nat} {t u : Tbl} (h : Thin r f i) (hu : r[i]? = some u) (ht : t.Sublist u) (hn : t ≠ []) : Thin r (f ++ [t]) (i + 1) := by
  refine ⟨?_, ?_, fun x hx => ?_⟩
  · rw [takeSucc hu, List.flatten_append, List.flatten_append]
    exact h.fl.append (by simpa using ht)
  · rw [List.length_append]
    exact Nat.succ_le_succ h.ct
  · rcases List.mem_append.mp hx with hx | hx
    · exact h.each x hx
    · rw [List.mem_singleton.mp hx]
      exact ⟨hn, u, List.mem_of_getElem? hu, ht⟩
theorem Thin.round {g s : Int} {r f : Rnd} (h : Thin r f r.length) (hr : IsRound g s r) : IsRound g s (sortT f) := by
  have fl : f.flatten.Sublist r.flatten := by
    have := h.fl
    rwa [List.take_of_length_le (Nat.le_refl _)] at this
  refine isRound_sort (fun t ht => ?_) (fun t ht => ?_) (fun x hx => hr.lo x (fl.subset hx)) (hr.nd.sublist fl) ?_
  · obtain ⟨hn, u, hu, hs⟩ := h.each t ht
    refine ⟨List.length_pos_iff.mpr hn, ?_⟩
    have := hs.length_le
    have := (hr.sz u hu).2
    omega
  · obtain ⟨hn, u, hu, hs⟩ := h.each t ht
    exact (hr.up u hu).sublist hs
  · have := h.ct
    have := hr.ct
    omega
end Nf
namespace Nf
/-! ### pairs in order -/
def leP (p q : Int × Int) : Bool := decide (p.1 < q.1 ∨ (p.1 = q.1 ∧ p.2 ≤ q.2))
def sortP (ps : List (Int × Int)) : List (Int × Int) := ps.mergeSort leP
theorem leP_trans (a b c : Int × Int) (h : leP a b = true) (h' : leP b c = true) : leP a c = true := by
  simp only [leP, decide_eq_true_eq] at *
  omega
theorem leP_total (a b : Int × Int) : (leP a b || leP b a) = true := by
  simp only [leP, Bool.or_eq_true, decide_eq_true_eq]
  omega
theorem sortP_perm (ps : List (Int × Int)) : (sortP ps).Perm ps := List.mergeSort_perm _ _
theorem sortP_up (ps : List (Int × Int)) : (sortP ps).Pairwise (fun p q => p.1 < q.1 ∨ (p.1 = q.1 ∧ p.2 ≤ q.2)) := (List.pairwise_mergeSort leP_trans leP_total ps).imp fun h => of_decide_eq_true h
theorem pairsT_drop {t : Tbl} {j : Nat} {a : Int} (h : t[j]? = some a) : pairsT (t.drop j) = (t.drop (j + 1)).map (fun b => (a, b)) ++ pairsT (t.drop (j + 1)) := by
  rw [dropCons h]
  rfl
theorem pairsR_drop {r : Rnd} {i : Nat} {t : Tbl} (h : r[i]? = some t) : pairsR (r.drop i) = pairsT t ++ pairsR (r.drop (i + 1)) := by
  rw [dropCons h]
  rfl
end Nf
namespace Nf
theorem pairsR_len : ∀ r : Rnd, (pairsR r).length ≤ r.flatten.length * r.flatten.length
  | [] => Nat.le_refl _
  | t :: r => by
    have h1 := pairsR_len r
    have h2 := pairsT_len t
    show (pairsT t ++ pairsR r).length ≤ _
    rw [List.length_append, List.flatten_cons, List.length_append, Nat.add_mul, Nat.mul_add, Nat.mul_add]
    omega
theorem IsRound.flat64 {g s : Int} {r : Rnd} (h : IsRound g s r) (hs : 0 < s) : (r.flatten.length : Int) ≤ g := by
  have e1 := sum_le (fun t ht => (h.sz t ht).2)
  have e2 : (r.length : Int) * s ≤ g / s * s := Int.mul_le_mul_of_nonneg_right h.ct (by omega)
  have e3 : g / s * s ≤ g := Int.ediv_mul_le g (by omega)
  omega
theorem IsRound.pairs_le {g s : Int} {r : Rnd} (h : IsRound g s r) (hs : 0 < s) (hg : g ≤ 64) : (pairsR r).length ≤ 4096 := by
  have h1 := pairsR_len r
  have h2 : r.flatten.length ≤ 64 := by
    have := h.flat64 hs
    omega
  have h3 : r.flatten.length * r.flatten.length ≤ 64 * 64 := Nat.mul_le_mul h2 h2
  omega
open Classical in
noncomputable def kaddL (kn : Known) (l : List (Int × Int)) (k : Nat) : Known := fun a b => if (a, b) ∈ l then some k else kn a b
theorem kaddL_nil (kn : Known) (k : Nat) : kaddL kn [] k = kn := by
  funext a b
  simp [kaddL]
theorem kaddL_snoc (kn : Known) (l : List (Int × Int)) (k : Nat) (x y a b : Int) : kaddL kn (l ++ [(x, y)]) k a b = if a = x ∧ b = y then some k else kaddL kn l k a b := by
  unfold kaddL
  by_cases h : a = x ∧ b = y
  · obtain ⟨rfl, rfl⟩ := h
    simp
  · have e : ((a, b) ∈ l ++ [(x, y)]) ↔ (a, b) ∈ l := by
      simp only [List.mem_append, List.mem_singleton, Prod.mk.injEq]
      constructor
      · rintro (z | z)
        · exact z
        · exact absurd z h
      · exact fun z => .inl z
    rw [if_neg h]
    by_cases hm : (a, b) ∈ l
    · rw [if_pos hm, if_pos (e.mpr hm)]
    · rw [if_neg hm, if_neg (fun z => hm (e.mp z))]
theorem kaddL_perm {kn : Known} {l : List (Int × Int)} {r : Rnd} {k : Nat} (h : l.Perm (pairsR r)) : kaddL kn l k = kadd kn r k := by
  funext a b
  unfold kaddL kadd
  by_cases hm : (a, b) ∈ pairsR r
  · rw [if_pos hm, if_pos (h.mem_iff.mpr hm)]
  · rw [if_neg hm, if_neg (fun z => hm (h.mem_iff.mp z))]
theorem sorted_first {r : Rnd} {m : Nat} {a b : Int} (h : (sortP (pairsR r))[m]? = some (a, b)) {kn : Known} (hn : ∀ p ∈ (sortP (pairsR r)).take m, kn p.1 p.2 = none) :
    ∀ c d, (c, d) ∈ pairsR r → kn c d ≠ none → a < c ∨ (a = c ∧ b ≤ d) := fun c d hm hk => by
  have hm' := (sortP_perm (pairsR r)).mem_iff.mpr hm
  obtain ⟨m', hm''⟩ := List.mem_iff_getElem?.mp hm'
  obtain ⟨l1, e1⟩ := List.getElem?_eq_some_iff.mp h
  obtain ⟨l2, e2⟩ := List.getElem?_eq_some_iff.mp hm''
  rcases Nat.lt_trichotomy m' m with z | z | z
  · refine absurd (hn (c, d) ?_) hk
    rw [List.mem_iff_getElem?]
    exact ⟨m', by rw [List.getElem?_take, if_pos z]; exact hm''⟩
  · subst z
    rw [h] at hm''
    cases hm''
    omega
  · have := List.pairwise_iff_getElem.mp (sortP_up (pairsR r)) m m' l1 l2 z
    rw [e1, e2] at this
    exact this
end Nf

set_option autoImplicit false
namespace Nf
/-! ### who met whom -/
def pairsP (rs : List Rnd) : List (Int × Int) := rs.flatMap pairsR
def dirs (ps : List (Int × Int)) : List (Int × Int) := ps.flatMap fun p => [(p.1, p.2), (p.2, p.1)]
theorem mem_dirs {ps : List (Int × Int)} {a b : Int} : (a, b) ∈ dirs ps ↔ ((a, b) ∈ ps ∨ (b, a) ∈ ps) := by
  unfold dirs
  rw [List.mem_flatMap]
  constructor
  · rintro ⟨⟨x, y⟩, h, m⟩
    simp only [List.mem_cons, List.not_mem_nil, or_false, Prod.mk.injEq] at m
    rcases m with ⟨rfl, rfl⟩ | ⟨rfl, rfl⟩
    · exact .inl h
    · exact .inr h
  · rintro (h | h)
    · exact ⟨_, h, by simp⟩
    · exact ⟨_, h, by simp⟩
theorem dirs_snoc (ps : List (Int × Int)) (a b : Int) : dirs (ps ++ [(a, b)]) = dirs ps ++ [(a, b)] ++ [(b, a)] := by simp [dirs]
/-- whom c has met, by pairs told in both ways -/
def metD (g : Nat) (qs : List (Int × Int)) (c : Int) : List Int := (rangeI g).filter fun d => decide ((c, d) ∈ qs)
theorem mem_metD {g : Nat} {qs : List (Int × Int)} {c d : Int} : d ∈ metD g qs c ↔ (0 ≤ d ∧ d < g) ∧ (c, d) ∈ qs := by
  unfold metD
  rw [List.mem_filter, mem_rangeI, decide_eq_true_eq]
theorem metD_nodup (g : Nat) (qs : List (Int × Int)) (c : Int) : (metD g qs c).Nodup := (rangeI_nodup g).sublist List.filter_sublist
theorem rangeI_up (g : Nat) : (rangeI g).Pairwise (· < ·) := by
  unfold rangeI
  rw [List.pairwise_map]
  exact List.pairwise_lt_range.imp fun h => by omega
theorem metD_up (g : Nat) (qs : List (Int × Int)) (c : Int) : (metD g qs c).Pairwise (· < ·) := (rangeI_up g).sublist List.filter_sublist
theorem metD_len (g : Nat) (qs : List (Int × Int)) (c : Int) : (metD g qs c).length ≤ g := by
  have := (List.filter_sublist (p := fun d => decide ((c, d) ∈ qs)) (l := rangeI g)).length_le
  rwa [rangeI_len] at this
/-- one at least of g is not met: oneself -/
theorem metD_less {g : Nat} {qs : List (Int × Int)} {c : Int} (h0 : 0 ≤ c) (h1 : c < g) (hn : ∀ p ∈ qs, p.1 ≠ p.2) : (metD g qs c).length < g := by
  have hc : c ∈ rangeI g := mem_rangeI.mpr ⟨h0, h1⟩
  have h := List.length_filter_lt_length_iff_exists (p := fun d => decide ((c, d) ∈ qs)) (l := rangeI g)
  rw [rangeI_len] at h
  exact h.mpr ⟨c, hc, by
    rw [decide_eq_true_eq]
    exact fun z => hn _ z rfl⟩
theorem perm_of_mem {xs ys : List Int} (hx : xs.Nodup) (hy : ys.Nodup) (h : ∀ d, d ∈ xs ↔ d ∈ ys) : xs.Perm ys := (List.perm_ext_iff_of_nodup hx hy).mpr h
theorem metD_old {g : Nat} {qs : List (Int × Int)} {a b c : Int} (h : c ≠ a ∨ (a, b) ∈ qs) : metD g (qs ++ [(a, b)]) c = metD g qs c := by
  unfold metD
  refine List.filter_congr fun d _ => ?_
  have e : (c, d) ∈ qs ++ [(a, b)] ↔ (c, d) ∈ qs := by
    simp only [List.mem_append, List.mem_singleton, Prod.mk.injEq]
    constructor
    · rintro (z | ⟨rfl, rfl⟩)
      · exact z
      · exact h.elim (fun n => absurd rfl n) id
    · exact .inl
  simp only [e]
theorem metD_new {g : Nat} {qs : List (Int × Int)} {a b : Int} (h0 : 0 ≤ b) (h1 : b < g) (h : (a, b) ∉ qs) : (metD g qs a ++ [b]).Perm (metD g (qs ++ [(a, b)]) a) := by
  refine perm_of_mem ?_ (metD_nodup _ _ _) fun d => ?_
  · refine List.nodup_append.mpr ⟨metD_nodup _ _ _, by simp, fun x hx y hy => ?_⟩
    rw [List.mem_singleton.mp hy]
    rintro rfl
    exact h (mem_metD.mp hx).2
  · rw [List.mem_append, mem_metD, mem_metD, List.mem_append, List.mem_singleton, List.mem_singleton, Prod.mk.injEq]
    constructor
    · rintro (⟨z, q⟩ | rfl)
      · exact ⟨z, .inl q⟩
      · exact ⟨⟨h0, h1⟩, .inr ⟨rfl, rfl⟩⟩
    · rintro ⟨z, q | ⟨_, rfl⟩⟩
      · exact .inl ⟨z, q⟩
      · exact .inr rfl
theorem up_perm_eq : ∀ {xs ys : List Int}, xs.Pairwise (· ≤ ·) → ys.Pairwise (· < ·) → xs.Perm ys → xs = ys
  | [], ys, _, _, h => (List.nil_perm.mp h).symm
  | x :: xs, [], _, _, h => absurd h.length_eq (by simp)
  | x :: xs, y :: ys, hx, hy, h => by
    obtain ⟨h1, h2⟩ := List.pairwise_cons.mp hx
    obtain ⟨h3, h4⟩ := List.pairwise_cons.mp hy
    have a1 : y ≤ x := by
      rcases List.mem_cons.mp (h.mem_iff.mp (List.mem_cons_self (a := x))) with e | e
      · omega
      · have := h3 x e
        omega
    have a2 : x ≤ y := by
      rcases List.mem_cons.mp (h.mem_iff.mpr (List.mem_cons_self (a := y))) with e | e
      · omega
      · exact h1 y e
    have e : x = y := by omega
    subst e
    rw [up_perm_eq h2 h4 (List.perm_cons x |>.mp h)]
/-- the pairs of a round are of its guests, the lower one first -/
theorem pairsT_lt : ∀ {t : Tbl}, t.Pairwise (· < ·) → ∀ p ∈ pairsT t, p.1 < p.2
  | [], _, p, h => by simp [pairsT] at h
  | a :: t, ht, p, h => by
    obtain ⟨h1, h2⟩ := List.pairwise_cons.mp ht
    simp only [pairsT, List.mem_append, List.mem_map] at h
    rcases h with ⟨b, hb, rfl⟩ | h
    · exact h1 b hb
    · exact pairsT_lt h2 p h
theorem IsRound.pair {g s : Int} {r : Rnd} (h : IsRound g s r) : ∀ p ∈ pairsR r, 0 ≤ p.1 ∧ p.1 < p.2 ∧ p.2 < g := fun p hp => by
  obtain ⟨t, ht, hq⟩ := List.mem_flatMap.mp hp
  obtain ⟨m1, m2⟩ := mem_pairsT hq
  have lt := pairsT_lt (up_strict (h.up t ht) (flat_each h.nd t ht)) p hq
  exact ⟨(h.lo _ (List.mem_flatten.mpr ⟨t, ht, m1⟩)).1, lt, (h.lo _ (List.mem_flatten.mpr ⟨t, ht, m2⟩)).2⟩
theorem plan_pair {g s : Int} {rs : List Rnd} (h : ∀ r ∈ rs, IsRound g s r) : ∀ p ∈ pairsP rs, 0 ≤ p.1 ∧ p.1 < p.2 ∧ p.2 < g := fun p hp => by
  obtain ⟨r, hr, hq⟩ := List.mem_flatMap.mp hp
  exact (h r hr).pair p hq
/-- whom c has met in a plan -/
def metM (g : Nat) (ps : List (Int × Int)) (c : Int) : List Int := metD g (dirs ps) c
/-- whom not -/
def unmetM (g : Nat) (ps : List (Int × Int)) (c : Int) : List Int := (rangeI g).filter fun d => decide (d ≠ c ∧ d ∉ metM g ps c)
theorem mem_metM {g : Nat} {ps : List (Int × Int)} {c d : Int} : d ∈ metM g ps c ↔ (0 ≤ d ∧ d < g) ∧ ((c, d) ∈ ps ∨ (d, c) ∈ ps) := by
  unfold metM
  rw [mem_metD, mem_dirs]
theorem dirs_ne {g : Int} {ps : List (Int × Int)} (h : ∀ p ∈ ps, 0 ≤ p.1 ∧ p.1 < p.2 ∧ p.2 < g) : ∀ p ∈ dirs ps, p.1 ≠ p.2 := fun ⟨a, b⟩ hp => by
  rcases mem_dirs.mp hp with z | z
  · have := h _ z
    omega
  · have := h _ z
    omega
theorem metM_perm {g : Nat} {ps qs : List (Int × Int)} (h : ∀ p, p ∈ ps ↔ p ∈ qs) (c : Int) : metM g ps c = metM g qs c := by
  unfold metM metD
  refine List.filter_congr fun d _ => ?_
  simp only [mem_dirs, h]
theorem filter_split (p : Int → Bool) : ∀ l : List Int, (l.filter p).length + (l.filter fun x => !p x).length = l.length
  | [] => rfl
  | x :: l => by
    have := filter_split p l
    by_cases h : p x = true
    · simp [h]
      omega
    · simp only [Bool.not_eq_true] at h
      simp [h]
      omega
theorem filter_one : ∀ {l : List Int} {c : Int}, l.Nodup → c ∈ l → (l.filter fun x => x == c).length = 1
  | [], c, _, h => by simp at h
  | x :: l, c, hn, h => by
    obtain ⟨h1, h2⟩ := List.nodup_cons.mp hn
    by_cases e : x = c
    · subst e
      have : l.filter (fun y => y == x) = [] := List.filter_eq_nil_iff.mpr fun y hy => by
        simp only [beq_iff_eq]
        rintro rfl
        exact h1 hy
      simp [this]
    · have hm : c ∈ l := by
        rcases List.mem_cons.mp h with z | z
        · exact absurd z.symm e
        · exact z
      have := filter_one h2 hm
      simp [e, this]
/-- how many c has not met -/
theorem unmet_len {g : Nat} {ps : List (Int × Int)} {c : Int} (h0 : 0 ≤ c) (h1 : c < g) (hp : ∀ p ∈ ps, p.1 < p.2) : (unmetM g ps c).length + (metM g ps c).length + 1 = g := by
  have hc : c ∈ rangeI g := mem_rangeI.mpr ⟨h0, h1⟩
  have e1 := filter_split (fun d => d == c) (rangeI g)
  rw [rangeI_len, filter_one (rangeI_nodup g) hc] at e1
  have e2 := filter_split (fun d => decide (d ∈ metM g ps c)) ((rangeI g).filter fun x => !(x == c))
  have e3 : ((rangeI g).filter fun x => !(x == c)).filter (fun d => decide (d ∈ metM g ps c)) = metM g ps c := by
    rw [List.filter_filter]
    show _ = (rangeI g).filter _
    refine List.filter_congr fun d hd => ?_
    have hd := mem_rangeI.mp hd
    have e : (d ∈ metM g ps c) ↔ (c, d) ∈ dirs ps := by
      unfold metM
      rw [mem_metD]
      exact ⟨fun z => z.2, fun z => ⟨hd, z⟩⟩
    have ne : (c, d) ∈ dirs ps → d ≠ c := fun z => by
      rcases mem_dirs.mp z with z | z
      · have := hp _ z
        simp only at this
        omega
      · have := hp _ z
        simp only at this
        omega
    rw [Bool.eq_iff_iff]
    simp only [Bool.and_eq_true, decide_eq_true_eq, Bool.not_eq_true', beq_eq_false_iff_ne, e]
    exact ⟨fun z => z.1, fun z => ⟨z, ne z⟩⟩
  have e4 : ((rangeI g).filter fun x => !(x == c)).filter (fun d => !decide (d ∈ metM g ps c)) = unmetM g ps c := by
    rw [List.filter_filter]
    refine List.filter_congr fun d _ => ?_
    rw [Bool.eq_iff_iff]
    simp [and_comm]
  rw [e3, e4] at e2
  omega
end Nf

set_option Elab.async false
set_option linter.all false
set_option maxRecDepth 100000
set_option maxHeartbeats 4000000
/-! Rules beside the hand layer's: len(set(ints)), sorted of a list or tuple of data, extend by a tuple, enumerate of a tuple. -/
namespace Nf
open PySem PySem.Spec PyProof.Rows L2

/-! ### len(set(xs)) of any whole numbers -/
def metN (ns : List Int) : Nat := (PyProof.Rows.firstMet (fun i => ns.getD i 0) ns.length).length
theorem firstMet_mem (f : Nat → Int) : ∀ (i j : Nat), j < i → f j ∈ PyProof.Rows.firstMet f i
  | 0, _, h => absurd h (Nat.not_lt_zero _)
  | i + 1, j, h => by
    rw [PyProof.Rows.firstMet_succ]
    unfold PyProof.Rows.step_dedup
    rcases Nat.lt_succ_iff_lt_or_eq.mp h with h | h
    · have := firstMet_mem f i j h
      split
      · exact this
      · exact List.mem_append_left _ this
    · subst h
      split
      · rename_i hb
        obtain ⟨y, hy, e⟩ := List.any_eq_true.mp hb
        rw [← eq_of_beq e]
        exact hy
      · simp
theorem metN_le (ns : List Int) : metN ns ≤ ns.length := PyProof.Rows.firstMet_length_le _ _
theorem firstMet_full (f : Nat → Int) : ∀ (i : Nat), (PyProof.Rows.firstMet f i).length = i → ∀ j k, j < k → k < i → f j ≠ f k
  | 0, _, _, _, _, h => absurd h (Nat.not_lt_zero _)
  | i + 1, e, j, k, hjk, hk => by
    rw [PyProof.Rows.firstMet_succ] at e
    unfold PyProof.Rows.step_dedup at e
    have hl := PyProof.Rows.firstMet_length_le f i
    split at e
    · omega
    · rename_i hb
      have e' : (PyProof.Rows.firstMet f i).length = i := by
        rw [List.length_append, List.length_singleton] at e
        omega
      rcases Nat.lt_succ_iff_lt_or_eq.mp hk with hk | hk
      · exact firstMet_full f i e' j k hjk hk
      · subst hk
        intro q
        apply hb
        refine List.any_eq_true.mpr ⟨f j, firstMet_mem f k j hjk, ?_⟩
        rw [q]
        exact beq_self_eq_true _
theorem metN_iff (ns : List Int) : metN ns = ns.length ↔ ns.Nodup := by
  constructor
  · intro h
    refine List.pairwise_iff_getElem.mpr fun i j hi hj hij e => ?_
    refine firstMet_full _ _ h i j hij hj ?_
    show ns.getD i 0 = ns.getD j 0
    rw [List.getD_eq_getElem?_getD, List.getD_eq_getElem?_getD, List.getElem?_eq_getElem hi, List.getElem?_eq_getElem hj]
    exact e
  · intro h
    unfold metN
    rw [RZ.firstMet_nodup h ns.length (Nat.le_refl _), List.take_length]
def tLenSet (K : PySem.W.Frag) (ta : TE) : TE := fun σ H Q => ta σ H fun x H1 => ∃ (l : Addr) (ns : List Int), x = .ref l ∧ SqL K H1 l (ns.map V.int) ∧ ns.length ≤ 4000 ∧ Q (.int (metN ns : Nat)) H1
theorem pe_lenSet {X : Cx} {a : Expr} {ta : TE} {p p2 q pos : Pos} (hg : Gl X "len") (hm : X.mg "len" = none) (hg2 : Gl X "set") (hm2 : X.mg "set" = none) (ha : PE X a ta) (hc : X.calm = true := by rfl)
    (na : starEach [a] X.env = (false, eval a X.env) :: starEach [] X.env := by rfl) : PE X (.Call (.Name "len" p) [.Call (.Name "set" p2) [a] [] q] [] pos) (tLenSet X.K ta) := by
  refine ⟨fun pins s σ H Q I h => ?_⟩
  refine Call_ (ld_blt I hg hm boot_len ?_)
  refine PyProof.Rows.callWith_builtin1 (PyProof.Rows.args_cons ?_ rfl) rfl rfl
  refine Call_ (ld_blt I hg2 hm2 boot_set ?_)
  refine PyProof.Rows.callWith_type1 (PyProof.Rows.args_cons (thn (ha.run pins s σ H _ I h) fun v s1 ⟨x, H1, I1, r1, q1⟩ => PyProof.Rows.args_nil ?_) na) na rfl
  obtain ⟨l, ns, rfl, hq, hl, q1⟩ := q1
  cases r1
  obtain ⟨its, r, pl, hz⟩ := I1.list hq
  have hlen : its.toArray.size = ns.length := by rw [List.size_toArray, ← r.length, List.length_map]
  have hle := metN_le ns
  refine call_set_list (I1.ok.hd hc) pl.isList (by simpa using RZ.intsAre_vals r) (by rw [hlen]; unfold scanBound; omega) fun h' tk hS hk => ?_
  refine PyProof.Rows.args_nil ?_
  rw [hlen] at hS
  obtain ⟨o, es, ep, t, ho, hex, hd, _, _, _, hf, hn⟩ := hS
  have I2 : Inv X pins σ H1 { s1 with heap := h', toks := tk } := I1.kept fun b o e => hk b o (Heap.lt_size e) e
  have hn' : es.size = metN ns := hn
  exact call_len_set ho hex hd hf (by rw [hn'] <;> omega) ⟨.int (metN ns : Nat), H1, I2.tok _, ⟨_, by rw [hn']⟩, q1⟩
end Nf

set_option Elab.async false
set_option linter.all false
set_option maxRecDepth 100000
set_option maxHeartbeats 4000000
namespace Nf
open PySem PySem.Spec PyProof.Rows L2

section
variable {prog : Program} {w : World} {A : Around} {E : Value → Shared → Prop} {s : Shared}
theorem collect_tup {l : Addr} {vs : List Value} {Q : List Value → Shared → Prop} (hl : IsTup s.heap l vs.toArray)
    (h : Q vs { s with heap := (s.heap.push (seqObj "list" #[] 0)).update s.heap.objs.size (Obj.mapSeq (· ++ vs.toArray)) }) (hsz : vs.length ≤ sizeLine) :
    wpAny (model prog w) A (collect (.ref l)) Q E s := by
  obtain ⟨o, ho, hc, n, hd⟩ := id hl
  unfold collect
  refine wpAny_bind (wpAny_runValue (codeAny_builtin entry_proto_collect' ?_))
  show wpAny _ _ (do again (.builtin "list.__iadd__" ⟨[← newList [], .ref l], []⟩)) _ _ s
  refine wpAny_bind (wpAny_newList (wpAny_pure ⟨Code.quiet_builtin _ (by decide +kernel), codeAny_builtin entry_list_iadd' ?_⟩))
  show wpAny _ _ (Builtin.List.listExtendWith (.ref s.heap.objs.size) (.ref l) (.ref s.heap.objs.size)) _ _ { s with heap := s.heap.push (seqObj "list" #[] 0) }
  unfold Builtin.List.listExtendWith
  have ho' : (s.heap.push (seqObj "list" #[] 0)).get? l = some o := Heap.get?_push_of_some _ ho
  refine wpAny_bind (wpAny_typeOf (T := "tuple") ⟨o, ho', hc⟩ ?_)
  have ht : (Value.type "tuple" == Value.type "tuple") = true := by rfl
  rw [if_pos (by rw [ht]; simp)]
  refine wpAny_bind (listItems_at ho' hd ?_)
  refine wpAny_bind (listItems_at (xs := #[]) (n := 0) (Heap.get?_push_size _ rfl) rfl ?_)
  rw [if_neg (by simp)]
  refine wpAny_bind (listUpdate_at (xs := #[]) (n := 0) (Heap.get?_push_size _ rfl) rfl ?_ (Nat.zero_le _) (by show (#[] ++ vs.toArray).size ≤ sizeLine + 1; simp only [Array.size_append, List.size_toArray, List.length_nil]; omega))
  refine wpAny_pure ?_
  show wpAny (model prog w) A (do
      let o ← load s.heap.objs.size
      match o.data with
      | .seq xs _ => pure xs.toList
      | _ => unsupported "internal:collect") Q E { s with heap := (s.heap.push (seqObj "list" #[] 0)).update s.heap.objs.size (Obj.mapSeq (· ++ vs.toArray)) }
  refine wpAny_bind (wpAny_load (get?_update_seq (Heap.get?_push_size _ rfl) _) ?_)
  show wpAny _ _ (pure ((#[] : Array Value) ++ vs.toArray).toList) Q E _
  rw [show ((#[] : Array Value) ++ vs.toArray).toList = vs by simp]
  exact wpAny_pure h
open PySem.W in
theorem sorted_of_sortT {l : Addr} {vs : List Value} {kw : List (Str × Value)} {Q : Value → Shared → Prop} (hl : IsTup s.heap l vs.toArray) (hL : vs.length ≤ sizeLine) (ha1 : argsOk "sorted" ⟨[.ref l], kw⟩) (ha2 : ∀ x, argsOk "list.sort" ⟨[.ref x], kw⟩)
    (body : ∀ E' : Value → Shared → Prop, wpAny (model prog w) A.in1.in1 (Builtin.«list.sort» ⟨[.ref (s.heap.objs.size + 1)], kw⟩) (fun f s' => f = .done (.ret .none) ∧ Q (.ref (s.heap.objs.size + 1)) s') E' { s with heap := copyHeap s.heap vs }) :
    wpAny (model prog w) A (call (.builtin "sorted") [.ref l] kw) Q E s := by
  refine call_function_entry_kw kind_sorted plain_sorted entry_sorted ha1 ?_
  unfold Builtin.«sorted»
  refine wpAny_bind (m := checkCount "sorted" 1 1 _) (wpAny_pure ?_)
  refine wpAny_bind (collect_tup hl ?_ hL)
  refine wpAny_bind (wpAny_newList ?_ hL)
  have hsz : ((s.heap.push (seqObj "list" #[] 0)).update s.heap.objs.size (Obj.mapSeq (· ++ vs.toArray))).objs.size = s.heap.objs.size + 1 := by
    rw [Heap.size_update, size_push']
  show wpAny _ _ _ _ _ { s with heap := copyHeap s.heap vs }
  rw [hsz]
  refine wpAny_bind (wpAny_holding (wpAny_call_entry_kw slot_list_sort ⟨_, copyHeap_at s.heap vs, rfl⟩ entry_list_sort ?body (ha2 _)))
  case body =>
    show wpAny (model prog w) A.in1.in1 (Builtin.«list.sort» ⟨[.ref (s.heap.objs.size + 1)], kw⟩) _ _ _
    refine wpAny_mono (body _) (fun f s' hf => ?_) fun _ _ e => e
    obtain ⟨rfl, hq⟩ := hf
    exact ⟨_, rfl, wpAny_pure ⟨_, rfl, hq⟩⟩
open PySem.W in
/-- sorted of a tuple that reads as data -/
theorem sorted_dataT {β : Type} {R : Value → β → Prop} {enc : β → PyData} {vs : List Value} {bs : List β} {l : Addr} {Q : Value → Shared → Prop} (hl : IsTup s.heap l vs.toArray) (e : EachIs R vs bs) (er : EachIs (fun v b => ∃ as, Reads s.heap v (enc b) as) vs bs) (hal : AllAlike (bs.map enc)) (hk : Sortable (bs.map enc)) (hL : bs.length ≤ sizeLine)
    (hu : ∀ b, b ∈ bs → A.units + 2 + (enc b).depth < cLine) (h : ∀ out, out.length = bs.length → EachIs R out (bs.mergeSort (dataLe false enc)) → Q (.ref (s.heap.objs.size + 1)) { s with heap := sortedAll s.heap vs (List.toArray out) }) :
    wpAny (model prog w) A (call (.builtin "sorted") [.ref l]) Q E s := by
  have er' : EachIs (fun v b => ∃ as, Reads (sortingHeap (copyHeap s.heap vs) (s.heap.objs.size + 1) vs) v (enc b) as) vs bs := er.mono fun _ _ ⟨as, r⟩ => ⟨as, PyProof.Rows.Reads.keeps (fun _ _ => sorting_copy_old) r⟩
  have hLv : vs.length ≤ sizeLine := by
    rw [e.length]
    exact hL
  refine sorted_of_sortT hl hLv (args_sorted1 _) (fun _ => args_list_sort _) fun _ => list_sort_vals (s := { s with heap := copyHeap s.heap vs }) (copyHeap_at s.heap vs) (SortsAt.data (s := { s with heap := sortingHeap (copyHeap s.heap vs) (s.heap.objs.size + 1) vs }) (each_map (R := fun v d => ∃ as, Reads (sortingHeap (copyHeap s.heap vs) (s.heap.objs.size + 1) vs) v d as) enc er') hal hk (bound_map hu)) hLv ⟨rfl, ?_⟩
  exact h _ (by rw [sortVals_length false rfl]; exact e.length) (sortVals_data false e er' hal)
end

end Nf

set_option Elab.async false
set_option linter.all false
set_option maxRecDepth 100000
set_option maxHeartbeats 4000000
namespace Nf
open PySem PySem.Spec PyProof.Rows L2

/-! ### sorted of a list or a tuple that reads as data -/
theorem each_of_paired {β : Type} {R : V → β → Prop} : ∀ {xs : List V} {us : List Value} {bs : List β}, Vals xs us → Paired R xs bs → PySem.W.EachIs (fun u b => ∃ x, RelV x u ∧ R x b) us bs
  | _, _, _, .nil, .nil => .nil
  | _, _, _, .cons r t, .cons q p => .cons ⟨_, r, q⟩ (each_of_paired t p)
theorem paired_of_each {β : Type} {R : V → β → Prop} : ∀ {us : List Value} {bs : List β}, PySem.W.EachIs (fun u b => ∃ x, RelV x u ∧ R x b) us bs → ∃ xs, Vals xs us ∧ Paired R xs bs
  | _, _, .nil => ⟨[], .nil, .nil⟩
  | _, _, .cons ⟨x, r, q⟩ t => by
    obtain ⟨xs, h1, h2⟩ := paired_of_each t
    exact ⟨x :: xs, .cons r h1, .cons q h2⟩
def rSortD (K : PySem.W.Frag) {β : Type} (enc : β → PyData) : List V → Hp → VK → Prop := fun vs H Q => ∃ (a : Addr) (xs : List V) (bs : List β) (R : V → β → Prop), vs = [.ref a] ∧ (SqL K H a xs ∨ SqT K H a xs) ∧ Paired R xs bs ∧
  (∀ x b, R x b → Dp K H x (enc b)) ∧ PySem.W.AllAlike (bs.map enc) ∧ PySem.W.Sortable (bs.map enc) ∧ (∀ b ∈ bs, (enc b).depth ≤ 8) ∧
  ∀ ys p, Paired R ys (bs.mergeSort (PySem.W.dataLe false enc)) → H p = none → Q (.ref p) (upd H p (.lst ys))
theorem cr_sortD {X : Cx} {β : Type} (enc : β → PyData) (hu : X.A.units + 64 < cLine) : CallR X (.builtin "sorted") (rSortD X.K enc) := by
  intro pins s σ H vs us Q I r h
  obtain ⟨a, xs, bs, R, rfl, hs, hp, hd, hal, hk, hdp, q⟩ := h
  rw [Vals.ref1 r]
  have main : ∀ (its : List Value), Vals xs its → xs.length ≤ sizeLine → (s.heap.IsList a its.toArray ∨ IsTup s.heap a its.toArray) → wpAny (model X.prog X.w) X.A (call (.builtin "sorted") [.ref a]) (EP X pins σ Q) X.xe s := fun its rv hz hl => by
    have e := each_of_paired rv hp
    have er : PySem.W.EachIs (fun v b => ∃ as, Reads s.heap v (enc b) as) its bs := e.mono fun u b ⟨x, rx, rb⟩ => Dp.reads I (enc b) x u (hd x b rb) rx
    have hlb : bs.length = xs.length := by
      rw [← e.length, ← rv.length]
    have fin : ∀ out, out.length = bs.length → PySem.W.EachIs (fun u b => ∃ x, RelV x u ∧ R x b) out (bs.mergeSort (PySem.W.dataLe false enc)) → EP X pins σ Q (.ref (s.heap.objs.size + 1)) { s with heap := sortedAll s.heap its (List.toArray out) } := fun out hlo eo => by
      obtain ⟨ys, ry, py⟩ := paired_of_each eo
      obtain ⟨ep, he'⟩ := PyProof.Rows.sortedAll_at s.heap its out.toArray
      have hly := ry.length
      exact ⟨.ref _, upd H (s.heap.objs.size + 1) (.lst ys), I.laid (t' := s.toks) (fun _ _ => PyProof.Rows.sortedAll_old) (Nat.le_succ _) ⟨by omega, out, ep, ry, he'⟩, rfl, q _ _ py (I.hok.fresh (Nat.le_succ _))⟩
    rcases hl with hl | hl
    · exact PySem.W.sorted_data hl e er hal hk (by omega) (fun b hb => by have := hdp b hb; omega) fin
    · exact sorted_dataT hl e er hal hk (by omega) (fun b hb => by have := hdp b hb; omega) fin
  rcases hs with hs | hs
  · obtain ⟨its, rv, hl, hz⟩ := I.list hs
    exact main its rv hz (.inl hl.isList)
  · obtain ⟨its, rv, hl, hz⟩ := I.tuple hs
    exact main its rv hz (.inr hl)

/-! ### xs.extend(t), t a tuple -/
def rExtendT : V → List V → Hp → VK → Prop := fun x vs H Q => ∃ l b xs zs, x = .ref l ∧ vs = [.ref b] ∧ H l = some (.lst xs) ∧ H b = some (.tup zs) ∧ xs.length + zs.length ≤ sizeLine ∧ Q .non (upd H l (.lst (xs ++ zs)))
theorem mt_extendT {X : Cx} : MtM X "list.extend" rExtendT := by
  intro pins s σ H x vs v us Q I rx rv h
  obtain ⟨l, b, xs, zs, rfl, rfl, hH, hB, hz, q⟩ := h
  cases rx
  obtain ⟨u, rfl, ru⟩ := rv.one
  cases ru
  obtain ⟨z, its, n, r, hl, e⟩ := I.lstM hH
  obtain ⟨its2, r2, ht, hz2⟩ := I.tuple (SqT.of (K := X.K) hB)
  obtain ⟨o, ho, hc, n2, hd⟩ := id ht
  have hl2 := r2.length
  have hsz : its.toArray.size + its2.toArray.size ≤ sizeLine := by rw [List.size_toArray, List.size_toArray]; omega
  have hlong : ¬ (!its.toArray.isEmpty && Builtin.List.listTooLong (its.toArray.size + its2.toArray.size)) = true := by
    rw [notLongL hsz, Bool.and_false]
    exact Bool.false_ne_true
  refine wpAny_call_entry F.slot_list_extend ⟨_, e, rfl⟩ F.entry_list_extend ?_ (F.args_list_extend_2 _ _)
  unfold Builtin.«list.extend»
  show wpAny _ _ (Builtin.List.listExtendWith (.ref l) (.ref b) .none) _ _ s
  unfold Builtin.List.listExtendWith
  refine wpAny_bind (wpAny_typeOf (T := "tuple") ⟨o, ho, hc⟩ ?_)
  have ht : (Value.type "tuple" == Value.type "tuple") = true := by rfl
  rw [if_pos (by rw [ht]; simp)]
  refine wpAny_bind (listItems_at ho hd ?_)
  refine wpAny_bind (listItems_at e rfl ?_)
  rw [if_neg hlong]
  refine wpAny_bind (listUpdate_at e rfl ?_ (by rw [List.size_toArray]; omega) (by rw [Array.size_append]; omega))
  refine wpAny_pure ⟨_, rfl, ?_⟩
  refine ⟨.non, _, I.lset (its' := its ++ its2) hH e (by simp) (r.append r2) ?_, rfl, q⟩
  rw [List.length_append]
  omega
end Nf

set_option Elab.async false
set_option linter.all false
set_option maxRecDepth 100000
set_option maxHeartbeats 4000000
namespace PySem
open AutoSeq1 (wpAny_loadPart')
theorem nf_meets_enumerate_newT (l : Addr) (items : Array Value) (n : Nat) (dct : Option Addr) (sl : Array (Option Value)) :
    Meets (Builtin.«enumerate.__new__» ⟨[.type "enumerate", .ref l], []⟩) (fun _ R s => s.heap.get? l = some { cls := .type "tuple", dict := dct, data := .seq items n, slots := sl } ∧
      R (.ok (.ret (.ref (s.heap.push { cls := .type "tuple_iterator", data := .fields #[.ref l, .int 0 0] }).objs.size)))
        { s with heap := (s.heap.push { cls := .type "tuple_iterator", data := .fields #[.ref l, .int 0 0] }).push { cls := .type "enumerate", data := .fields #[.none, .bool false, .ref s.heap.objs.size, rawInt 0, .none, .none] } }) :=
  .of_wp fun prog w A R s h => by
    obtain ⟨hp, g, d, tk, os⟩ := s; obtain ⟨hl, h⟩ := h
    have hsub := sub_enumerate
    have hL : Heap.IsTuple (Shared.heap ⟨hp, g, d, tk, os⟩) l items := ⟨_, hl, rfl, n, rfl⟩
    wp_walk using wpAny_loadPart' hl
    refine wpAny_stack_any fun st => wpAny_pure ?_
    split
    · rename_i c _ _ _ _ _
      cases (c == Value.type "enumerate")
      · wp_walk using wpAny_loadPart' hl, wpAny_pyIter_tuple hL
        exact ⟨_, rfl, h⟩
      · wp_walk using wpAny_loadPart' hl, wpAny_pyIter_tuple hL
        exact ⟨_, rfl, h⟩
    · wp_walk using wpAny_loadPart' hl, wpAny_pyIter_tuple hL
      exact ⟨_, rfl, h⟩
theorem nf_call_enumerate_tuple {prog : Program} {w : World} {A : Around} {E : Value → Shared → Prop} {s : Shared} {l : Addr} {items : Array Value} {Q : Value → Shared → Prop} (hL : s.heap.IsTuple l items)
    (h : ∀ h', IsEnum h' (s.heap.objs.size + 1) s.heap.objs.size 0 .none → h'.IsTupleIter s.heap.objs.size l 0 → h'.objs.size = s.heap.objs.size + 2 →
      (∀ b o, s.heap.get? b = some o → h'.get? b = some o) → Q (.ref (s.heap.objs.size + 1)) { s with heap := h' }) :
    wpAny (model prog w) A (call (.type "enumerate") [.ref l]) Q E s := by
  obtain ⟨⟨c, dct, dt, sl⟩, hl, hc, n, hd⟩ := hL
  replace hc : c = .type "tuple" := hc
  replace hd : dt = .seq items n := hd
  subst hc hd
  refine callType_new F.called_enumerate (by decide) (F.typeCall_enumerate_1 _) (F.newCall_enumerate_1 _) (fun obj => F.args_object_init_2 obj _) F.entry_enumerate_new
    (nf_meets_enumerate_newT l items n dct sl) ⟨hl, ?_⟩
  have hz : (s.heap.push { cls := .type "tuple_iterator", data := .fields #[.ref l, .int 0 0] }).objs.size = s.heap.objs.size + 1 := Heap.size_push ..
  show _ ∧ _
  rw [hz]
  have he : IsEnum ((s.heap.push { cls := .type "tuple_iterator", data := .fields #[.ref l, .int 0 0] }).push
      { cls := .type "enumerate", data := .fields #[.none, .bool false, .ref s.heap.objs.size, rawInt 0, .none, .none] }) (s.heap.objs.size + 1) s.heap.objs.size 0 .none := by
    have := Heap.get?_push_size (s.heap.push { cls := .type "tuple_iterator", data := .fields #[.ref l, .int 0 0] })
      (o := { cls := .type "enumerate", data := .fields #[.none, .bool false, .ref s.heap.objs.size, rawInt 0, .none, .none] }) rfl
    rw [hz] at this; exact this
  refine ⟨⟨_, he, rfl⟩, h _ he ⟨_, Heap.get?_push_of_some _ (Heap.get?_push_size _ rfl), rfl, rfl⟩ (by rw [Heap.size_push, hz]) fun b o x => Heap.get?_push_of_some _ (Heap.get?_push_of_some _ x)⟩
end PySem

set_option Elab.async false
set_option linter.all false
set_option maxRecDepth 100000
set_option maxHeartbeats 4000000
namespace Nf
open PySem PySem.Spec PyProof.Rows L2

/-! ### enumerate of a tuple -/
def IteT (K : PySem.W.Frag) (a : Addr) : It :=
  ⟨fun i H => ∃ (xs : List V) (x : V), SqT K H a xs ∧ xs[i]? = some x, fun i H v H' => ∃ T x, v = .ref T ∧ H T = none ∧ H' = upd H T (.tup [.int (i : Nat), x]) ∧ ∀ xs, SqT K H a xs → xs[i]? = some x, fun i H => ∃ xs : List V, SqT K H a xs ∧ xs.length ≤ i⟩
theorem turn_enumT {P : Program} {w : World} {K : PySem.W.Frag} {elts : List Expr} {kk : Nat} {tpos : Pos} (a e it : Addr) (hai : a ≠ it) (hae : a ≠ e) :
    Turn P w K (.Tuple elts kk tpos) (IteT K a) [e, it] e (fun i h => (∃ old, IsEnum h e it ((i : Nat) : Int) old) ∧ h.IsTupleIter it a i ∧ e ≠ it) where
  mem := by simp
  obj := fun i h st b hb => by
    obtain ⟨⟨old, he⟩, ⟨o, ho, hc, hd⟩, _⟩ := st
    have e' : b = e ∨ b = it := by simpa using hb
    rcases e' with z | z
    · rw [z]; exact ⟨_, he, fun v q => nomatch q⟩
    · rw [z]; exact ⟨o, ho, fun v q => by rw [hd] at q; cases q⟩
  keep := fun i h h' st k => let ⟨⟨old, he⟩, hi, hne⟩ := st; ⟨⟨old, k e (by simp) _ he⟩, hi.at fun o q => k it (by simp) o q, hne⟩
  item := by
    intro X hP hw hK hc i pins s σ H E I hf st hg
    subst hP hw hK
    obtain ⟨⟨old, he⟩, hit, hne⟩ := st
    obtain ⟨xs, x, hq, hx⟩ := hg
    obtain ⟨its, rv, p, hz⟩ := I.tuple hq
    obtain ⟨u, hu, ru⟩ := rv.get hx
    have hel : e < s.heap.objs.size := Heap.lt_size he
    have hil : it < s.heap.objs.size := by obtain ⟨_, q, _⟩ := hit; exact Heap.lt_size q
    have hu' : its.toArray[i]? = some u := by simpa using hu
    have hlt : i < its.toArray.size := by
      by_cases hq : i < its.toArray.size
      · exact hq
      · rw [Array.getElem?_eq_none (by omega)] at hu'
        cases hu'
    have hef : e ∉ [it, a] := by
      intro z
      simp only [List.mem_cons, List.not_mem_nil, or_false] at z
      rcases z with z | z
      · exact hne z
      · exact hae z.symm
    refine wpAny_pyNext_enum_itemD (Draws.tuple (A := X.A.in1) (show X.A.in1.handled = none from I.ok.hd hc) it a hai its.toArray) he ⟨hit, p⟩ hlt hne hef fun y h' tk hP ho hst' hT hsz hk => ?_
    have ey : y = u := Option.some.inj (hP.symm.trans hu')
    subst ey
    have hit' := hst'.1
    refine ⟨_, rfl, wpAny_letOwnedTupleGo_enum (s := { s with heap := h', toks := tk + 1 }) ho fun h'' he' sb => ?_⟩
    have hT2 : h''.get? s.heap.objs.size = some { cls := .type "tuple", data := .seq #[.int i tk, y] } := (sb.2 _ (Nat.ne_of_gt hel)).trans hT
    have new : ObjOk X.prog X.w (upd H s.heap.objs.size (.tup [.int (i : Nat), x])) h'' s.heap.objs.size (.tup [.int (i : Nat), x]) :=
      ⟨by show 2 ≤ sizeLine; decide, [.int i tk, y], .cons ⟨_, rfl⟩ (.cons ru .nil), ⟨_, hT2, rfl, _, rfl⟩⟩
    have I1 : Inv X pins σ (upd H s.heap.objs.size (.tup [.int (i : Nat), x])) { s with heap := h'', toks := tk + 1 } :=
      I.turnedNew (ch := [e, it]) (fun b ob hb q => (sb.2 b (fun z => hb (by simp [z]))).trans (hk b ob (fun z => hb (by simp [z])) (fun z => hb (by simp [z])) q)) hf (Nat.le_refl _) new
    refine ⟨.ref s.heap.objs.size, _, I1, rfl, ⟨_, x, rfl, I.hok.fresh (Nat.le_refl _), rfl, fun ys hy => by rw [I.tuple_inj hy hq]; exact hx⟩, ⟨⟨y, ?_⟩, hit'.at fun o q => (sb.2 it (Ne.symm hne)).trans q, hne⟩, fun b hb => ?_⟩
    · have e1 : ((i + 1 : Nat) : Int) = (i : Int) + 1 := by omega
      rw [e1]; exact he'
    · have hb' : b < s.heap.objs.size := by
        have e' : b = e ∨ b = it := by simpa using hb
        rcases e' with z | z
        · rw [z]; exact hel
        · rw [z]; exact hil
      rw [upd_ne (Nat.ne_of_lt hb')]
      exact (hf b hb).1
  done := by
    intro X hP hw hK hc i pins s σ H E I hf st hg
    subst hP hw hK
    obtain ⟨⟨old, he⟩, hit, hne⟩ := st
    obtain ⟨xs, hq, hx⟩ := hg
    obtain ⟨its, rv, p, hz⟩ := I.tuple hq
    obtain ⟨f0, f1, f2, f3, f4, f5⟩ := hf it (by simp)
    have hl := rv.length
    have hx' : its.toArray[i]? = none := by simp; omega
    have hT : s.TypeIs (.ref e) "enumerate" := ⟨_, he, rfl⟩
    unfold pyNext
    refine wpAny_bind (wpAny_attempt (wpAny_callSpecial?_slot (name := Str.ofString "__next__") hT F.slot_enumerate_next
      (wpAny_call_entry F.slot_enumerate_next hT F.entry_enumerate_next ?_ (F.args_enumerate_next_1 _))))
    show wpAny _ _ (field (.ref e) 2 >>= _) _ _ _
    refine wpAny_bind (wpAny_field he rfl (x := .ref it) rfl ?_)
    refine wpAny_bind (wpAny_nextOf_tuple_end (A := X.A.in1) (show X.A.in1.handled = none from I.ok.hd hc) hit p hx' fun h' x he' hx' => ?_)
    obtain ⟨o, ho, hc⟩ := hx'
    refine wpAny_bind (wpAny_isInstance (T := "StopIteration") (b := true) ⟨o, ho, hc⟩ isSubtype_stop ?_)
    exact wpAny_pure ⟨rfl, I.turned (t' := s.toks) (fun b o hb q => he' b o hb q) f0 f1 f3 f4 f5⟩
  self := fun A i s Q E st h => let ⟨⟨_, he⟩, _⟩ := st; wpAny_pyIter_enum he h
def iEnumT (K : PySem.W.Frag) (ta : TA) : TI := fun σ H R => ta σ H fun vs H1 => ∃ a xs, vs = [.ref a] ∧ SqT K H1 a xs ∧ R (IteT K a) H1
theorem pi_enumT {X : Cx} {e : Expr} {ta : TA} {p pos tpos : Pos} {elts : List Expr} {kk : Nat} (hg : Gl X "enumerate") (hm : X.mg "enumerate" = none) (ha : PA X [e] ta) (hs : starEach [e] X.env = [(false, eval e X.env)] := by rfl) :
    PI X (.Tuple elts kk tpos) (.Call (.Name "enumerate" p) [e] [] pos) (iEnumT X.K ta) := by
  refine ⟨fun pins s σ H R I h => ?_⟩
  refine Call_ (ld_blt I hg hm boot_enumerate (PyProof.Rows.callWith_type1 (thn (ha.run pos pins s σ H _ I h) fun us s1 ⟨vs, H1, I1, r1, q1⟩ => ?_) hs rfl))
  obtain ⟨a, xs, ex, hq, q⟩ := q1
  subst ex
  cases r1 with
  | cons r rr =>
    cases rr
    cases r
    obtain ⟨its, rv, p', hz⟩ := I1.tuple hq
    have hal : a < s1.heap.objs.size := by
      obtain ⟨o, ho, _⟩ := id p'
      exact Heap.lt_size ho
    refine nf_call_enumerate_tuple p' fun h' he hit hsz hk => wpAny_pyIter_enum he ?_
    have I2 : Inv X pins σ H1 { s1 with heap := h' } := I1.kept (t' := s1.toks) hk
    refine ⟨s1.heap.objs.size + 1, [s1.heap.objs.size + 1, s1.heap.objs.size], _, _, H1, rfl, I2, turn_enumT a (s1.heap.objs.size + 1) s1.heap.objs.size (Nat.ne_of_lt hal) (Nat.ne_of_lt (Nat.lt_succ_of_lt hal)), ⟨⟨.none, he⟩, hit, Nat.succ_ne_self _⟩, fun b hb => ?_, q⟩
    have e' : b = s1.heap.objs.size + 1 ∨ b = s1.heap.objs.size := by simpa using hb
    have hle : s1.heap.objs.size ≤ b := by
      rcases e' with z | z
      · rw [z]; exact Nat.le_add_right _ _
      · rw [z]; exact Nat.le_refl _
    exact I1.fpOk hle (I1.hok.fresh hle)
theorem walk_enumT {K : PySem.W.Frag} {a : Addr} {xs : List V} : Walk (IteT K a) xs.length (fun H => SqT K H a xs) (YPair (fun i => some (.int (i : Nat))) (fun i => xs[i]?)) := by
  refine ⟨fun i _ hi q => ⟨xs, xs[i], q, by simp [hi]⟩, fun _ q => ⟨xs, q, Nat.le_refl _⟩, fun i H v H' _ q y => ?_⟩
  obtain ⟨T, x, h1, h2, h3, h4⟩ := y
  exact ⟨T, .int (i : Nat), x, h1, h2, h3, rfl, h4 xs q⟩
theorem walk_zipT {K : PySem.W.Frag} {a b : Addr} {xs ys : List V} {n : Nat} (hn : n = min xs.length ys.length) : Walk (RZ.ItzT K a b) n (fun H => SqT K H a xs ∧ SqT K H b ys) (YPair (fun i => xs[i]?) (fun i => ys[i]?)) := by
  subst hn
  refine ⟨fun i _ hi q => ?_, fun _ q => ⟨xs, ys, q.1, q.2, by omega⟩, fun i H v H' _ q y => ?_⟩
  · have h1 : i < xs.length := by omega
    have h2 : i < ys.length := by omega
    exact ⟨xs, ys, xs[i], ys[i], q.1, q.2, by simp [h1], by simp [h2]⟩
  · obtain ⟨T, x, z, h1, h2, h3, h4, h5⟩ := y
    exact ⟨T, x, z, h1, h2, h3, h4 xs q.1, h5 ys q.2⟩
end Nf

set_option Elab.async false
set_option linter.all false
set_option maxRecDepth 100000
set_option maxHeartbeats 4000000
namespace Nf
open PySem PySem.Spec PyProof.Rows L2

theorem compTurnN_mid (elt : Expr) (gens : List Comprehension) (d : Nat) (t0 i0 t1 i1 : Expr) (ifs0 ifs1 : List Expr) (scope : Scope) (pos : Pos) (it acc : Value) (env : Env)
    (h0 : gens[d]? = some ⟨t0, i0, ifs0, 0⟩) (h1 : gens[d + 1]? = some ⟨t1, i1, ifs1, 0⟩) :
    compTurn (.ListComp elt gens scope pos) d it acc env = (do
      standAt i0.pos
      match ← pyNext it with
      | none => pure (.done .next)
      | some v =>
        letOwnedTupleGo t0 it v
        assign t0 env v
        let mut ok := true
        for c in ifs0 do
          if ok then ok ← isTrue c env (eval c env)
        if ok then
          let x ← eval i1 env
          standAt i1.pos
          let x ← foldedSetIterable i1 env x
          let _ ← runOwn (.compStart (.ListComp elt gens scope pos) (d + 1) (← holding [x] (pyIter x)) acc env) env
        again (.compLoop (.ListComp elt gens scope pos) d it acc env)) := by
  unfold compTurn
  simp only [h0, h1]
  rfl
theorem compTurnN_last (elt : Expr) (gens : List Comprehension) (d : Nat) (t1 i1 : Expr) (ifs1 : List Expr) (scope : Scope) (pos : Pos) (it acc : Value) (env : Env)
    (h0 : gens[d]? = some ⟨t1, i1, ifs1, 0⟩) (h1 : gens[d + 1]? = none) :
    compTurn (.ListComp elt gens scope pos) d it acc env = (do
      standAt i1.pos
      match ← pyNext it with
      | none => pure (.done .next)
      | some v =>
        letOwnedTupleGo t1 it v
        assign t1 env v
        let mut ok := true
        for c in ifs1 do
          if ok then ok ← isTrue c env (eval c env)
        if ok then
          (do let _ ← call (.builtin "list.append") [acc, ← eval elt env])
        again (.compLoop (.ListComp elt gens scope pos) d it acc env)) := by
  unfold compTurn
  simp only [h0, h1]
  rfl

section
variable {prog : Program} {w : World} {A : Around} {R : Result → Shared → Prop} {s : Shared} {elt t0 i0 t1 i1 : Expr} {gens : List Comprehension} {d : Nat} {ifs0 ifs1 : List Expr} {scope : Scope} {pos : Pos} {it acc : Value} {env : Env}
theorem compLoopN_mid (h0 : gens[d]? = some ⟨t0, i0, ifs0, 0⟩) (h1 : gens[d + 1]? = some ⟨t1, i1, ifs1, 0⟩) (hs : ∀ x, foldedSetIterable i1 env x = pure x) (I : Nat → Shared → Prop)
    (turn : ∀ n s, I n s → wpAny (model prog w) A (pyNext it) (fun r s₁ => match r with
      | none => R (.ok .next) s₁
      | some v => wpAny (model prog w) A (letOwnedTupleGo t0 it v) (fun _ s₁' => wpAny (model prog w) A (assign t0 env v) (fun _ s₂ =>
          wpAny (model prog w) A (forIn ifs0 true fun c r => if r = true then do let ok ← isTrue c env (eval c env); pure (ForInStep.yield ok) else pure (ForInStep.yield r)) (fun ok s₃ =>
            if ok = true then wpAny (model prog w) A (eval i1 env) (fun x s₄ => wpAny (model prog w) A (pyIter x) (fun it1 s₅ =>
              codeAny (model prog w) A (.compStart (.ListComp elt gens scope pos) (d + 1) it1 acc env) (fun r s' => match r with
                | .ok _ => ∃ m, m < n ∧ I m s'
                | .error _ => False) s₅) (notedBy (model prog w) A env fun e s' => R (.error e) s') s₄) (notedBy (model prog w) A env fun e s' => R (.error e) s') s₃
            else ∃ m, m < n ∧ I m s₃) (notedBy (model prog w) A env fun e s' => R (.error e) s') s₂) (notedBy (model prog w) A env fun e s' => R (.error e) s') s₁') (notedBy (model prog w) A env fun e s' => R (.error e) s') s₁) (notedBy (model prog w) A env fun e s' => R (.error e) s') s)
    (n : Nat) (h : I n s) :
    codeAny (model prog w) A (.compLoop (.ListComp elt gens scope pos) d it acc env) R s := by
  refine codeAny_loop rfl I (fun n s hI => ?_) n h
  show wpAny _ A ((compTurn (.ListComp elt gens scope pos) d it acc env).onRaise (fun x => do noteFrame x env; theTreesLotGoes x)) _ _ s
  refine wpAny_noted ?_
  rw [compTurnN_mid elt gens d t0 i0 t1 i1 ifs0 ifs1 scope pos it acc env h0 h1]
  refine wpAny_bind (wpAny_standAt (wpAny_bind (wpAny_mono (turn n s hI) (fun r s₁ h₁ => ?_) fun _ _ h' => h')))
  cases r with
  | none => exact wpAny_pure h₁
  | some v =>
    refine wpAny_bind (wpAny_mono h₁ (fun _ s₁' h₁' => ?_) fun _ _ h' => h')
    refine wpAny_bind (wpAny_mono h₁' (fun _ s₂ h₂ => wpAny_bind (wpAny_mono h₂ (fun ok s₃ h₃ => ?_) fun _ _ h' => h')) fun _ _ h' => h')
    cases ok with
    | false => exact wpAny_pure ⟨rfl, h₃⟩
    | true =>
      refine wpAny_bind (wpAny_mono h₃ (fun x s₄ h₄ => ?_) fun _ _ h' => h')
      refine wpAny_bind (wpAny_standAt (wpAny_bind (wpAny_of_eq (hs x) (wpAny_bind (wpAny_holding (wpAny_mono h₄ (fun it1 s₅ h₅ => ?_) fun _ _ h' => h'))))))
      refine wpAny_bind (wpAny_runOwn ?_)
      rw [Around.mark_none]
      refine codeAny_mono h₅ fun r s' hr => ?_
      cases r with
      | ok f =>
        first
          | exact wpAny_pure ⟨rfl, hr⟩
          | exact wpAny_bind (wpAny_pure (wpAny_pure ⟨rfl, hr⟩))
      | error e => exact hr.elim
theorem compLoopN_last (h0 : gens[d]? = some ⟨t1, i1, ifs1, 0⟩) (h1 : gens[d + 1]? = none) (I : Nat → Shared → Prop)
    (turn : ∀ n s, I n s → wpAny (model prog w) A (pyNext it) (fun r s₁ => match r with
      | none => R (.ok .next) s₁
      | some v => wpAny (model prog w) A (letOwnedTupleGo t1 it v) (fun _ s₁' => wpAny (model prog w) A (assign t1 env v) (fun _ s₂ =>
          wpAny (model prog w) A (forIn ifs1 true fun c r => if r = true then do let ok ← isTrue c env (eval c env); pure (ForInStep.yield ok) else pure (ForInStep.yield r)) (fun ok s₃ =>
            if ok = true then wpAny (model prog w) A (eval elt env) (fun x s₄ =>
              wpAny (model prog w) A (call (.builtin "list.append") [acc, x]) (fun _ s₅ => ∃ m, m < n ∧ I m s₅) (notedBy (model prog w) A env fun e s' => R (.error e) s') s₄) (notedBy (model prog w) A env fun e s' => R (.error e) s') s₃
            else ∃ m, m < n ∧ I m s₃) (notedBy (model prog w) A env fun e s' => R (.error e) s') s₂) (notedBy (model prog w) A env fun e s' => R (.error e) s') s₁') (notedBy (model prog w) A env fun e s' => R (.error e) s') s₁) (notedBy (model prog w) A env fun e s' => R (.error e) s') s)
    (n : Nat) (h : I n s) :
    codeAny (model prog w) A (.compLoop (.ListComp elt gens scope pos) d it acc env) R s := by
  refine codeAny_loop rfl I (fun n s hI => ?_) n h
  show wpAny _ A ((compTurn (.ListComp elt gens scope pos) d it acc env).onRaise (fun x => do noteFrame x env; theTreesLotGoes x)) _ _ s
  refine wpAny_noted ?_
  rw [compTurnN_last elt gens d t1 i1 ifs1 scope pos it acc env h0 h1]
  refine wpAny_bind (wpAny_standAt (wpAny_bind (wpAny_mono (turn n s hI) (fun r s₁ h₁ => ?_) fun _ _ h' => h')))
  cases r with
  | none => exact wpAny_pure h₁
  | some v =>
    refine wpAny_bind (wpAny_mono h₁ (fun _ s₁' h₁' => ?_) fun _ _ h' => h')
    refine wpAny_bind (wpAny_mono h₁' (fun _ s₂ h₂ => wpAny_bind (wpAny_mono h₂ (fun ok s₃ h₃ => ?_) fun _ _ h' => h')) fun _ _ h' => h')
    cases ok with
    | false => exact wpAny_pure ⟨rfl, h₃⟩
    | true =>
      exact wpAny_bind (wpAny_bind (wpAny_mono h₃ (fun x s₄ h₄ => wpAny_bind (wpAny_mono h₄ (fun _ s₅ h₅ => wpAny_pure (wpAny_pure ⟨rfl, h₅⟩)) fun _ _ h' => h')) fun _ _ h' => h'))
theorem compStartN_ok (hg : gens[d]? = some ⟨t1, i1, ifs1, 0⟩) (h0 : codeAny (model prog w) A (.compLoop (.ListComp elt gens scope pos) d it acc env) R s)
    (h : wpAny (model prog w) A (pyIter it) (fun it' s' => codeAny (model prog w) A (.compLoop (.ListComp elt gens scope pos) d it' acc env) R s')
      (notedBy (model prog w) A env fun x s' => R (.error x) s') s) :
    codeAny (model prog w) A (.compStart (.ListComp elt gens scope pos) d it acc env) R s := by
  refine codeAny_of_tree ?_
  show wpAny _ _ ((compStart (.ListComp elt gens scope pos) d it acc env).onRaise (fun x => do noteFrame x env; standAt theWindowsPlace)) _ _ s
  refine wpAny_notedAt ?_
  have hc : (clausesOf (.ListComp elt gens scope pos))[d]? = some ⟨t1, i1, ifs1, 0⟩ := hg
  unfold compStart
  rw [hc]
  show wpAny _ _ (ask >>= _) _ _ s
  refine wpAny_bind (wpAny_askSetting (wpAny_ite ?_))
  split
  · first
      | exact wpAny_bind (wpAny_pure (wpAny_pure (And.intro rfl h0)))
      | exact wpAny_pure (And.intro rfl h0)
  · first
      | exact wpAny_bind (wpAny_rule (wpAny_bind (wpAny_standAt (wpAny_bind (wpAny_mono h (fun it' s' h' => wpAny_pure (And.intro rfl h')) fun _ _ x => x)))))
      | (refine wpAny_bind (wpAny_rule ?_); show wpAny _ _ (standAt i1.pos >>= _) _ _ s; exact wpAny_bind (wpAny_standAt (wpAny_bind (wpAny_mono h (fun it' s' h' => wpAny_pure (And.intro rfl h')) fun _ _ x => x))))
end
end Nf

set_option Elab.async false
set_option linter.all false
set_option maxRecDepth 100000
set_option maxHeartbeats 4000000
namespace Nf
open PySem PySem.Spec PyProof.Rows L2


/-! ### list comprehensions of any number of clauses -/
theorem thnX {X : Cx} {α : Type} {t : Sem α} {Q Q' : α → Shared → Prop} {M : Model} {A : Around} {E : Value → Shared → Prop} {s : Shared} (hx : X.xe = fun _ _ => False) (h : wpAny M A t Q X.xe s) (hQ : ∀ a s, Q a s → Q' a s) : wpAny M A t Q' E s :=
  wpAny_mono h hQ fun e s' z => by
    rw [hx] at z
    exact z.elim
/-- what a loop leaves of the slots: those that it does not store -/
def KeepS (vs : List Nat) (σ σ' : L2.St) : Prop := σ.length = σ'.length ∧ ∀ (j : Nat) v, (wipe σ vs)[j]? = some (some v) → σ'[j]? = some (some v)
/-- the loop of the clause at depth d, its iterator made: vs the slots that it and the later clauses store -/
structure PCl (Y : Cx) (elt : Expr) (gens : List Comprehension) (scope : Scope) (pos : Pos) (d : Nat) (tg : Expr) (vs : List Nat) (t : It → Addr → L2.St → Hp → (Hp → Prop) → Prop) : Prop where
  run : ∀ (pins : List (Addr × Obj)) (s : Shared) (σ : L2.St) (H : Hp) (D : Addr) (Nx : Hp → Prop) (it : Addr) (fp : List Addr) (tn : Nat → Heap → Prop) (J : It) (R : Result → Shared → Prop), Inv Y pins σ H s → Turn Y.prog Y.w Y.K tg J fp it tn → tn 0 s.heap →
    (∀ b ∈ fp, FpOk Y pins H b) → t J D σ H Nx → (∀ s' σ' H', Inv Y pins σ' H' s' → KeepS vs σ σ' → Nx H' → R (.ok .next) s') →
    codeAny (model Y.prog Y.w) Y.A (.compLoop (.ListComp elt gens scope pos) d (.ref it) (.ref D) Y.env) R s
/-- a loop's reading: body tells what a turn does behind the tests -/
def tCl (g : TG) (tt : TT) (vs : List Nat) (body : Addr → L2.St → Hp → (Hp → Prop) → Prop) : It → Addr → L2.St → Hp → (Hp → Prop) → Prop := fun J D σ H Nx => ∃ W : Nat → Nat → Hp → Prop, (∃ m, W 0 m H) ∧ ∀ i m H, W i m H →
  (J.stop i H ∧ Nx H) ∨ (J.go i H ∧ ∃ N : Hp → Prop, (∀ H', N H' → ∃ m', m' < m ∧ W (i + 1) m' H') ∧ ∀ x H', J.yld i H x H' → g x (wipe σ vs) H' fun σ2 H2 => wipe σ2 vs = wipe σ vs ∧ tt σ2 H2 fun b H3 =>
    if b = true then body D σ2 H3 N else N H3)
/-- the last clause's: the element is put to the list -/
def bLast (te : TE) : Addr → L2.St → Hp → (Hp → Prop) → Prop := fun D σ2 H3 N => te σ2 H3 fun y H4 => ∃ acc, H4 D = some (.lst acc) ∧ acc.length < sizeLine ∧ N (upd H4 D (.lst (acc ++ [y])))
/-- another clause's: the next one's loop -/
def bMid (wi : TI) (t : It → Addr → L2.St → Hp → (Hp → Prop) → Prop) : Addr → L2.St → Hp → (Hp → Prop) → Prop := fun D σ2 H3 N => wi σ2 H3 fun J1 H4 => t J1 D σ2 H4 N
variable {Y : Cx} {elt tg iter : Expr} {gens : List Comprehension} {scope : Scope} {pos : Pos} {d : Nat} {ifs : List Expr} {g : TG} {tt : TT} {te : TE} {vs : List Nat}
theorem pcl_last (hc : Y.calm = true) (hx : Y.xe = fun _ _ => False) (h0 : gens[d]? = some ⟨tg, iter, ifs, 0⟩) (h1 : gens[d + 1]? = none) (pg : PG Y tg g) (pt : PTs Y ifs tt) (pe : PE Y elt te) : PCl Y elt gens scope pos d tg vs (tCl g tt vs (bLast te)) := by
  refine ⟨fun pins s σ H D Nx it fp tn J R I T st f h hR => ?_⟩
  obtain ⟨W, ⟨m0, w0⟩, turn⟩ := h
  have stat : ∀ {H' : Hp}, (∀ b ∈ fp, H' b = none) → ∀ b ∈ fp, FpOk Y pins H' b := fun hn b hb => ⟨hn b hb, (f b hb).2⟩
  refine compLoopN_last h0 h1 (fun k s' => ∃ j H', Inv Y pins (wipe σ vs) H' s' ∧ tn j s'.heap ∧ (∀ b ∈ fp, H' b = none) ∧ W j k H') ?_ m0 ⟨0, H, I.weak (wipe_length _ _) (fun j v e => (wipe_some e).1), st, fun b hb => (f b hb).1, w0⟩
  rintro k s12 ⟨j, H12, I12, st12, n12, w12⟩
  rcases turn j k H12 w12 with ⟨stop1, nx1⟩ | ⟨go1, Nx1, hNx1, step1⟩
  · refine thnF (T.done Y rfl rfl rfl hc j _ s12 (wipe σ vs) H12 (fun _ _ => False) I12 (stat n12) st12 stop1) fun r s13 ⟨hr, I13⟩ => ?_
    subst hr
    exact hR _ _ _ I13 ⟨(wipe_length σ vs).symm, fun _ _ e => e⟩ nx1
  · refine thnF (T.item Y rfl rfl rfl hc j _ s12 (wipe σ vs) H12 (fun _ _ => False) I12 (stat n12) st12 go1) fun r s13 ⟨u1, hr, h13⟩ => ?_
    subst hr
    refine thnF h13 fun _ s14 ⟨x1, H14, I14, r14, y14, st14, n14⟩ => ?_
    have I14' := I14.pinned (stat n14) (T.obj _ _ st14)
    refine thnX hx (pg.run _ s14 (wipe σ vs) H14 x1 u1 _ I14' r14 (step1 x1 H14 y14)) fun _ s15 ⟨σ15, H15, I15, hw15, q15⟩ => ?_
    refine thnX hx (pt.run _ s15 σ15 H15 _ I15 q15) fun b1 s16 ⟨H16, I16, q16⟩ => ?_
    have fin1 : ∀ {s' : Shared} {H' : Hp}, Inv Y (pins ++ pinsAt fp s14.heap) σ15 H' s' → Nx1 H' → ∃ m, m < k ∧ ∃ j H', Inv Y pins (wipe σ vs) H' s' ∧ tn j s'.heap ∧ (∀ b ∈ fp, H' b = none) ∧ W j m H' := fun {s' H'} I' nx => by
      obtain ⟨m', hm, w'⟩ := hNx1 H' nx
      have pin' : ∀ b ∈ fp, ∀ o, s14.heap.get? b = some o → s'.heap.get? b = some o ∧ H' b = none := fun b hb o e =>
        let z := I'.pin (b, o) (List.mem_append_right _ (List.mem_append_right _ (mem_pinsAt hb e)))
        ⟨z.1, z.2.1⟩
      refine ⟨m', hm, j + 1, H', I'.unpinned.weak (by rw [← hw15, wipe_length]) (fun j v e => by rw [← hw15] at e; exact (wipe_some e).1), T.keep _ _ _ st14 fun b hb o e => (pin' b hb o e).1, fun b hb => ?_, w'⟩
      obtain ⟨o, e, _⟩ := T.obj _ _ st14 b hb
      exact (pin' b hb o e).2
    cases b1 with
    | false =>
      simp only [Bool.false_eq_true, if_false] at q16 ⊢
      exact fin1 I16 q16
    | true =>
      simp only [if_true] at q16 ⊢
      refine thnX hx (pe.run _ s16 σ15 H16 _ I16 q16) fun z s17 ⟨yv, H17, I17, r17, acc, hD17, hz17, nx⟩ => ?_
      exact app_ok (X := Y) I17 hD17 hz17 r17 fun s18 I18 => fin1 I18 nx
theorem pcl_mid {tg1 iter1 : Expr} {ifs1 : List Expr} {wi1 : TI} {vs1 : List Nat} {t1 : It → Addr → L2.St → Hp → (Hp → Prop) → Prop} (hc : Y.calm = true) (hx : Y.xe = fun _ _ => False) (h0 : gens[d]? = some ⟨tg, iter, ifs, 0⟩) (h1 : gens[d + 1]? = some ⟨tg1, iter1, ifs1, 0⟩) (hv : ∀ i ∈ vs1, i ∈ vs)
    (pg : PG Y tg g) (pt : PTs Y ifs tt) (pi1 : PI Y tg1 iter1 wi1) (hs1 : ∀ x, foldedSetIterable iter1 Y.env x = pure x) (pc : PCl Y elt gens scope pos (d + 1) tg1 vs1 t1) : PCl Y elt gens scope pos d tg vs (tCl g tt vs (bMid wi1 t1)) := by
  refine ⟨fun pins s σ H D Nx it fp tn J R I T st f h hR => ?_⟩
  obtain ⟨W, ⟨m0, w0⟩, turn⟩ := h
  have stat : ∀ {H' : Hp}, (∀ b ∈ fp, H' b = none) → ∀ b ∈ fp, FpOk Y pins H' b := fun hn b hb => ⟨hn b hb, (f b hb).2⟩
  refine compLoopN_mid h0 h1 hs1 (fun k s' => ∃ j H', Inv Y pins (wipe σ vs) H' s' ∧ tn j s'.heap ∧ (∀ b ∈ fp, H' b = none) ∧ W j k H') ?_ m0 ⟨0, H, I.weak (wipe_length _ _) (fun j v e => (wipe_some e).1), st, fun b hb => (f b hb).1, w0⟩
  rintro k s12 ⟨j, H12, I12, st12, n12, w12⟩
  rcases turn j k H12 w12 with ⟨stop1, nx1⟩ | ⟨go1, Nx1, hNx1, step1⟩
  · refine thnF (T.done Y rfl rfl rfl hc j _ s12 (wipe σ vs) H12 (fun _ _ => False) I12 (stat n12) st12 stop1) fun r s13 ⟨hr, I13⟩ => ?_
    subst hr
    exact hR _ _ _ I13 ⟨(wipe_length σ vs).symm, fun _ _ e => e⟩ nx1
  · refine thnF (T.item Y rfl rfl rfl hc j _ s12 (wipe σ vs) H12 (fun _ _ => False) I12 (stat n12) st12 go1) fun r s13 ⟨u1, hr, h13⟩ => ?_
    subst hr
    refine thnF h13 fun _ s14 ⟨x1, H14, I14, r14, y14, st14, n14⟩ => ?_
    have I14' := I14.pinned (stat n14) (T.obj _ _ st14)
    refine thnX hx (pg.run _ s14 (wipe σ vs) H14 x1 u1 _ I14' r14 (step1 x1 H14 y14)) fun _ s15 ⟨σ15, H15, I15, hw15, q15⟩ => ?_
    refine thnX hx (pt.run _ s15 σ15 H15 _ I15 q15) fun b1 s16 ⟨H16, I16, q16⟩ => ?_
    have fin1 : ∀ {σ9 : L2.St} {s' : Shared} {H' : Hp}, Inv Y (pins ++ pinsAt fp s14.heap) σ9 H' s' → (wipe σ vs).length = σ9.length → (∀ (j : Nat) v, (wipe σ vs)[j]? = some (some v) → σ9[j]? = some (some v)) → Nx1 H' →
        ∃ m, m < k ∧ ∃ j H', Inv Y pins (wipe σ vs) H' s' ∧ tn j s'.heap ∧ (∀ b ∈ fp, H' b = none) ∧ W j m H' := fun {σ9 s' H'} I' hl hk nx => by
      obtain ⟨m', hm, w'⟩ := hNx1 H' nx
      have pin' : ∀ b ∈ fp, ∀ o, s14.heap.get? b = some o → s'.heap.get? b = some o ∧ H' b = none := fun b hb o e =>
        let z := I'.pin (b, o) (List.mem_append_right _ (List.mem_append_right _ (mem_pinsAt hb e)))
        ⟨z.1, z.2.1⟩
      refine ⟨m', hm, j + 1, H', I'.unpinned.weak hl hk, T.keep _ _ _ st14 fun b hb o e => (pin' b hb o e).1, fun b hb => ?_, w'⟩
      obtain ⟨o, e, _⟩ := T.obj _ _ st14 b hb
      exact (pin' b hb o e).2
    have hl15 : (wipe σ vs).length = σ15.length := by rw [← hw15, wipe_length]
    cases b1 with
    | false =>
      simp only [Bool.false_eq_true, if_false] at q16 ⊢
      exact fin1 I16 hl15 (fun j v e => by rw [← hw15] at e; exact (wipe_some e).1) q16
    | true =>
      simp only [if_true] at q16 ⊢
      refine thnX hx (pi1.run _ s16 σ15 H16 _ I16 q16) fun xv s10 hxx => thnX hx hxx fun itv s11 h11 => ?_
      obtain ⟨it1, fp1, tn1, J1, H11, e1, I11, T1, st11, f11, q11⟩ := h11
      subst e1
      have loop1 : codeAny (model Y.prog Y.w) Y.A (.compLoop (.ListComp elt gens scope pos) (d + 1) (.ref it1) (.ref D) Y.env)
          (fun r s' => match r with
            | .ok _ => ∃ m, m < k ∧ ∃ j H', Inv Y pins (wipe σ vs) H' s' ∧ tn j s'.heap ∧ (∀ b ∈ fp, H' b = none) ∧ W j m H'
            | .error _ => False) s11 := by
        refine pc.run _ s11 σ15 H11 D Nx1 it1 fp1 tn1 J1 _ I11 T1 st11 f11 q11 fun s' σ' H' I' ks nx => ?_
        refine fin1 I' (hl15.trans ks.1) (fun j v e => ?_) nx
        refine ks.2 j v ?_
        rw [← hw15] at e
        obtain ⟨e1, e2⟩ := wipe_some e
        rw [wipe_out fun z => e2 (hv j z)]
        exact e1
      exact compStartN_ok h1 loop1 (T1.self Y.A 0 _ _ _ st11 loop1)
end Nf

set_option Elab.async false
set_option linter.all false
set_option maxRecDepth 100000
set_option maxHeartbeats 4000000
namespace Nf
open PySem PySem.Spec PyProof.Rows L2

variable {X : Cx}
/-- [elt for tg in iter .. for .. ..] -/
def tLcN (wi : TI) (t : It → Addr → L2.St → Hp → (Hp → Prop) → Prop) (vs : List Nat) : TE := fun σ H Q => wi σ H fun J H1 => ∀ D, H1 D = none → t J D (wipe σ vs) (upd H1 D (.lst [])) fun H2 => Q (.ref D) H2
theorem lcN_core {pins : List (Addr × Obj)} {s : Shared} {σ : L2.St} {H : Hp} {Q : VK} {elt tg iter : Expr} {ifs : List Expr} {rest : List Comprehension} {scope : Scope} {own : List (Str × Nat)} {pos pos' : Pos} {wi : TI} {t : It → Addr → L2.St → Hp → (Hp → Prop) → Prop} {use : Option (Value → Sem Unit)} {Qf : Value → Shared → Prop}
    (hc : X.calm = true) (hN : X.N.Nodup) (I : Inv X pins σ H s) (hi : PI X tg iter wi) (ok : BlkOk X.N X.env.scope scope own)
    (hp : ∀ (s : Shared) (H : Hp) (C : Addr) (cl : List (Str × Addr)) (fp : List Addr), PCl (X.blk s H scope (compEnvC scope cl C X.env) fp) elt (⟨tg, iter, ifs, 0⟩ :: rest) scope pos 0 tg (own.map (·.2)) t) (hs : ∀ x, foldedSetIterable iter X.env x = pure x)
    (h : tLcN wi t (own.map (·.2)) σ H Q)
    (hRR : ∀ D C s' m H', Inv X pins σ H' s' → Q (.ref D) H' → s'.heap.Ns C m → FpOk X pins H' C → compPost (model X.prog X.w) X.A X.xe use Qf (.ref D) C (.ok .next) s') :
    wpAny (model X.prog X.w) X.A (comprehension (.ListComp elt (⟨tg, iter, ifs, 0⟩ :: rest) scope pos) scope X.env pos' (newList []) false (eval iter X.env) use) Qf X.xe s := by
  have hfree : ∀ y ∈ scope.names, y.2 = .free → ∃ c, X.env.cells.lookup y.1 = some c := fun y hy e => by
    rcases ok.free y hy e with k | k
    · exact I.ok.has _ (.inl k)
    · exact I.ok.has _ (.inr k)
  refine wpAny_comprehension_free (use := use) rfl hs (closure_ok hfree) ok.kind (fun y hy e => by rw [ok.uniq y hy, e])
    (thn (hi.run pins s σ H _ I h) fun xv s1 hx => thn hx fun itv s2 h2 => ?_)
  obtain ⟨it, fp, tn, J, H2, e, I2, T, st2, f2, q⟩ := h2
  subst e
  refine wpAny_newObj_type (newEnv_comp ?_) (by show 0 ≤ sizeLine; decide)
  generalize hD : s2.heap.objs.size = D
  have hDn : H2 D = none := I2.hok.fresh (Nat.le_of_eq hD)
  have qt := q D hDn
  -- the new list
  generalize hs3 : ({ s2 with heap := s2.heap.push { cls := .type "list", data := .seq ([] : List Value).toArray } } : Shared) = s3
  have I3 : Inv X pins σ (upd H2 D (.lst [])) s3 := by
    rw [← hs3]
    refine I2.laid (t' := s2.toks) (fun b o e => Heap.get?_push_of_some _ e) (Nat.le_of_eq hD) ⟨Nat.zero_le _, [], 0, .nil, ?_⟩
    rw [← hD]
    exact Heap.get?_push_size _ rfl
  have h3 : s3.heap = s2.heap.push { cls := .type "list", data := .seq ([] : List Value).toArray } := by rw [← hs3]
  have sz : ∀ b ∈ fp, b < s2.heap.objs.size := fun b hb => by
    obtain ⟨o, e, _⟩ := T.obj _ _ st2 b hb
    exact Heap.lt_size e
  have f3 : ∀ b ∈ fp, FpOk X pins (upd H2 D (.lst [])) b ∧ b < s3.heap.objs.size := fun b hb => by
    have hlt := sz b hb
    refine ⟨⟨?_, (f2 b hb).2⟩, by rw [h3, Heap.size_push]; exact Nat.lt_succ_of_lt hlt⟩
    rw [upd_ne (by rw [← hD]; exact Nat.ne_of_lt hlt)]
    exact (f2 b hb).1
  have st3 : tn 0 s3.heap := T.keep _ _ _ st2 fun b _ o e => by rw [h3]; exact Heap.get?_push_of_some _ e
  have I4 := block_start I3 ok hN f3
  have pc := hp s3 (upd H2 D (.lst [])) s3.heap.objs.size (cellsFrom (s3.heap.objs.size + 1) scope.names (cloFrom X.env.cells scope.names [])) fp
  show codeAny _ _ (.compStart (.ListComp elt (⟨tg, iter, ifs, 0⟩ :: rest) scope pos) 0 (.ref it) (.ref D) (compEnvC scope (cellsFrom (s3.heap.objs.size + 1) scope.names (cloFrom X.env.cells scope.names [])) s3.heap.objs.size X.env)) (compPost (model X.prog X.w) X.A X.xe use Qf (.ref D) s3.heap.objs.size) { s3 with heap := pushCells (s3.heap.push { cls := .type "dict", data := .dict #[] }) scope.names }
  have nfp : ∀ b ∈ fp, (upd H2 D (.lst [])) b = none := fun b hb => (f3 b hb).1.1
  generalize hce : compEnvC scope (cellsFrom (s3.heap.objs.size + 1) scope.names (cloFrom X.env.cells scope.names [])) s3.heap.objs.size X.env = ce at I4 pc ⊢
  have cL : ce.locals = s3.heap.objs.size := by subst hce; rfl
  generalize hH3 : upd H2 D (.lst []) = H3 at I3 I4 pc nfp f3 qt
  generalize hs4 : ({ s3 with heap := pushCells (s3.heap.push { cls := .type "dict", data := .dict #[] }) scope.names } : Shared) = s4 at I4 ⊢
  have st4 : tn 0 s4.heap := T.keep _ _ _ st3 fun b _ o e => by rw [← hs4]; exact pushCells_keeps _ _ _ _ (Heap.get?_push_of_some _ e)
  have stat : ∀ b ∈ fp, FpOk (X.blk s3 H3 scope ce fp) [] H3 b := fun b hb =>
    ⟨nfp b hb, (I4.ok.exf b hb).1, I4.ok.exfs b hb, .inl hb, fun x c e => (I4.ok.exf b hb).2 x c e, fun p hp => absurd (show p ∈ ([] : List (Addr × Obj)) ++ [] from hp) (by simp)⟩
  have loop : codeAny (model X.prog X.w) X.A (.compLoop (.ListComp elt (⟨tg, iter, ifs, 0⟩ :: rest) scope pos) 0 (.ref it) (.ref D) ce) (compPost (model X.prog X.w) X.A X.xe use Qf (.ref D) s3.heap.objs.size) s4 := by
    refine pc.run [] s4 _ H3 D _ it fp tn J _ I4 T st4 stat qt fun s6 σ6 H6 I6 _ qq => ?_
    have I7 : Inv X pins σ H6 s6 := I3.call' (ch := fp) I6.os I6.base I6.hok I6.bare fun b hb => ⟨(f3 b hb).1.2.2.2.1, (f3 b hb).1.2.1, (f3 b hb).1.2.2.2.2.1, (f3 b hb).1.2.2.2.2.2⟩
    have nC : H6 s3.heap.objs.size = none := by
      have z : H6 ce.locals = none := I6.free
      rw [cL] at z
      exact z
    obtain ⟨m, hn, _⟩ := I6.loc
    have hn : s6.heap.Ns ce.locals m := hn
    rw [cL] at hn
    exact hRR D s3.heap.objs.size s6 m H6 I7 qq hn (I3.fpOk (Nat.le_refl _) nC)
  exact codeAny_compStart_list loop (T.self X.A 0 _ _ _ st4 loop)
/-- as a value -/
theorem pe_lcN {elt tg iter : Expr} {ifs : List Expr} {rest : List Comprehension} {scope : Scope} {own : List (Str × Nat)} {pos : Pos} {wi : TI} {t : It → Addr → L2.St → Hp → (Hp → Prop) → Prop} (hc : X.calm = true) (hN : X.N.Nodup) (hi : PI X tg iter wi) (ok : BlkOk X.N X.env.scope scope own)
    (hp : ∀ (s : Shared) (H : Hp) (C : Addr) (cl : List (Str × Addr)) (fp : List Addr), PCl (X.blk s H scope (compEnvC scope cl C X.env) fp) elt (⟨tg, iter, ifs, 0⟩ :: rest) scope pos 0 tg (own.map (·.2)) t) (hs : ∀ x, foldedSetIterable iter X.env x = pure x := by intro _; rfl) :
    PE X (.ListComp elt (⟨tg, iter, ifs, 0⟩ :: rest) scope pos) (tLcN wi t (own.map (·.2))) := by
  refine ⟨fun pins s σ H Q I h => ?_⟩
  rw [eval_ListComp]
  refine lcN_core hc hN I hi ok hp hs h fun D C s' m H' I' q hn f => ⟨m, hn, fun h'' sb => ?_⟩
  obtain ⟨f0, f1, f2, f3, f4, f5⟩ := f
  exact ⟨.ref D, H', I'.turned (t' := s'.toks) (fun b o hb e => (sb.2 b hb).trans e) f0 f1 f3 f4 f5, rfl, q⟩
/-- name = [..] -/
theorem ps_setLcN {i : Nat} {y : Str} {py : Pos} {elt tg iter : Expr} {ifs : List Expr} {rest : List Comprehension} {scope : Scope} {own : List (Str × Nat)} {pos spos : Pos} {wi : TI} {t : It → Addr → L2.St → Hp → (Hp → Prop) → Prop} (hc : X.calm = true) (hN : X.N.Nodup) (hy : X.N[i]? = some y) (hyl : X.env.scope.names.lookup y = some .local)
    (hsw : swapsWith (.ListComp elt (⟨tg, iter, ifs, 0⟩ :: rest) scope pos) (some (.Name y py)) spos.line X.env = pure true) (hi : PI X tg iter wi) (ok : BlkOk X.N X.env.scope scope own)
    (hp : ∀ (s : Shared) (H : Hp) (C : Addr) (cl : List (Str × Addr)) (fp : List Addr), PCl (X.blk s H scope (compEnvC scope cl C X.env) fp) elt (⟨tg, iter, ifs, 0⟩ :: rest) scope pos 0 tg (own.map (·.2)) t) (hs : ∀ x, foldedSetIterable iter X.env x = pure x := by intro _; rfl) :
    PS X (.Assign [.Name y py] (.ListComp elt (⟨tg, iter, ifs, 0⟩ :: rest) scope pos) spos) (tAsg (tLcN wi t (own.map (·.2))) (gName i)) := by
  refine ⟨fun pins s σ H D I h => ?_⟩
  rw [exec_Assign_Name_used _ _ _ _ hsw]
  refine wpAny_bind (wpAny_standAt (wpAny_bind ?_))
  show wpAny _ X.A (do let _ ← comprehension (.ListComp elt (⟨tg, iter, ifs, 0⟩ :: rest) scope pos) scope X.env (firstIterPos (⟨tg, iter, ifs, 0⟩ :: rest) pos) (newList []) false (eval iter X.env) (some (assign (.Name y py) X.env))) _ _ s
  have h : tLcN wi t (own.map (·.2)) σ H (fun x H1 => gName i x σ H1 D.nx) := h
  refine wpAny_bind (thn (lcN_core (Qf := fun _ s' => SP X pins D .next s') hc hN I hi ok hp hs h fun L C s' m H' I' q hn f => ?_) fun _ s' hq => wpAny_pure (wpAny_pure hq))
  show wpAny _ _ (assign (.Name y py) X.env (.ref L)) _ _ _
  refine wpAny_assign_Name (store_ok2 (v := V.ref L) I' hN hy (.inl hyl) rfl (fun s2 I2 ⟨a, sb, ha⟩ => ?_) (.inr hyl))
  obtain ⟨f0, f1, f2, f3, f4, f5⟩ := f
  have haC : C ≠ a := by
    rcases ha with z | z
    · rw [z]; exact f1
    · exact fun e => f4 y a z e.symm
  refine ⟨m, hn.sameBut sb haC, fun h3 sb3 => ?_⟩
  exact ⟨_, H', I2.turned (t' := s2.toks) (fun b o hb e => (sb3.2 b hb).trans e) f0 f1 f3 f4 f5, q⟩

/-- a clause's loop over a walk: Pv by the turn and the heap -/
theorem cl_it {J : It} {n : Nat} {G : Hp → Prop} {Yd : Nat → Hp → V → Hp → Prop} (w : Walk J n G Yd) {g : TG} {tt : TT} {vs : List Nat} {body : Addr → L2.St → Hp → (Hp → Prop) → Prop} {D : Addr} {σ : L2.St} {H : Hp} {Nx : Hp → Prop} (Pv : Nat → Hp → Prop) (h0 : Pv 0 H) (hG : ∀ i H, i ≤ n → Pv i H → G H)
    (hs : ∀ i x H H', i < n → Pv i H → Yd i H x H' → g x (wipe σ vs) H' fun σ2 H2 => wipe σ2 vs = wipe σ vs ∧ tt σ2 H2 fun b H3 => if b = true then body D σ2 H3 (Pv (i + 1)) else Pv (i + 1) H3) (hd : ∀ H, Pv n H → Nx H) :
    tCl g tt vs body J D σ H Nx := by
  refine ⟨fun i m H => m = n - i ∧ i ≤ n ∧ Pv i H, ⟨n, by simp, Nat.zero_le _, h0⟩, ?_⟩
  rintro i m H ⟨rfl, hi, p⟩
  have q := hG i H hi p
  by_cases hlt : i < n
  · exact .inr ⟨w.goes i H hlt q, Pv (i + 1), fun H' p' => ⟨n - (i + 1), by omega, rfl, hlt, p'⟩, fun x H' y => hs i x H H' hlt p (w.yields i H x H' hlt q y)⟩
  · have e : i = n := by omega
    subst e
    exact .inl ⟨w.stops H q, hd H p⟩
end Nf

set_option Elab.async false
set_option linter.all false
set_option maxRecDepth 100000
set_option maxHeartbeats 4000000
namespace Nf
open PySem PySem.Spec PyProof.Rows L2
/-! ### tuple(range(i, j, c)) -/
def rgC (i c : Int) (n : Nat) : List V := (List.range n).map fun (k : Nat) => .int (i + (k : Nat) * c)
def tTup3 (ta : TA) : TE := fun σ H Q => ta σ H fun vs H1 => ∃ (i j c : Int) (n : Nat), vs = [.int i, .int j, .int c] ∧ RgC i j c n ∧ n ≤ 2 ^ 24 ∧ ∀ q, H1 q = none → Q (.ref q) (upd H1 q (.tup (rgC i c n)))
theorem pe_tup3 {X : Cx} {a b c : Expr} {ta : TA} {p p2 q pos : Pos} (hg : Gl X "tuple") (hm : X.mg "tuple" = none) (hg2 : Gl X "range") (hm2 : X.mg "range" = none) (ha : PA X [a, b, c] ta) (hc : X.calm = true := by rfl)
    (na : starEach [a, b, c] X.env = (false, eval a X.env) :: starEach [b, c] X.env := by rfl) (nb : ((backTo q (starEach [b, c] X.env)).any fun x => x.1) = false := by rfl) : PE X (.Call (.Name "tuple" p) [.Call (.Name "range" p2) [a, b, c] [] q] [] pos) (tTup3 ta) := by
  refine ⟨fun pins s σ H Q I h => ?_⟩
  refine Call_ (ld_blt I hg hm (show bootBuiltins "tuple" = some (.type "tuple") by decide +kernel) ?_)
  refine PyProof.Rows.callWith_type1 (PyProof.Rows.args_cons ?_ rfl) rfl rfl
  refine Call_ (ld_blt I hg2 hm2 (show bootBuiltins "range" = some (.type "range") by decide +kernel) ?_)
  refine PyProof.Rows.callWith_type1 (thn (ha.run _ pins s σ H _ I h) fun us s1 hh => ?_) na nb
  obtain ⟨vs, H1, I1, r1, i, j, c, n, rfl, hC, hn, q1⟩ := hh
  obtain ⟨m, fr⟩ := I1.fr
  cases r1 with
  | cons ra rt =>
    cases rt with
    | cons rb rt =>
      cases rt with
      | cons rc rt =>
        cases rt
        obtain ⟨t1, rfl⟩ := ra
        obtain ⟨t2, rfl⟩ := rb
        obtain ⟨t3, rfl⟩ := rc
        obtain ⟨c0, c1, c2, c3⟩ := hC
        have hdv : PySem.Builtin.divisionGoesByPylong (j - i) c = false := by
          have h1 : c.natAbs.log2 < 30 := (Nat.log2_lt (by omega)).mpr (by omega)
          unfold PySem.Builtin.divisionGoesByPylong
          have h2 : (if (c == 0) = true then 0 else c.natAbs.log2 / 30 + 1) ≤ 1 := by
            split <;> omega
          simp only [Bool.and_eq_false_iff, decide_eq_false_iff_not]
          exact .inl (by omega)
        refine PyProof.Rows.range3_rows (news := []) fr (fun p hp => by cases hp) c0 (fun h' tk u1 u2 u3 hr _ _ hk => ?_) (.inl hdv)
        refine PyProof.Rows.args_nil ?_
        have I2 : Inv X pins σ H1 { s1 with heap := h', toks := tk } := I1.kept hk
        refine call_tuple_range (I1.ok.hd hc) hr c2 c3 hn fun h2 tk2 acc hk2 hacc => ?_
        have I3 : Inv X pins σ H1 { s1 with heap := h2, toks := tk2 } := I2.kept hk2
        have hv : Vals (rgC i c n) acc.toList := by
          refine vals_of_at ?_ fun k x u h1 h2 => ?_
          · unfold rgC
            rw [List.length_map, List.length_range, Array.length_toList, hacc.1]
          · unfold rgC at h1
            rw [List.getElem?_map] at h1
            obtain ⟨k', hk', rfl⟩ := Option.map_eq_some_iff.mp h1
            have hkn : k < n := by
              have := (List.getElem?_eq_some_iff.mp hk').1
              rwa [List.length_range] at this
            rw [List.getElem?_range hkn] at hk'
            cases hk'
            obtain ⟨t, rfl⟩ := hacc.2 k u (by rw [← Array.getElem?_toList]; exact h2)
            exact ⟨t, rfl⟩
        have hz : n ≤ sizeLine := by
          rw [sizeLine_eq]
          exact hn
        have hl : (rgC i c n).length ≤ sizeLine := by
          unfold rgC
          rw [List.length_map, List.length_range]
          exact hz
        have ob : ObjOk X.prog X.w (upd H1 h2.objs.size (.tup (rgC i c n))) (h2.push { cls := .type "tuple", data := .seq acc }) h2.objs.size (.tup (rgC i c n)) :=
          ⟨hl, acc.toList, hv, ⟨_, Heap.get?_push_at rfl rfl, rfl, _, rfl⟩⟩
        exact ⟨.ref h2.objs.size, _, I3.laid (t' := tk2) (fun b o e => Heap.get?_push_of_some _ e) (Nat.le_refl _) ob, rfl, q1 _ (I3.hok.fresh (Nat.le_refl _))⟩
end Nf

set_option Elab.async false
set_option linter.all false
set_option maxRecDepth 100000
set_option maxHeartbeats 4000000
namespace Nf
open PySem PySem.Spec PyProof.Rows L2

/-! ### the built-ins that stand as they are -/
structure Blt (mg : Str → Option Value) : Prop where
  len : mg "len" = none
  all : mg "all" = none
  zip : mg "zip" = none
  set : mg "set" = none
  sorted : mg "sorted" = none
  enumerate : mg "enumerate" = none
  list : mg "list" = none
  tuple : mg "tuple" = none
  range : mg "range" = none
  isinstance : mg "isinstance" = none
  min : mg "min" = none
  max : mg "max" = none
  int : mg "int" = none
  bool : mg "bool" = none
  str : mg "str" = none

theorem two_le : 2 ≤ sizeLine := by decide
theorem five_le : 5 ≤ sizeLine := by decide
/-! ### heaps -/
/-- tuples stay -/
def SameT (H H' : Hp) : Prop := ∀ a xs, H a = some (.tup xs) → H' a = some (.tup xs)
theorem SameT.refl (H : Hp) : SameT H H := fun _ _ e => e
theorem SameT.trans {H H1 H2 : Hp} (a : SameT H H1) (b : SameT H1 H2) : SameT H H2 := fun _ _ e => b _ _ (a _ _ e)
theorem same_toT {H H' : Hp} (h : Same H H') : SameT H H' := fun a xs e => h a _ e
theorem same_new {H : Hp} {p : Addr} {o : HO} (h : H p = none) : Same H (upd H p o) := fun b x e => by
  rw [upd_ne (ne_of_none e h)]
  exact e
/-- what was not there before may change -/
theorem same_put {H H' : Hp} {p : Addr} {o : HO} (s : Same H H') (h : H p = none) : Same H (upd H' p o) := fun b x e => by
  rw [upd_ne (ne_of_none e h)]
  exact s _ _ e
theorem yesT {σ : L2.St} {H : Hp} {A B : Hp → Prop} (h : A H) : tYes σ H fun b H3 => if b = true then A H3 else B H3 := by
  show if true = true then A H else B H
  exact iteT h
/-- all but r stays -/
def Sx (r : Addr) (H H' : Hp) : Prop := ∀ b o, b ≠ r → H b = some o → H' b = some o
theorem Sx.refl (r : Addr) (H : Hp) : Sx r H H := fun _ _ _ e => e
theorem Sx.trans {r : Addr} {H H1 H2 : Hp} (a : Sx r H H1) (b : Sx r H1 H2) : Sx r H H2 := fun c o n e => b c o n (a c o n e)
theorem same_sx {r : Addr} {H H' : Hp} (h : Same H H') : Sx r H H' := fun b o _ e => h b o e
theorem Sx.upd {r : Addr} {H : Hp} {o : HO} : Sx r H (upd H r o) := fun b x n e => by
  rw [upd_ne n]
  exact e
theorem Sx.toT {r : Addr} {H H' : Hp} {xs : List V} (h : Sx r H H') (hr : H r = some (.lst xs)) : SameT H H' := fun a ys e => h a _ (ne_of e hr (by intro z; cases z)) e
theorem Sx.seq {K : PySem.W.Frag} {r a : Addr} {H H' : Hp} {xs : List V} (h : Sx r H H') (n : a ≠ r) (q : SqL K H a xs) : SqL K H' a xs := by
  rcases q with (q | ⟨o, q⟩) | q
  · exact .inl (.inl (h _ _ n q))
  · exact .inl (.inr ⟨o, h _ _ n q⟩)
  · exact .inr q

/-! ### the slots of a comprehension -/
theorem wipe_get {σ : L2.St} : ∀ {vs : List Nat} {j : Nat}, (wipe σ vs)[j]? = if j ∈ vs ∧ j < σ.length then some none else σ[j]?
  | [], j => by simp [wipe]
  | v :: vs, j => by
    unfold wipe
    by_cases h : v = j
    · subst h
      by_cases hl : v < σ.length
      · rw [List.getElem?_set_self (by rw [wipe_length]; exact hl), if_pos ⟨List.mem_cons_self, hl⟩]
      · rw [if_neg (fun z => hl z.2), List.getElem?_eq_none (by simp [wipe_length]; omega), List.getElem?_eq_none (by omega)]
    · rw [List.getElem?_set_ne h, wipe_get]
      have e : (j ∈ v :: vs ∧ j < σ.length) ↔ (j ∈ vs ∧ j < σ.length) := by
        simp only [List.mem_cons]
        constructor
        · rintro ⟨z | z, q⟩
          · exact absurd z.symm h
          · exact ⟨z, q⟩
        · rintro ⟨z, q⟩
          exact ⟨.inr z, q⟩
      simp only [e]
theorem wipe_eq {σ σ' : L2.St} {vs : List Nat} (hl : σ'.length = σ.length) (h : ∀ j, j ∉ vs → σ'[j]? = σ[j]?) : wipe σ' vs = wipe σ vs := by
  refine List.ext_getElem? fun j => ?_
  rw [wipe_get, wipe_get, hl]
  by_cases hj : j ∈ vs ∧ j < σ.length
  · rw [if_pos hj, if_pos hj]
  · rw [if_neg hj, if_neg hj]
    by_cases hm : j ∈ vs
    · have : ¬ j < σ.length := fun z => hj ⟨hm, z⟩
      rw [List.getElem?_eq_none (by omega), List.getElem?_eq_none (by omega)]
    · exact h j hm
theorem wipe_put {σ : L2.St} {vs : List Nat} {i : Nat} {x : Option V} (hi : i ∈ vs) : wipe ((wipe σ vs).set i x) vs = wipe σ vs := by
  refine wipe_eq (by rw [List.length_set, wipe_length]) fun j hj => ?_
  have ne : i ≠ j := by
    intro e
    exact hj (e ▸ hi)
  rw [List.getElem?_set_ne ne, wipe_get, if_neg fun z => hj z.1]
theorem wipe_put2 {σ : L2.St} {vs : List Nat} {i k : Nat} {x y : Option V} (hi : i ∈ vs) (hk : k ∈ vs) : wipe (((wipe σ vs).set i x).set k y) vs = wipe σ vs := by
  refine wipe_eq (by rw [List.length_set, List.length_set, wipe_length]) fun j hj => ?_
  have ne : i ≠ j := by
    intro e
    exact hj (e ▸ hi)
  have nk : k ≠ j := by
    intro e
    exact hj (e ▸ hk)
  rw [List.getElem?_set_ne nk, List.getElem?_set_ne ne, wipe_get, if_neg fun z => hj z.1]
/-! ### tables, rounds -/
def TabV (H : Hp) (x : V) (t : Tbl) : Prop := ∃ a, x = .ref a ∧ H a = some (.tup (t.map V.int))
def RndV (H : Hp) (x : V) (r : Rnd) : Prop := ∃ a xs, x = .ref a ∧ H a = some (.tup xs) ∧ Paired (TabV H) xs r
theorem TabV.mono {H H' : Hp} {x : V} {t : Tbl} (h : TabV H x t) (s : SameT H H') : TabV H' x t := by
  obtain ⟨a, e, q⟩ := h
  exact ⟨a, e, s _ _ q⟩
theorem paired_mono {α β : Type} {R R' : α → β → Prop} (f : ∀ a b, R a b → R' a b) : ∀ {xs : List α} {ys : List β}, Paired R xs ys → Paired R' xs ys
  | _, _, .nil => .nil
  | _, _, .cons r t => .cons (f _ _ r) (paired_mono f t)
theorem RndV.mono {H H' : Hp} {x : V} {r : Rnd} (h : RndV H x r) (s : SameT H H') : RndV H' x r := by
  obtain ⟨a, xs, e, q, p⟩ := h
  exact ⟨a, xs, e, s _ _ q, paired_mono (fun _ _ z => z.mono s) p⟩
def PairV (H : Hp) (x : V) (p : Int × Int) : Prop := ∃ a, x = .ref a ∧ H a = some (.tup [.int p.1, .int p.2])
theorem PairV.mono {H H' : Hp} {x : V} {t : Int × Int} (h : PairV H x t) (s : SameT H H') : PairV H' x t := by
  obtain ⟨a, e, q⟩ := h
  exact ⟨a, e, s _ _ q⟩
theorem paired_get {α β : Type} {R : α → β → Prop} : ∀ {xs : List α} {ys : List β} {i : Nat} {y : β}, Paired R xs ys → ys[i]? = some y → ∃ x, xs[i]? = some x ∧ R x y
  | _, _, i, y, .nil, e => by simp at e
  | _, _, 0, y, .cons r _, e => by
    have e' := Option.some.inj e
    subst e'
    exact ⟨_, rfl, r⟩
  | _, _, i + 1, y, .cons _ t, e => by
    obtain ⟨x, h1, h2⟩ := paired_get (i := i) (y := y) t (by simpa using e)
    exact ⟨x, by simpa using h1, h2⟩
theorem paired_getL {α β : Type} {R : α → β → Prop} : ∀ {xs : List α} {ys : List β} {i : Nat} {x : α}, Paired R xs ys → xs[i]? = some x → ∃ y, ys[i]? = some y ∧ R x y
  | _, _, i, y, .nil, e => by simp at e
  | _, _, 0, y, .cons r _, e => by
    have e' := Option.some.inj e
    subst e'
    exact ⟨_, rfl, r⟩
  | _, _, i + 1, y, .cons _ t, e => by
    obtain ⟨x, h1, h2⟩ := paired_getL (i := i) (x := y) t (by simpa using e)
    exact ⟨x, by simpa using h1, h2⟩
theorem paired_len {α β : Type} {R : α → β → Prop} : ∀ {xs : List α} {ys : List β}, Paired R xs ys → xs.length = ys.length
  | _, _, .nil => rfl
  | _, _, .cons _ t => by simp [paired_len t]
theorem paired_snoc {α β : Type} {R : α → β → Prop} {x : α} {y : β} : ∀ {xs : List α} {ys : List β}, Paired R xs ys → R x y → Paired R (xs ++ [x]) (ys ++ [y])
  | _, _, .nil, r => .cons r .nil
  | _, _, .cons q t, r => .cons q (paired_snoc t r)
theorem sqt_same {K : PySem.W.Frag} {H H' : Hp} {a : Addr} {xs : List V} (h : SqT K H a xs) (s : Same H H') : SqT K H' a xs := by
  rcases h with (h | ⟨o, h⟩) | h
  · exact .inl (.inl (s _ _ h))
  · exact .inl (.inr ⟨o, s _ _ h⟩)
  · exact .inr h
theorem getElem?_int {ns : List Int} {i : Nat} {x : V} (h : (ns.map V.int)[i]? = some x) : ∃ n, ns[i]? = some n ∧ x = .int n := by
  rw [List.getElem?_map] at h
  cases e : ns[i]? with
  | none =>
    rw [e] at h
    cases h
  | some n =>
    rw [e] at h
    exact ⟨n, rfl, (Option.some.inj h).symm⟩
theorem int_getElem? {ns : List Int} {i : Nat} {n : Int} (h : ns[i]? = some n) : (ns.map V.int)[i]? = some (.int n) := by
  rw [List.getElem?_map, h]
  rfl

/-! ### the script's row of draws -/
structure RowAt (K : PySem.W.Frag) (H : Hp) (r a : Addr) (ns : List Int) : Prop where
  sc : SqL K H a (ns.map V.int)
  ne : a ≠ r ∨ ∀ H2 : Hp, SqL K H2 a (ns.map V.int)
  row : ∃ i s c : Int, H r = some (.lst [.ref a, .int i, .int s, .int c]) ∧ 0 ≤ i ∧ 0 ≤ s ∧ s < 2147483647
theorem RowAt.keep {K : PySem.W.Frag} {H H' : Hp} {r a : Addr} {ns : List Int} (h : RowAt K H r a ns) (s : Same H H') : RowAt K H' r a ns := by
  obtain ⟨i, z, c, e, q⟩ := h.row
  exact ⟨s.seq h.sc, h.ne, i, z, c, s _ _ e, q⟩
/-- a row that was just laid -/
theorem RowAt.new {K : PySem.W.Frag} {H : Hp} {r a : Addr} {ns : List Int} (h : SqL K H a (ns.map V.int)) (n : H r = none) : RowAt K (upd H r (.lst [.ref a, .int 0, .int 0, .int 0])) r a ns := by
  refine ⟨(same_new n).seq h, ?_, 0, 0, 0, upd_same, by decide, by decide, by decide⟩
  rcases h with (h | ⟨o, h⟩) | h
  · exact .inl (ne_of_none h n)
  · exact .inl (ne_of_none h n)
  · exact .inr fun _ => .inr h
theorem RowAt.lst {K : PySem.W.Frag} {H : Hp} {r a : Addr} {ns : List Int} (h : RowAt K H r a ns) : ∃ xs, H r = some (.lst xs) := by
  obtain ⟨i, z, c, e, _⟩ := h.row
  exact ⟨_, e⟩
theorem RowAt.set {K : PySem.W.Frag} {H : Hp} {r a : Addr} {ns : List Int} (h : RowAt K H r a ns) {i s c : Int} (hi : 0 ≤ i) (h0 : 0 ≤ s) (h1 : s < 2147483647) : RowAt K (upd H r (.lst [.ref a, .int i, .int s, .int c])) r a ns :=
  ⟨h.ne.elim (fun n => Sx.upd.seq n h.sc) (fun z => z _), h.ne, i, s, c, upd_same, hi, h0, h1⟩
end Nf

set_option Elab.async false
set_option linter.all false
set_option maxRecDepth 100000
set_option maxHeartbeats 4000000
namespace Nf
open PySem PySem.Spec PyProof.Rows L2
/-! ### the text by places -/
def topS (i : Nat) : Stmt := PySem.Challenge.pw_newfaces_k06_rounds_turned.main.body.getD i (.Pass ⟨0, 0, 0, 0⟩)
abbrev cBadRound : Stmt := topS 3
abbrev sBRInit : Stmt := inClass cBadRound 0
abbrev sCheck : Stmt := topS 7
abbrev sIsRound : Stmt := topS 8
abbrev sIsTable : Stmt := topS 9
abbrev sRises : Stmt := topS 10
abbrev sPairs : Stmt := topS 11
abbrev sTurned : Stmt := topS 13
abbrev sTurns : Stmt := topS 14
abbrev sCheckTurn : Stmt := topS 15
abbrev sReplaced : Stmt := topS 16
abbrev cParty : Stmt := topS 22
abbrev sInit : Stmt := inClass cParty 0
abbrev sGuests : Stmt := inClass cParty 1
abbrev sSize : Stmt := inClass cParty 2
abbrev sTables : Stmt := inClass cParty 3
abbrev sIsParty : Stmt := topS 23
abbrev lTaken : Stmt := topS 25
abbrev lAlike : Stmt := topS 26
abbrev lFew : Stmt := topS 27
abbrev lMany : Stmt := topS 28
abbrev lMixed : Stmt := topS 29
abbrev lSeated : Stmt := topS 30
abbrev lPairs : Stmt := topS 31
abbrev lKnown : Stmt := topS 32
abbrev lThin : Stmt := topS 33
abbrev lMoved : Stmt := topS 34
abbrev lTurning : Stmt := topS 35
abbrev lOdd : Stmt := topS 36
abbrev lManyTurns : Stmt := topS 37
abbrev lWord : Stmt := topS 38
abbrev lLaw : Stmt := topS 39
end Nf

set_option Elab.async false
set_option linter.all false
set_option maxRecDepth 100000
set_option maxHeartbeats 4000000
namespace Nf
open PySem PySem.Spec PyProof.Rows L2
/-! ### what is known of pairs, in a dict; a verdict as a value -/
def KnownD (H : Hp) (d : Addr) (kn : Known) (N : Nat) : Prop := ∃ kvs : List (List Key × V), H d = some (.dT kvs) ∧ kvs.length ≤ N ∧ ∀ a b : Int, valV kvs [Sum.inl a, Sum.inl b] = (kn a b).map fun k => V.int (k : Nat)
theorem knownD_same {H H' : Hp} {d : Addr} {kn : Known} {N : Nat} (h : KnownD H d kn N) (s : Same H H') : KnownD H' d kn N := by
  obtain ⟨kvs, e, q⟩ := h
  exact ⟨kvs, s _ _ e, q⟩
theorem knownD_new {H : Hp} {d : Addr} (h : H d = some (.dT [])) : KnownD H d k0 0 := ⟨[], h, Nat.le_refl _, fun _ _ => rfl⟩
theorem key2_ne {a b x y : Int} : (([Sum.inl a, Sum.inl b] : List Key) = [Sum.inl x, Sum.inl y]) ↔ (a = x ∧ b = y) := by
  constructor
  · intro h
    injection h with h1 h2
    injection h2 with h2 _
    exact ⟨Sum.inl.inj h1, Sum.inl.inj h2⟩
  · rintro ⟨rfl, rfl⟩
    rfl
/-- d[(x, y)] = k -/
theorem knownD_put {H : Hp} {d T : Addr} {kn : Known} {N : Nat} {x y : Int} {l : List (Int × Int)} {k : Nat} (h : KnownD H d (kaddL kn l k) N) (hT : H T = some (.tup [.int x, .int y])) (hN : N < sizeLine) :
    ∃ kvs', DPut H d (.ref T) (.int (k : Nat)) (upd H d (.dT kvs')) ∧ KnownD (upd H d (.dT kvs')) d (kaddL kn (l ++ [(x, y)]) k) (N + 1) := by
  obtain ⟨kvs, e, hl, hv⟩ := h
  refine ⟨putK kvs [Sum.inl x, Sum.inl y] (.int (k : Nat)), DPut.t (k := [Sum.inl x, Sum.inl y]) e hT (by omega), _, upd_same, ?_, fun a b => ?_⟩
  · have := length_putK kvs [Sum.inl x, Sum.inl y] (.int (k : Nat))
    omega
  · rw [valV_put, kaddL_snoc, hv]
    by_cases h : a = x ∧ b = y
    · rw [if_pos h, if_pos (key2_ne.mpr h)]
      rfl
    · rw [if_neg h, if_neg (fun z => h (key2_ne.mp z))]
def VerdV (H : Hp) (x : V) : Verd → Prop
  | .good => x = .non
  | .rnd k => ∃ q, x = .ref q ∧ H q = some (.tup [.str "round", .int (k : Nat)])
  | .twice a b j k => ∃ q, x = .ref q ∧ H q = some (.tup [.str "twice", .int a, .int b, .int (j : Nat), .int (k : Nat)])
def PlanV (K : PySem.W.Frag) (H : Hp) (l : Addr) (rs : List Rnd) : Prop := ∃ xs, SqL K H l xs ∧ Paired (RndV H) xs rs
theorem planV_same {K : PySem.W.Frag} {H H' : Hp} {l : Addr} {rs : List Rnd} (h : PlanV K H l rs) (s : Same H H') : PlanV K H' l rs := by
  obtain ⟨xs, e, q⟩ := h
  exact ⟨xs, s.seq e, paired_mono (fun _ _ z => z.mono (same_toT s)) q⟩
structure Small (rs : List Rnd) : Prop where
  n : rs.length ≤ 1000
  r : ∀ r ∈ rs, r.length ≤ 100000
  t : ∀ r ∈ rs, ∀ t ∈ r, t.length ≤ 100000
end Nf

set_option Elab.async false
set_option linter.all false
set_option maxRecDepth 100000
set_option maxHeartbeats 4000000
namespace Nf
open PySem PySem.Spec PyProof.Rows L2
/-! ### tables and rounds as data -/
def dT (t : Tbl) : PyData := .tuple (t.map .int)
theorem eqvInts : ∀ {xs ys : List Int}, PyData.eqvAll (xs.map .int) (ys.map .int) = true ↔ xs = ys
  | [], [] => by simp [PyData.eqvAll]
  | [], _ :: _ => by simp [PyData.eqvAll]
  | _ :: _, [] => by simp [PyData.eqvAll]
  | x :: xs, y :: ys => by
    have ih := eqvInts (xs := xs) (ys := ys)
    simp only [List.map_cons, PyData.eqvAll, PyData.eqv, Bool.and_eq_true, ih, beq_iff_eq, List.cons.injEq]
theorem eqvTabs : ∀ {xs ys : List Tbl}, PyData.eqvAll (xs.map dT) (ys.map dT) = true ↔ xs = ys
  | [], [] => by simp [PyData.eqvAll]
  | [], _ :: _ => by simp [PyData.eqvAll]
  | _ :: _, [] => by simp [PyData.eqvAll]
  | x :: xs, y :: ys => by
    have ih := eqvTabs (xs := xs) (ys := ys)
    simp only [List.map_cons, PyData.eqvAll, dT, PyData.eqv, Bool.and_eq_true, eqvInts, List.cons.injEq]
    have ih : PyData.eqvAll (xs.map dT) (ys.map dT) = true ↔ xs = ys := ih
    exact and_congr Iff.rfl ih
theorem eqvRnds : ∀ {xs ys : List Rnd}, PyData.eqvAll (xs.map fun r => .tuple (r.map dT)) (ys.map fun r => .tuple (r.map dT)) = true ↔ xs = ys
  | [], [] => by simp [PyData.eqvAll]
  | [], _ :: _ => by simp [PyData.eqvAll]
  | _ :: _, [] => by simp [PyData.eqvAll]
  | x :: xs, y :: ys => by
    have ih := eqvRnds (xs := xs) (ys := ys)
    simp only [List.map_cons, PyData.eqvAll, PyData.eqv, Bool.and_eq_true, eqvTabs, List.cons.injEq, ih]
theorem layInts : ∀ xs : List Int, PyData.canLayAll0 (xs.map .int) = true
  | [] => rfl
  | x :: xs => by simp [PyData.canLayAll0, PyData.canLay0, layInts xs]
theorem layTabs : ∀ xs : List Tbl, PyData.canLayAll0 (xs.map dT) = true
  | [] => rfl
  | x :: xs => by simp [PyData.canLayAll0, PyData.canLay0, layTabs xs, dT, layInts]
theorem layRnds : ∀ xs : List Rnd, PyData.canLayAll0 (xs.map fun r => .tuple (r.map dT)) = true
  | [] => rfl
  | x :: xs => by simp [PyData.canLayAll0, PyData.canLay0, layRnds xs, layTabs]
theorem depInts (xs : List Int) : PyData.depthAll (xs.map .int) = 0 := PySem.W.depth_ints xs
theorem depT (t : Tbl) : (dT t).depth ≤ 1 := by
  unfold dT
  simp [PyData.depth, depInts]
theorem depTabs : ∀ xs : List Tbl, PyData.depthAll (xs.map dT) ≤ 1
  | [] => by simp [PyData.depthAll]
  | x :: xs => by
    have := depTabs xs
    have := depT x
    simp only [List.map_cons, PyData.depthAll]
    omega
theorem depRnds : ∀ xs : List Rnd, PyData.depthAll (xs.map fun r => .tuple (r.map dT)) ≤ 2
  | [] => by simp [PyData.depthAll]
  | x :: xs => by
    have := depRnds xs
    have := depTabs x
    simp only [List.map_cons, PyData.depthAll, PyData.depth]
    omega
theorem shInts (xs : List Int) : SeqAt.shaped (.list (xs.map .int)) = true := by
  have h := depInts xs
  have l := layInts xs
  unfold SeqAt.shaped
  rw [Bool.and_eq_true]
  refine ⟨by simp [PyData.canLay0, l], decide_eq_true ?_⟩
  simp only [PyData.depth]
  omega
theorem shIntsT (xs : List Int) : SeqAt.shaped (.tuple (xs.map .int)) = true := by
  have h := depInts xs
  have l := layInts xs
  unfold SeqAt.shaped
  rw [Bool.and_eq_true]
  refine ⟨by simp [PyData.canLay0, l], decide_eq_true ?_⟩
  simp only [PyData.depth]
  omega
theorem shTabs (xs : List Tbl) : SeqAt.shaped (.list (xs.map dT)) = true := by
  have h := depTabs xs
  have l := layTabs xs
  unfold SeqAt.shaped
  rw [Bool.and_eq_true]
  refine ⟨by simp [PyData.canLay0, l], decide_eq_true ?_⟩
  simp only [PyData.depth]
  omega
theorem shRnds (xs : List Rnd) : SeqAt.shaped (.list (xs.map fun r => .tuple (r.map dT))) = true := by
  have h := depRnds xs
  have l := layRnds xs
  unfold SeqAt.shaped
  rw [Bool.and_eq_true]
  refine ⟨by simp [PyData.canLay0, l], decide_eq_true ?_⟩
  simp only [PyData.depth]
  omega
section
variable {K : PySem.W.Frag} {H : Hp}
theorem dpAll_ints : ∀ ns : List Int, DpAll K H (ns.map V.int) (ns.map .int)
  | [] => .nil
  | n :: ns => .cons (.int n) (dpAll_ints ns)
theorem dp_tab {x : V} {t : Tbl} (h : TabV H x t) : Dp K H x (dT t) := by
  obtain ⟨a, rfl, e⟩ := h
  exact .tup (SqT.of e) (dpAll_ints t)
theorem dpAll_of {β : Type} {R : V → β → Prop} {enc : β → PyData} (f : ∀ x b, R x b → Dp K H x (enc b)) : ∀ {xs : List V} {bs : List β}, Paired R xs bs → DpAll K H xs (bs.map enc)
  | _, _, .nil => .nil
  | _, _, .cons r t => .cons (f _ _ r) (dpAll_of f t)
theorem dp_rnd {x : V} {r : Rnd} (h : RndV H x r) : Dp K H x (.tuple (r.map dT)) := by
  obtain ⟨a, xs, rfl, e, p⟩ := h
  exact .tup (SqT.of e) (dpAll_of (fun _ _ z => dp_tab z) p)
theorem dp_lst {β : Type} {R : V → β → Prop} {enc : β → PyData} (f : ∀ x b, R x b → Dp K H x (enc b)) {a : Addr} {xs : List V} {bs : List β} (h : SqL K H a xs) (p : Paired R xs bs) : Dp K H (.ref a) (.list (bs.map enc)) := .lst h (dpAll_of f p)
end
/-! ### sorted -/
theorem dataLe_ints : PySem.W.dataLe false (fun i : Int => PyData.int i) = leI := PySem.W.dataLe_int fun i => i
theorem dataLe_tabs : PySem.W.dataLe false dT = leT := by
  funext p q
  show (!PySem.W.dataLt (.tuple (q.map .int)) (.tuple (p.map .int))) = _
  rw [PySem.W.dataLt_tuple]
  show (!PySem.W.rowLt (q.map .int) (p.map .int)) = _
  rw [PySem.W.dataLt_ints]
  unfold leT
  by_cases h : q < p
  · have h' : ¬ p ≤ q := fun z => (List.not_lt.mpr z) h
    simp [h, h']
  · have h' : p ≤ q := List.not_lt.mp h
    simp [h, h']
theorem alikeTabs (rs : List Tbl) : PySem.W.AllAlike (rs.map dT) := PySem.W.AllAlike.of fun b b' => by
  show PySem.W.alike (.tuple _) (.tuple _) = true
  simp [PySem.W.alike, PySem.W.alike_ints]
theorem alikeInts (ns : List Int) : PySem.W.AllAlike (ns.map fun i : Int => PyData.int i) := PySem.W.AllAlike.of fun b b' => by simp [PySem.W.alike]
section
variable {K : PySem.W.Frag} {H : Hp} {Q : VK} {a : Addr}
theorem paired_ints : ∀ ns : List Int, Paired (fun x (n : Int) => x = V.int n) (ns.map V.int) ns
  | [] => .nil
  | n :: ns => .cons rfl (paired_ints ns)
theorem ints_paired : ∀ {xs : List V} {ns : List Int}, Paired (fun x (n : Int) => x = V.int n) xs ns → xs = ns.map V.int
  | _, _, .nil => rfl
  | _, _, .cons r t => by
    rw [r, ints_paired t]
    rfl
theorem sort_ints {ns : List Int} (hl : SqL K H a (ns.map V.int) ∨ SqT K H a (ns.map V.int)) (q : ∀ p, H p = none → Q (.ref p) (upd H p (.lst ((sortI ns).map V.int)))) : rSortD K (fun i : Int => PyData.int i) [.ref a] H Q := by
  refine ⟨a, ns.map V.int, ns, fun x n => x = V.int n, rfl, hl, paired_ints ns, fun x b h => h ▸ .int b, alikeInts ns, PySem.W.Sortable.others fun b => ⟨(fun e => nomatch e), fun xs e => nomatch e⟩, fun b _ => by simp [PyData.depth], fun ys p hy hn => ?_⟩
  rw [dataLe_ints] at hy
  rw [ints_paired hy]
  exact q p hn
theorem sort_tabs {xs : List V} {r : Rnd} (hl : SqL K H a xs ∨ SqT K H a xs) (hp : Paired (TabV H) xs r) (hn : ∀ t ∈ r, t ≠ []) (q : ∀ ys p, H p = none → Paired (TabV H) ys (sortT r) → Q (.ref p) (upd H p (.lst ys))) : rSortD K dT [.ref a] H Q := by
  refine ⟨a, xs, r, TabV H, rfl, hl, hp, fun x b h => dp_tab h, alikeTabs r, .inl fun d hd => ?_, fun b _ => Nat.le_trans (depT b) (by decide), fun ys p hy hn => ?_⟩
  · obtain ⟨t, ht, rfl⟩ := List.mem_map.mp hd
    cases t with
    | nil => exact absurd rfl (hn _ ht)
    | cons x t => exact ⟨_, _, rfl⟩
  · rw [dataLe_tabs] at hy
    exact q ys p hn hy
end
/-! ### what was not there before may change -/
theorem sx_put {r c : Addr} {H H4 : Hp} {o : HO} (s : Sx r H H4) (hc : H c = none) : Sx r H (upd H4 c o) := fun b x n e => by
  rw [upd_ne (ne_of_none e hc)]
  exact s b x n e
theorem row_put {K : PySem.W.Frag} {H H4 : Hp} {r a c : Addr} {ns : List Int} {o : HO} (R0 : RowAt K H r a ns) (hc : H c = none) (R4 : RowAt K H4 r a ns) : RowAt K (upd H4 c o) r a ns := by
  obtain ⟨i, z, x, e, q⟩ := R4.row
  obtain ⟨xr, hxr⟩ := R0.lst
  refine ⟨?_, R4.ne, i, z, x, by rw [upd_ne (ne_of_none hxr hc)]; exact e, q⟩
  have go : a ≠ c → SqL K (upd H4 c o) a (ns.map V.int) := fun n => by
    rcases R4.sc with (h | ⟨ob, h⟩) | h
    · exact .inl (.inl (by rw [upd_ne n]; exact h))
    · exact .inl (.inr ⟨ob, by rw [upd_ne n]; exact h⟩)
    · exact .inr h
  rcases R0.sc with (h | ⟨ob, h⟩) | h
  · exact go (ne_of_none h hc)
  · exact go (ne_of_none h hc)
  · exact .inr h
theorem perm_erase : ∀ {l : List Int} {i : Nat} (h : i < l.length), (l[i] :: l.eraseIdx i).Perm l
  | [], _, h => by simp at h
  | x :: l, 0, _ => .refl _
  | x :: l, i + 1, h => by
    have ih := perm_erase (l := l) (i := i) (by simpa using h)
    show (l[i]'(by simpa using h) :: x :: l.eraseIdx i).Perm (x :: l)
    exact (List.Perm.swap _ _ _).trans (ih.cons x)
end Nf

set_option Elab.async false
set_option linter.all false
set_option maxRecDepth 100000
set_option maxHeartbeats 4000000
namespace Nf
open PySem PySem.Spec PyProof.Rows L2
variable {P : Program} {w : World} {K : PySem.W.Frag} {mg : Str → Option Value} {base : Heap}
theorem scTaken : FnScope ["_law_row", "_law_many_here", "_law_found", "_law_cell"] ["_law_row", "_law_many_here"] (defScope lTaken) := ⟨rfl, rfl, rfl, by decide +kernel, rfl, by decide +kernel, by decide +kernel⟩
def spTaken (K : PySem.W.Frag) : Sp := fun vs H Q _ => ∃ (r a : Addr) (ns : List Int) (n : Int), vs = [.ref r, .int n] ∧ RowAt K H r a ns ∧ 0 < n ∧ n < 1073741824 ∧
  ∀ v H', 0 ≤ v → v < n → RowAt K H' r a ns → Sx r H H' → Q (.int v) H'
theorem ok_taken {f : Addr} {fd : FuncData} (F : Fun K "_law_taken" "_law_taken" lTaken f fd) (B : Blt mg) : FnOk P w K mg base CX0 1 f fd ["_law_row", "_law_many_here"] (spTaken K) := by
  refine F.ok scTaken (fun vs H Q E h => ?_) (fun cdv A outer s H vs Q E hr h => ?_)
  · obtain ⟨r, a, ns, n, rfl, _⟩ := h
    rfl
  · obtain ⟨r, a, ns, n, rfl, hR, hn0, hn1, q⟩ := h
    refine ⟨_, pss_cons (ps_if (pt_cmpR op_gt (pe_ix ix_list (pv 0) pe_int (fun _ _ => rfl)) pe_int (nomark _))
        (pss_cons (ps_set (i := 2) scTaken.nd rfl (.inl rfl) (pe_op op_mod (pe_ix ix_list (pv 0) pe_int (fun _ _ => rfl)) (pv 1)))
        (pss_cons (ps_asg (pe_op op_fdiv (pe_ix ix_list (pv 0) pe_int (fun _ _ => rfl)) (pv 1)) (pg_sub (pv 0) pe_int set_list))
        (pss_one (ps_ret (pv 2))))) pss_nil)
      (pss_cons (ps_asg (pe_op op_add (pe_ix ix_list (pv 0) pe_int (fun _ _ => rfl)) pe_int) (pg_sub (pv 0) pe_int set_list))
      (pss_cons (ps_if (pt_cmpR op_gt (pe_ix ix_list (pv 0) pe_int (fun _ _ => rfl)) (pe_callB call_len_seq (by rfl) B.len PySem.boot_len (pa_cons (pe_ix ix_list (pv 0) pe_int (fun _ _ => rfl)) pa_nil)) (nomark _))
        (pss_cons (ps_asg (pe_op op_mod (pe_op op_add (pe_op op_mul (pe_ix ix_list (pv 0) pe_int (fun _ _ => rfl)) pe_int) pe_int) pe_int) (pg_sub (pv 0) pe_int set_list))
        (pss_one (ps_ret (pe_op op_mod (pe_op op_fdiv (pe_ix ix_list (pv 0) pe_int (fun _ _ => rfl)) pe_int) (pv 1))))) pss_nil)
      (pss_cons (ps_set (i := 3) scTaken.nd rfl (.inl rfl) (pe_ix ix_list (pe_ix ix_list (pv 0) pe_int (fun _ _ => rfl)) (pe_op op_sub (pe_ix ix_list (pv 0) pe_int (fun _ _ => rfl)) pe_int) (fun _ _ => rfl)))
      (pss_cons (ps_asg (pe_op op_mod (pe_op op_add (pe_op op_add (pe_op op_mul (pe_ix ix_list (pv 0) pe_int (fun _ _ => rfl)) pe_int) (pv 3)) pe_int) pe_int) (pg_sub (pv 0) pe_int set_list))
      (pss_cons (ps_asg (pe_ifExp (pt_cmpR op_ge (pv 3) (pe_op op_pow pe_int pe_int) (nomark _)) (pe_op op_fdiv (pv 3) (pv 1)) pe_int) (pg_sub (pv 0) pe_int set_list))
      (pss_one (ps_ret (pe_op op_mod (pv 3) (pv 1))))))))), ?_⟩
    obtain ⟨i, z, c, hrow, hi0, hz0, hz1⟩ := hR.row
    have hS : SqL K H r [.ref a, .int i, .int z, .int c] := SqL.of hrow
    -- row[3] > 0
    refine ⟨.ref r, rfl, r, _, 3, _, rfl, rfl, hS, rfl, _, _, rfl, rfl, _, rfl, ite2 (fun hc => ?_) (fun hc => ?_)⟩
    · refine ⟨.ref r, rfl, r, _, 3, _, rfl, rfl, hS, rfl, .int n, rfl, _, _, rfl, rfl, hn0, ?_⟩
      refine ⟨.ref r, rfl, r, _, 3, _, rfl, rfl, hS, rfl, .int n, rfl, _, _, rfl, rfl, ⟨hn0, hn1⟩, ?_⟩
      refine ⟨.ref r, rfl, r, _, 3, 3, rfl, rfl, hrow, rfl, ?_⟩
      refine ⟨_, rfl, ?_⟩
      exact q _ _ (Int.emod_nonneg _ (by omega)) (Int.emod_lt_of_pos _ hn0) (hR.set hi0 hz0 hz1) Sx.upd
    · -- row[1] = row[1] + 1
      refine ⟨.ref r, rfl, r, _, 1, _, rfl, rfl, hS, rfl, _, _, rfl, rfl, .ref r, rfl, r, _, 1, 1, rfl, rfl, hrow, rfl, ?_⟩
      have R1 : RowAt K (upd H r (.lst [.ref a, .int (i + 1), .int z, .int c])) r a ns := hR.set (by omega) hz0 hz1
      have S1 : SqL K (upd H r (.lst [.ref a, .int (i + 1), .int z, .int c])) r [.ref a, .int (i + 1), .int z, .int c] := SqL.of upd_same
      -- row[1] > len(row[0])
      refine ⟨.ref r, rfl, r, _, 1, _, rfl, rfl, S1, rfl, .ref r, rfl, r, _, 0, _, rfl, rfl, S1, rfl, a, _, rfl, .inl R1.sc, _, _, rfl, rfl, _, rfl, ite2 (fun hl => ?_) (fun hl => ?_)⟩
      · refine ⟨.ref r, rfl, r, _, 2, _, rfl, rfl, S1, rfl, _, _, rfl, rfl, .inl ⟨by omega, by omega⟩, _, _, rfl, rfl, _, _, rfl, rfl, (by show (0 : Int) < 2147483647; decide), ?_⟩
        refine ⟨.ref r, rfl, r, _, 2, 2, rfl, rfl, upd_same, rfl, ?_⟩
        refine ⟨.ref r, rfl, r, _, 2, _, rfl, rfl, SqL.of upd_same, rfl, _, _, rfl, rfl, ⟨by decide, by decide⟩, .int n, rfl, _, _, rfl, rfl, hn0, ?_⟩
        rw [upd_upd]
        exact q _ _ (Int.emod_nonneg _ (by omega)) (Int.emod_lt_of_pos _ hn0) (hR.set (by omega) (Int.emod_nonneg _ (by decide)) (Int.emod_lt_of_pos _ (by decide))) Sx.upd
      · have hlt : i.toNat < ns.length := by
          have h2 : ¬ ((((ns.map V.int).length : Nat) : Int) < i + 1) := fun z => hl (decide_eq_true z)
          rw [List.length_map] at h2
          omega
        refine ⟨.ref r, rfl, r, _, 0, _, rfl, rfl, S1, rfl, .ref r, rfl, r, _, 1, _, rfl, rfl, S1, rfl, _, _, rfl, rfl, a, _, _, .int ns[i.toNat], rfl, rfl, R1.sc, ?_, ?_⟩
        · have e : i + 1 - 1 = ((i.toNat : Nat) : Int) := by omega
          rw [e]
          exact atI_nat (int_getElem? (List.getElem?_eq_getElem hlt))
        -- row[2] = ..
        refine ⟨.ref r, rfl, r, _, 2, _, rfl, rfl, S1, rfl, _, _, rfl, rfl, .inl ⟨by omega, by omega⟩, .int ns[i.toNat], rfl, _, _, rfl, rfl, _, _, rfl, rfl, _, _, rfl, rfl, (by show (0 : Int) < 2147483647; decide), ?_⟩
        refine ⟨.ref r, rfl, r, _, 2, 2, rfl, rfl, upd_same, rfl, ?_⟩
        rw [upd_upd]
        -- row[3] = ..
        refine ⟨.int ns[i.toNat], rfl, _, _, rfl, rfl, ⟨by decide, by decide, by decide⟩, _, _, rfl, rfl, _, rfl, ite2 (fun hb => ?_) (fun hb => ?_)⟩
        · refine ⟨.int ns[i.toNat], rfl, .int n, rfl, _, _, rfl, rfl, ⟨hn0, hn1⟩, .ref r, rfl, r, _, 3, 3, rfl, rfl, upd_same, rfl, ?_⟩
          refine ⟨.int ns[i.toNat], rfl, .int n, rfl, _, _, rfl, rfl, hn0, ?_⟩
          rw [upd_upd]
          exact q _ _ (Int.emod_nonneg _ (by omega)) (Int.emod_lt_of_pos _ hn0) (hR.set (by omega) (Int.emod_nonneg _ (by decide)) (Int.emod_lt_of_pos _ (by decide))) Sx.upd
        · refine ⟨.ref r, rfl, r, _, 3, 3, rfl, rfl, upd_same, rfl, ?_⟩
          refine ⟨.int ns[i.toNat], rfl, .int n, rfl, _, _, rfl, rfl, hn0, ?_⟩
          rw [upd_upd]
          exact q _ _ (Int.emod_nonneg _ (by omega)) (Int.emod_lt_of_pos _ hn0) (hR.set (by omega) (Int.emod_nonneg _ (by decide)) (Int.emod_lt_of_pos _ (by decide))) Sx.upd
end Nf

set_option Elab.async false
set_option linter.all false
set_option maxRecDepth 100000
set_option maxHeartbeats 4000000
namespace Nf
open PySem PySem.Spec PyProof.Rows L2
variable {P : Program} {w : World} {K : PySem.W.Frag} {mg : Str → Option Value} {base : Heap}
/-! ### rises -/
theorem cut1 (xs : List V) : cutV xs (some 1) none = xs.drop 1 := by
  unfold cutV
  rw [show HT.sIx xs.length 0 (some 1) = min 1 xs.length from HT.sIx_nat xs.length 0 1, HT.sIx_none]
  cases xs with
  | nil => rfl
  | cons x r =>
    rw [show min 1 (x :: r).length = 1 by
      rw [List.length_cons]
      omega]
    show (List.take ((x :: r).length - 1) r) = r
    rw [List.length_cons, Nat.add_sub_cancel]
    exact List.take_length
def upB (ns : Tbl) : List Bool := (ns.zip (ns.drop 1)).map fun p => decide (p.1 < p.2)
theorem upB_rises (ns : Tbl) : (upB ns).all id = rises ns := by
  unfold upB rises
  rw [List.all_map]
  rfl
theorem upB_len (ns : Tbl) : (upB ns).length = min (ns.map V.int).length ((ns.map V.int).drop 1).length := by
  simp [upB]
theorem upB_at {ns : Tbl} {i : Nat} {x y : Int} (h1 : ns[i]? = some x) (h2 : (ns.drop 1)[i]? = some y) : (upB ns)[i]? = some (decide (x < y)) := by
  unfold upB
  rw [List.getElem?_map, List.getElem?_zip_eq_some (z := (x, y)) |>.mpr ⟨h1, h2⟩]
  rfl
theorem scRises : FnScope ["numbers", "low", "high"] ["numbers"] (defScope sRises) := ⟨rfl, rfl, rfl, by decide +kernel, rfl, by decide +kernel, by decide +kernel⟩
def spRises (K : PySem.W.Frag) : Sp := fun vs H Q _ => ∃ (a : Addr) (ns : List Int), vs = [.ref a] ∧ (SqL K H a (ns.map V.int) ∨ SqT K H a (ns.map V.int)) ∧ ns.length ≤ 100000 ∧ ∀ H', Same H H' → Q (.bl (rises ns)) H'
theorem ok_rises {f : Addr} {fd : FuncData} (F : Fun K "rises" "rises" sRises f fd) (B : Blt mg) : FnOk P w K mg base CX0 1 f fd ["numbers"] (spRises K) := by
  refine F.ok scRises (fun vs H Q E h => ?_) (fun cdv A outer s H vs Q E hr h => ?_)
  · obtain ⟨a, ns, rfl, _⟩ := h
    rfl
  · obtain ⟨a, ns, rfl, hS, hlen, q⟩ := h
    refine ⟨_, pss_one (ps_ret (pe_callB (cr_all rfl) (by rfl) B.all (by decide +kernel) (pa_cons
      (pe_lc (own := [("low", 1), ("high", 2)]) (g := gTup K 2 (gCons (gName 1) (gCons (gName 2) gNil))) (tt := tYes) (te := tOp (rI0 fun i j => .bl (decide (i < j))) (tVar 1) (tVar 2)) (by rfl) scRises.nd (RZ.pi_zipA (by rfl) B.zip (pa_cons (pv 0) (pa_cons (pe_slice (SlR.or sl_list sl_tupA) (pv 0) (po_some pe_int) po_none) pa_nil)))
        (blkOk_by (N := ["numbers", "low", "high"]) (sc := defScope sRises) (by decide +kernel)) (fun _ _ _ _ _ => pg_tup rfl (pgs_cons (pg_name (i := 1) (x := "low") scRises.nd rfl (.inl rfl) (.inr rfl)) (pgs_cons (pg_name (i := 2) (x := "high") scRises.nd rfl (.inl rfl) (.inr rfl)) pgs_nil)))
        (fun _ _ _ _ _ => pts_nil) (fun _ _ _ _ _ => pe_cmpR op_lt (pv 1) (pv 2) (nomark _))) pa_nil))), ?_⟩
    -- one turn, whatever is walked
    have turn : ∀ (H1 : Hp) (D : Addr) (i : Nat) (x : V) (H2 H3 : Hp), H1 D = none → i < (upB ns).length → (Same H1 H2 ∧ H2 D = some (.lst (((upB ns).take i).map V.bl))) → YPair (fun i => (ns.map V.int)[i]?) (fun i => ((ns.map V.int).drop 1)[i]?) i H2 x H3 →
        gTup K 2 (gCons (gName 1) (gCons (gName 2) gNil)) x (wipe [some (.ref a), none, none] [1, 2]) H3 fun σ2 H2 => wipe σ2 [1, 2] = wipe [some (.ref a), none, none] [1, 2] ∧ tYes σ2 H2 fun b H3 =>
          if b = true then tOp (rI0 fun i j => .bl (decide (i < j))) (tVar 1) (tVar 2) σ2 H3 fun y H4 => ∃ acc, H4 D = some (.lst acc) ∧ acc.length < sizeLine ∧ (Same H1 (upd H4 D (.lst (acc ++ [y]))) ∧ (upd H4 D (.lst (acc ++ [y]))) D = some (.lst (((upB ns).take (i + 1)).map V.bl)))
          else (Same H1 H3 ∧ H3 D = some (.lst (((upB ns).take (i + 1)).map V.bl))) := fun H1 D i x H2 H3 hDn hi p y => by
      obtain ⟨T, y1, y2, rfl, hT, rfl, g1, g2⟩ := y
      obtain ⟨n1, e1, rfl⟩ := getElem?_int g1
      rw [← List.map_drop] at g2
      obtain ⟨n2, e2, rfl⟩ := getElem?_int g2
      obtain ⟨sm, hD⟩ := p
      have nDT : D ≠ T := ne_of_none hD hT
      refine ⟨T, _, rfl, SqT.of upd_same, rfl, _, _, rfl, _, _, rfl, ⟨rfl, rfl, yesT ⟨_, rfl, _, rfl, n1, n2, rfl, rfl, _, (upd_ne nDT).trans hD, ?_, same_put (sm.trans (same_new hT)) hDn, ?_⟩⟩⟩
      · rw [List.length_map, List.length_take]
        have := upB_len ns
        simp only [List.length_map, List.length_drop] at this
        have hz : (100000 : Nat) < sizeLine := by decide
        omega
      · rw [upd_same, takeSucc (upB_at e1 e2), List.map_append]
        rfl
    have fin : ∀ (D : Addr) (H2 : Hp), Same H H2 → H2 D = some (.lst (((upB ns).take (upB ns).length).map V.bl)) → rAll K [.ref D] H2 Q := fun D H2 sm hD => by
      refine ⟨D, upB ns, rfl, SqL.of ?_, ?_⟩
      · rw [List.take_of_length_le (Nat.le_refl _)] at hD
        exact hD
      · rw [upB_rises]
        exact q _ sm
    rcases hS with hS | hS
    · refine ⟨.ref a, rfl, .ref a, rfl, 1, rfl, .inl ⟨a, _, rfl, hS, fun c nc => ?_⟩⟩
      have s1 := same_new (o := .lst (cutV (ns.map V.int) (some 1) none)) nc
      refine ⟨a, c, ns.map V.int, _, rfl, .inl ⟨s1.seq hS, SqL.of upd_same, fun D nD => ?_⟩⟩
      rw [cut1] at *
      exact lc_it (walk_zip (upB_len ns)) (fun i H2 => Same _ H2 ∧ H2 D = some (.lst (((upB ns).take i).map V.bl))) ⟨same_new nD, upd_same⟩ (fun i H2 _ p => ⟨p.1.seq (s1.seq hS), p.1.seq (SqL.of upd_same)⟩) (fun i x H2 H3 hi p y => turn _ D i x H2 H3 nD hi p y) (fun H2 p => fin D H2 (s1.trans p.1) p.2)
    · refine ⟨.ref a, rfl, .ref a, rfl, 1, rfl, .inr ⟨a, _, rfl, hS, fun hw => ?_, fun hw c nc => ?_⟩⟩
      · have e0 : (ns.map V.int).drop 1 = ns.map V.int := by
          have := hw.1
          rw [show HT.sIx (ns.map V.int).length 0 (some 1) = min 1 (ns.map V.int).length from HT.sIx_nat _ 0 1] at this
          cases ns with
          | nil => rfl
          | cons x r =>
            rw [List.length_map, List.length_cons] at this
            omega
        refine ⟨a, a, ns.map V.int, ns.map V.int, rfl, .inr ⟨hS, hS, fun D nD => ?_⟩⟩
        exact lc_it (Nf.walk_zipT (upB_len ns)) (fun i H2 => Same _ H2 ∧ H2 D = some (.lst (((upB ns).take i).map V.bl))) ⟨same_new nD, upd_same⟩ (fun i H2 _ p => ⟨sqt_same hS p.1, by rw [e0]; exact sqt_same hS p.1⟩) (fun i x H2 H3 hi p y => turn _ D i x H2 H3 nD hi p y) (fun H2 p => fin D H2 p.1 p.2)
      · have s1 := same_new (o := .tup (cutV (ns.map V.int) (some 1) none)) nc
        refine ⟨a, c, ns.map V.int, _, rfl, .inr ⟨sqt_same hS s1, SqT.of upd_same, fun D nD => ?_⟩⟩
        rw [cut1] at *
        exact lc_it (Nf.walk_zipT (upB_len ns)) (fun i H2 => Same _ H2 ∧ H2 D = some (.lst (((upB ns).take i).map V.bl))) ⟨same_new nD, upd_same⟩ (fun i H2 _ p => ⟨sqt_same (sqt_same hS s1) p.1, sqt_same (SqT.of upd_same) p.1⟩) (fun i x H2 H3 hi p y => turn _ D i x H2 H3 nD hi p y) (fun H2 p => fin D H2 (s1.trans p.1) p.2)
end Nf

set_option Elab.async false
set_option linter.all false
set_option maxRecDepth 100000
set_option maxHeartbeats 4000000
namespace Nf
open PySem PySem.Spec PyProof.Rows L2
variable {P : Program} {w : World} {K : PySem.W.Frag} {mg : Str → Option Value} {base : Heap}
/-! ### pairs -/
theorem cutFrom (xs : List V) (j : Nat) : cutV xs (some ((j : Nat) : Int)) none = xs.drop j := by
  unfold cutV
  rw [HT.sIx_nat xs.length 0 j, HT.sIx_none]
  by_cases h : j ≤ xs.length
  · rw [Nat.min_eq_left h]
    exact List.take_of_length_le (by simp)
  · rw [Nat.min_eq_right (by omega), List.drop_of_length_le (Nat.le_refl _), List.drop_of_length_le (by omega)]
    simp
/-- so far: the list at D holds ps, the rest is to come -/
def PrI (H : Hp) (D : Addr) (r : Rnd) (H2 : Hp) (rem : List (Int × Int)) : Prop := Same H H2 ∧ ∃ acc ps, H2 D = some (.lst acc) ∧ Paired (PairV H2) acc ps ∧ ps ++ rem = pairsR r
theorem PrI.keep {H H2 H3 : Hp} {D : Addr} {r : Rnd} {rem : List (Int × Int)} (h : PrI H D r H2 rem) (s : Same H2 H3) : PrI H D r H3 rem := by
  obtain ⟨h1, acc, ps, h2, h3, h4⟩ := h
  exact ⟨h1.trans s, acc, ps, s _ _ h2, paired_mono (fun _ _ z => z.mono (same_toT s)) h3, h4⟩
theorem PrI.rem {H H2 : Hp} {D : Addr} {r : Rnd} {rem rem' : List (Int × Int)} (h : PrI H D r H2 rem) (e : rem = rem') : PrI H D r H2 rem' := e ▸ h
theorem dataLe_pairs : PySem.W.dataLe false (fun p : Int × Int => PyData.tuple [.int p.1, .int p.2]) = leP := PySem.W.dataLe_ii (fun p : Int × Int => p.1) (fun p => p.2)
theorem dp_pair {H : Hp} {x : V} {p : Int × Int} (h : PairV H x p) : Dp K H x (.tuple [.int p.1, .int p.2]) := by
  obtain ⟨a, rfl, e⟩ := h
  exact .tup (SqT.of e) (.cons (.int _) (.cons (.int _) .nil))
theorem sort_pairs {H : Hp} {Q : VK} {a : Addr} {acc : List V} {ps : List (Int × Int)} (hl : H a = some (.lst acc)) (hp : Paired (PairV H) acc ps) (q : ∀ ys p, H p = none → Paired (PairV H) ys (sortP ps) → Q (.ref p) (upd H p (.lst ys))) :
    rSortD K (fun p : Int × Int => PyData.tuple [.int p.1, .int p.2]) [.ref a] H Q := by
  refine ⟨a, acc, ps, PairV H, rfl, .inl (SqL.of hl), hp, fun x b h => dp_pair h, PySem.W.AllAlike.of fun b b' => by simp [PySem.W.alike, PySem.W.alikeAll], PySem.W.Sortable.tuples fun b => ⟨_, _, rfl⟩, fun b _ => by simp [PyData.depth, PyData.depthAll], fun ys p hy hn => ?_⟩
  rw [dataLe_pairs] at hy
  exact q ys p hn hy
theorem scPairs : FnScope ["tables", "table", "at", "a", "b"] ["tables"] (defScope sPairs) := ⟨rfl, rfl, rfl, by decide +kernel, rfl, by decide +kernel, by decide +kernel⟩
def spPairs : Sp := fun vs H Q _ => ∃ (x : V) (r : Rnd), vs = [x] ∧ RndV H x r ∧ (pairsR r).length ≤ 100000 ∧
  ∀ H' q ys, Same H H' → H q = none → H' q = some (.lst ys) → Paired (PairV H') ys (sortP (pairsR r)) → Q (.ref q) H'
theorem ok_pairs {f : Addr} {fd : FuncData} (F : Fun K "pairs" "pairs" sPairs f fd) (B : Blt mg) : FnOk P w K mg base CX0 1 f fd ["tables"] spPairs := by
  refine F.ok scPairs (fun vs H Q E h => ?_) (fun cdv A outer s H vs Q E hr h => ?_)
  · obtain ⟨x, r, rfl, _⟩ := h
    rfl
  · obtain ⟨x, r, rfl, ⟨p, xs, rfl, hp, hxs⟩, hlen, q⟩ := h
    refine ⟨_, pss_one (ps_ret (pe_callB (cr_sortD (fun p : Int × Int => PyData.tuple [.int p.1, .int p.2]) hr.units) (by rfl) B.sorted (by decide +kernel) (pa_cons
      (pe_lcN (own := [("table", 1), ("at", 2), ("a", 3), ("b", 4)]) (wi := iTup K (tVar 0))
        (t := tCl (gName 1) tYes [1, 2, 3, 4] (bMid (iEnumT K (tCons (tVar 1) tNil)) (tCl (gTup K 2 (gCons (gName 2) (gCons (gName 3) gNil))) tYes [2, 3, 4]
          (bMid (iTup K (tSl (rSlA K) (tVar 1) (tPart (tOp (rI0 fun i j => .int (i + j)) (tVar 2) (tC (.int 1)))) tNoPart)) (tCl (gName 4) tYes [4] (bLast (tTup (tCons (tVar 3) (tCons (tVar 4) tNil)))))))))
        rfl scPairs.nd (pi_tup (pv 0)) (blkOk_by (N := ["tables", "table", "at", "a", "b"]) (sc := defScope sPairs) (by decide +kernel))
        (fun _ _ _ _ _ => pcl_mid rfl rfl rfl rfl (by decide) (pg_name (i := 1) (x := "table") scPairs.nd rfl (.inl rfl) (.inr rfl)) pts_nil (pi_enumT (by rfl) B.enumerate (pa_cons (pv 1) pa_nil)) (by intro _; rfl)
          (pcl_mid rfl rfl rfl rfl (by decide) (pg_tup rfl (pgs_cons (pg_name (i := 2) (x := "at") scPairs.nd rfl (.inl rfl) (.inr rfl)) (pgs_cons (pg_name (i := 3) (x := "a") scPairs.nd rfl (.inl rfl) (.inr rfl)) pgs_nil))) pts_nil
            (pi_tup (pe_slice sl_tupA (pv 1) (po_some (pe_op op_add (pv 2) pe_int)) po_none)) (by intro _; rfl)
            (pcl_last rfl rfl rfl rfl (pg_name (i := 4) (x := "b") scPairs.nd rfl (.inl rfl) (.inr rfl)) pts_nil (pe_tup (pa_cons (pv 3) (pa_cons (pv 4) pa_nil))))))) pa_nil))), ?_⟩
    refine ⟨.ref p, rfl, p, rfl, ⟨_, SqT.of hp⟩, fun D nD => ?_⟩
    have s0 : Same H (upd H D (.lst [])) := same_new nD
    show tCl (gName 1) tYes [1, 2, 3, 4] _ _ D [some (.ref p), none, none, none, none] _ _
    refine cl_it walk_tup (fun i H2 => PrI H D r H2 (pairsR (r.drop i))) ⟨s0, [], [], upd_same, .nil, by simp⟩ (fun i H2 _ p => SqT.of (p.1 _ _ hp)) (fun i x H2 H3 hi hI y => ?_) (fun H2 hI => ?_)
    · obtain ⟨rfl, hx⟩ := y
      obtain ⟨t, ht, a, rfl, ha⟩ := paired_getL hxs hx
      have hpl : (pairsR r).length < sizeLine := Nat.lt_of_le_of_lt hlen (by decide)
      refine ⟨wipe_put (by decide), yesT ?_⟩
      show bMid _ _ D [some (.ref p), some (.ref a), none, none, none] _ _
      have haT : ∀ {H' : Hp}, Same H H' → SqT K H' a (t.map V.int) := fun sm => SqT.of (sm _ _ ha)
      refine ⟨.ref a, rfl, a, _, rfl, haT hI.1, ?_⟩
      refine cl_it walk_enumT (fun j H2 => PrI H D r H2 (pairsT (t.drop j) ++ pairsR (r.drop (i + 1)))) (hI.rem (by rw [List.drop_zero]; exact pairsR_drop ht)) (fun j H2 _ p => haT p.1) (fun j x H2 H3 hj hJ y => ?_) (fun H2 hJ => hJ.rem (by rw [List.length_map, List.drop_of_length_le (Nat.le_refl _)]; rfl))
      obtain ⟨T, y1, y2, rfl, hT, rfl, g1, g2⟩ := y
      obtain ⟨n, hn, rfl⟩ := getElem?_int g2
      have ej : y1 = .int ((j : Nat) : Int) := (Option.some.inj g1).symm
      subst ej
      have hJ' := hJ.keep (same_new (o := .tup [.int ((j : Nat) : Int), .int n]) hT)
      refine ⟨T, _, rfl, SqT.of upd_same, rfl, _, _, rfl, _, _, rfl, ⟨rfl, wipe_put2 (by decide) (by decide), yesT ?_⟩⟩
      show bMid _ _ D [some (.ref p), some (.ref a), some (.int ((j : Nat) : Int)), some (.int n), none] _ _
      refine ⟨.ref a, rfl, .int ((j : Nat) : Int), rfl, _, _, rfl, rfl, _, rfl, a, _, rfl, haT hJ'.1, fun hw => ?_, fun hw c nc => ?_⟩
      · have hz := hw.1
        have e1 : (j : Int) + 1 = ((j + 1 : Nat) : Int) := by omega
        rw [e1, HT.sIx_nat] at hz
        omega
      have e1 : (j : Int) + 1 = ((j + 1 : Nat) : Int) := by omega
      rw [e1, cutFrom, ← List.map_drop]
      have hJ2 := hJ'.keep (same_new (o := .tup ((t.drop (j + 1)).map V.int)) nc)
      refine ⟨c, rfl, ⟨_, SqT.of upd_same⟩, ?_⟩
      refine cl_it (walk_tup (xs := (t.drop (j + 1)).map V.int)) (fun m H2 => PrI H D r H2 (((t.drop (j + 1)).drop m).map (fun b => (n, b)) ++ (pairsT (t.drop (j + 1)) ++ pairsR (r.drop (i + 1)))) ∧ H2 c = some (.tup ((t.drop (j + 1)).map V.int)))
        ⟨hJ2.rem (by rw [List.drop_zero, pairsT_drop hn, List.append_assoc]), upd_same⟩ (fun m H2 _ p => SqT.of p.2) (fun m x H2 H3 hm hM y => ?_) (fun H2 hM => hM.1.rem (by rw [List.length_map, List.drop_of_length_le (Nat.le_refl _)]; rfl))
      obtain ⟨rfl, hx⟩ := y
      obtain ⟨b, hb, rfl⟩ := getElem?_int hx
      obtain ⟨⟨sm, acc, ps, hD, hps, e⟩, hc⟩ := hM
      refine ⟨wipe_put (by decide), yesT ?_⟩
      show bLast _ D [some (.ref p), some (.ref a), some (.int ((j : Nat) : Int)), some (.int n), some (.int b)] _ _
      refine ⟨.int n, rfl, .int b, rfl, two_le, fun T2 nT2 => ?_⟩
      have nDT : D ≠ T2 := ne_of_none hD nT2
      rw [dropCons hb, List.map_cons, List.cons_append] at e
      have s3 : Same H3 (upd H3 T2 (.tup [.int n, .int b])) := same_new nT2
      refine ⟨acc, (upd_ne nDT).trans hD, ?_, ⟨same_put (sm.trans s3) nD, acc ++ [.ref T2], ps ++ [(n, b)], upd_same, ?_, ?_⟩, ?_⟩
      · have hl : ps.length ≤ (pairsR r).length := by
          rw [← e, List.length_append]
          omega
        have := paired_len hps
        omega
      · have keepT : ∀ {z : V} {pr : Int × Int}, PairV (upd H3 T2 (.tup [.int n, .int b])) z pr → PairV (upd (upd H3 T2 (.tup [.int n, .int b])) D (.lst (acc ++ [.ref T2]))) z pr := fun {z pr} h => by
          obtain ⟨u, rfl, hu⟩ := h
          refine ⟨u, rfl, ?_⟩
          rw [upd_ne (ne_of hu ((upd_ne nDT).trans hD) (by intro z; cases z))]
          exact hu
        refine paired_snoc (paired_mono (fun z pr h => keepT (h.mono (same_toT s3))) hps) (keepT ⟨T2, rfl, upd_same⟩)
      · rw [List.append_assoc]
        exact e
      · have ncD : c ≠ D := ne_of hc hD (by intro z; cases z)
        rw [upd_ne ncD]
        exact s3 _ _ hc
    · obtain ⟨sm, acc, ps, hD, hps, e⟩ := hI
      rw [paired_len hxs, List.drop_of_length_le (Nat.le_refl _)] at e
      have e2 : ps = pairsR r := by simpa [pairsR] using e
      subst e2
      refine sort_pairs hD hps fun ys p2 np hys => ?_
      have s4 := same_new (o := .lst ys) np
      exact q _ p2 ys (sm.trans s4) (sm.free np) upd_same (paired_mono (fun _ _ z => z.mono (same_toT s4)) hys)
end Nf

set_option Elab.async false
set_option linter.all false
set_option maxRecDepth 100000
set_option maxHeartbeats 4000000
namespace Nf
open PySem PySem.Spec PyProof.Rows L2
variable {P : Program} {w : World} {K : PySem.W.Frag} {mg : Str → Option Value} {base : Heap}
/-! ### the class of parties -/
theorem ms_ : ¬ (("many" : Str) = "seats") := by decide +kernel
def pf (g s : Int) : List (Str × V) := putF "seats" (.int s) (putF "many" (.int g) [])
theorem pf_many (g s : Int) : (pf g s).lookup ("many" : Str) = some (.int g) := by
  unfold pf
  rw [lookup_putF, if_neg ms_, lookup_putF, if_pos rfl]
theorem pf_seats (g s : Int) : (pf g s).lookup ("seats" : Str) = some (.int s) := by
  unfold pf
  rw [lookup_putF, if_pos rfl]
theorem pf_no (g s : Int) {m : Str} (h1 : ¬ m = "seats") (h2 : ¬ m = "many") : (pf g s).lookup m = none := by
  unfold pf
  rw [lookup_putF, if_neg h1, lookup_putF, if_neg h2]
  all_goals rfl
def PartyV (C : Addr) (H : Hp) (p : Addr) (g s : Int) : Prop := ∃ dx, H p = some (.ins C dx (pf g s))
theorem PartyV.same {C : Addr} {H H' : Hp} {p : Addr} {g s : Int} (h : PartyV C H p g s) (z : Same H H') : PartyV C H' p g s := by
  obtain ⟨dx, e⟩ := h
  exact ⟨dx, z _ _ e⟩
structure Txt (K : PySem.W.Frag) (mg : Str → Option Value) (C : Addr) : Prop where
  cl : Cls K C
  nM : NoAttr K C "many"
  nS : NoAttr K C "seats"
  mgC : mg "Party" = some (.ref C)
  fg : ∃ t, mg "FEWEST_GUESTS" = some (.int 2 t)
  mo : ∃ t, mg "MOST_GUESTS" = some (.int 64 t)
  ss : ∃ t, mg "SMALLEST_SIZE" = some (.int 2 t)
  ls : ∃ t, mg "LARGEST_SIZE" = some (.int 8 t)
theorem scGuests : FnScope ["self"] ["self"] (defScope sGuests) := ⟨rfl, rfl, rfl, by decide +kernel, rfl, by decide +kernel, by decide +kernel⟩
def spGuests (C : Addr) : Sp := fun vs H Q _ => ∃ (p : Addr) (g s : Int), vs = [.ref p] ∧ PartyV C H p g s ∧ Q (.int g) H
theorem ok_guests {f C : Addr} {fd : FuncData} (F : Fun K "guests" "Party.guests" sGuests f fd) (T : Txt K mg C) : FnOk P w K mg base CX0 1 f fd ["self"] (spGuests C) := by
  refine F.ok scGuests (fun vs H Q E h => ?_) (fun cdv A outer s H vs Q E hr h => ?_)
  · obtain ⟨p, g, s, rfl, _⟩ := h
    rfl
  · obtain ⟨p, g, s, rfl, ⟨dx, hp⟩, q⟩ := h
    exact ⟨_, pss_one (ps_ret (pe_fld (pv 0) rfl)), _, rfl, p, C, dx, _, _, rfl, hp, T.cl, T.nM, pf_many _ _, q⟩
theorem scSize : FnScope ["self"] ["self"] (defScope sSize) := ⟨rfl, rfl, rfl, by decide +kernel, rfl, by decide +kernel, by decide +kernel⟩
def spSize (C : Addr) : Sp := fun vs H Q _ => ∃ (p : Addr) (g s : Int), vs = [.ref p] ∧ PartyV C H p g s ∧ Q (.int s) H
theorem ok_size {f C : Addr} {fd : FuncData} (F : Fun K "size" "Party.size" sSize f fd) (T : Txt K mg C) : FnOk P w K mg base CX0 1 f fd ["self"] (spSize C) := by
  refine F.ok scSize (fun vs H Q E h => ?_) (fun cdv A outer s H vs Q E hr h => ?_)
  · obtain ⟨p, g, s, rfl, _⟩ := h
    rfl
  · obtain ⟨p, g, s, rfl, ⟨dx, hp⟩, q⟩ := h
    exact ⟨_, pss_one (ps_ret (pe_fld (pv 0) rfl)), _, rfl, p, C, dx, _, _, rfl, hp, T.cl, T.nS, pf_seats _ _, q⟩
theorem scTables : FnScope ["self"] ["self"] (defScope sTables) := ⟨rfl, rfl, rfl, by decide +kernel, rfl, by decide +kernel, by decide +kernel⟩
def spTables (C : Addr) : Sp := fun vs H Q _ => ∃ (p : Addr) (g s : Int), vs = [.ref p] ∧ PartyV C H p g s ∧ 0 < s ∧ s < 1073741824 ∧ Q (.int (g / s)) H
theorem ok_tables {f C : Addr} {fd : FuncData} (F : Fun K "tables" "Party.tables" sTables f fd) (T : Txt K mg C) : FnOk P w K mg base CX0 1 f fd ["self"] (spTables C) := by
  refine F.ok scTables (fun vs H Q E h => ?_) (fun cdv A outer s H vs Q E hr h => ?_)
  · obtain ⟨p, g, s, rfl, _⟩ := h
    rfl
  · obtain ⟨p, g, s, rfl, ⟨dx, hp⟩, h0, h1, q⟩ := h
    exact ⟨_, pss_one (ps_ret (pe_op op_fdiv (pe_fld (pv 0) rfl) (pe_fld (pv 0) rfl))), _, rfl, p, C, dx, _, _, rfl, hp, T.cl, T.nM, pf_many _ _, _, rfl, p, C, dx, _, _, rfl, hp, T.cl, T.nS, pf_seats _ _, _, _, rfl, rfl, ⟨h0, h1⟩, q⟩
/-- a party's bounds -/
structure IsParty (g s : Int) : Prop where
  g2 : 2 ≤ g
  g64 : g ≤ 64
  s2 : 2 ≤ s
  s8 : s ≤ 8
  dv : g % s = 0
theorem scIsParty : FnScope ["guests", "size"] ["guests", "size"] (defScope sIsParty) := ⟨rfl, rfl, rfl, by decide +kernel, rfl, by decide +kernel, by decide +kernel⟩
def spIsParty : Sp := fun vs H Q _ => ∃ (g s : Int), vs = [.int g, .int s] ∧ ∀ b, (b = true ↔ IsParty g s) → Q (.bl b) H
theorem ok_isParty {f C : Addr} {fd : FuncData} (F : Fun K "is_party" "is_party" sIsParty f fd) (T : Txt K mg C) : FnOk P w K mg base CX0 1 f fd ["guests", "size"] spIsParty := by
  obtain ⟨t1, m1⟩ := T.fg
  obtain ⟨t2, m2⟩ := T.mo
  obtain ⟨t3, m3⟩ := T.ss
  obtain ⟨t4, m4⟩ := T.ls
  refine F.ok scIsParty (fun vs H Q E h => ?_) (fun cdv A outer s H vs Q E hr h => ?_)
  · obtain ⟨g, s, rfl, _⟩ := h
    rfl
  · obtain ⟨g, z, rfl, q⟩ := h
    refine ⟨_, pss_cons (ps_if (pt_not (pt_chain op_le op_le (pe_glob (v := .int 2) (by rfl) m1 ⟨_, rfl⟩) (pv 0) (pe_glob (v := .int 64) (by rfl) m2 ⟨_, rfl⟩))) (pss_one (ps_ret pe_bl)) pss_nil)
      (pss_cons (ps_if (pt_not (pt_chain op_le op_le (pe_glob (v := .int 2) (by rfl) m3 ⟨_, rfl⟩) (pv 1) (pe_glob (v := .int 8) (by rfl) m4 ⟨_, rfl⟩))) (pss_one (ps_ret pe_bl)) pss_nil)
      (pss_one (ps_ret (pe_cmpR op_eq (pe_op op_mod (pv 0) (pv 1)) pe_int (nomark _))))), ?_⟩
    have no : ¬ IsParty g z → Q (.bl false) H := fun h => q false ⟨(fun e => by cases e), fun e => absurd e h⟩
    refine ⟨.int g, rfl, 2, g, rfl, rfl, _, rfl, ite2 (fun h1 => ?_) (fun h1 => ?_)⟩
    · have h1 := of_decide_eq_true h1
      refine ⟨g, 64, rfl, rfl, _, rfl, ite2 (fun h2 => ?_) (fun h2 => ?_)⟩
      · exact no fun z => by
          have := z.g64
          simp [this] at h2
      · have h2 : g ≤ 64 := by simpa using h2
        refine ⟨.int z, rfl, 2, z, rfl, rfl, _, rfl, ite2 (fun h3 => ?_) (fun h3 => ?_)⟩
        · have h3 := of_decide_eq_true h3
          refine ⟨z, 8, rfl, rfl, _, rfl, ite2 (fun h4 => ?_) (fun h4 => ?_)⟩
          · exact no fun y => by
              have := y.s8
              simp [this] at h4
          · have h4 : z ≤ 8 := by simpa using h4
            refine ⟨.int g, rfl, .int z, rfl, g, z, rfl, rfl, (by omega : (0 : Int) < z), rfl, ?_⟩
            refine q _ ⟨fun e => ?_, fun e => ?_⟩
            · have e' := V.int.inj (of_decide_eq_true e)
              exact ⟨h1, h2, h3, h4, e'⟩
            · exact decide_eq_true (congrArg V.int e.dv)
        · refine ⟨_, rfl, iteT ?_⟩
          exact no fun y => h3 (decide_eq_true y.s2)
    · refine ⟨_, rfl, iteT ?_⟩
      exact no fun y => h1 (decide_eq_true y.g2)
theorem scInit : FnScope ["self", "guests", "size"] ["self", "guests", "size"] (defScope sInit) := ⟨rfl, rfl, rfl, by decide +kernel, rfl, by decide +kernel, by decide +kernel⟩
def spInit (C : Addr) : Sp := fun vs H Q _ => ∃ (p dx : Addr) (g s : Int), vs = [.ref p, .int g, .int s] ∧ H p = some (.ins C dx []) ∧ IsParty g s ∧ Q .non (upd H p (.ins C dx (pf g s)))
theorem ok_init {f fP C : Addr} {fd fdP : FuncData} (F : Fun K "__init__" "Party.__init__" sInit f fd) (T : Txt K mg C) (FP : Fun K "is_party" "is_party" sIsParty fP fdP) (bP : Binds K fdP ["guests", "size"] []) (gP : mg "is_party" = some (.ref fP)) :
    FnOk P w K mg base CX0 2 f fd ["self", "guests", "size"] (spInit C) := by
  have GP : FnOk P w K mg base CX0 1 fP fdP ["guests", "size"] spIsParty := ok_isParty FP T
  refine F.ok scInit (fun vs H Q E h => ?_) (fun cdv A outer s H vs Q E hr h => ?_)
  · obtain ⟨p, dx, g, s, rfl, _⟩ := h
    rfl
  · obtain ⟨p, dx, g, z, rfl, hp, hI, q⟩ := h
    refine ⟨_, pss_cons (ps_if (pt_not (pt_val (pe_call GP hr (by rfl) gP FP.kp bP .nil pass0 (pa_cons (pv 1) (pa_cons (pv 2) pa_nil))))) pss_never pss_nil)
      (pss_cons (ps_fld (pv 0) (pv 1) rfl) (pss_one (ps_fld (pv 0) (pv 2) rfl))), ?_⟩
    refine ⟨.int g, rfl, .int z, rfl, g, z, rfl, fun b hb => ?_⟩
    have eb : b = true := hb.mpr hI
    subst eb
    refine ⟨_, rfl, iteF ?_⟩
    refine ⟨.int g, rfl, _, rfl, p, C, dx, [], rfl, hp, T.cl, T.nM, (by show 0 < 1000; decide), ?_⟩
    refine ⟨.int z, rfl, _, rfl, p, C, dx, _, rfl, upd_same, T.cl, T.nS, (by show 1 < 1000; decide), ?_⟩
    rw [upd_upd]
    exact q
end Nf

set_option Elab.async false
set_option linter.all false
set_option maxRecDepth 100000
set_option maxHeartbeats 4000000
namespace Nf
open PySem PySem.Spec PyProof.Rows L2
variable {P : Program} {w : World} {K : PySem.W.Frag} {mg : Str → Option Value} {base : Heap}
/-! ### is_table, is_round -/
theorem atI_head {t : Tbl} (h : 1 ≤ t.length) : atI (t.map V.int) 0 = some (.int (t.headD 0)) := by
  cases t with
  | nil => simp at h
  | cons a t => exact atI_nat (j := 0) rfl
theorem atI_end {t : Tbl} (h : 1 ≤ t.length) : atI (t.map V.int) (-1) = some (.int (t.getLastD 0)) := by
  have hn : t ≠ [] := by
    intro e
    subst e
    simp at h
  have e : t.map V.int = t.dropLast.map V.int ++ [.int (t.getLast hn)] := by
    rw [← List.map_singleton, ← List.map_append, List.dropLast_concat_getLast]
  rw [e, atI_last]
  rw [List.getLastD_eq_getLast?, List.getLast?_eq_getLast hn]
  rfl
theorem scIsTable : FnScope ["party", "table"] ["party", "table"] (defScope sIsTable) := ⟨rfl, rfl, rfl, by decide +kernel, rfl, by decide +kernel, by decide +kernel⟩
def spIsTable (C : Addr) : Sp := fun vs H Q _ => ∃ (p : Addr) (g s : Int) (x : V) (t : Tbl), vs = [.ref p, x] ∧ PartyV C H p g s ∧ TabV H x t ∧ t.length ≤ 100000 ∧ ∀ b H', Same H H' → (b = true ↔ IsTable g s t) → Q (.bl b) H'
theorem ok_isTable {f fR fG fS C : Addr} {fd fdR fdG fdS : FuncData} (F : Fun K "is_table" "is_table" sIsTable f fd) (B : Blt mg) (T : Txt K mg C) (FR : Fun K "rises" "rises" sRises fR fdR) (bR : Binds K fdR ["numbers"] []) (gR : mg "rises" = some (.ref fR))
    (FG : Fun K "guests" "Party.guests" sGuests fG fdG) (bG : Binds K fdG ["self"] []) (mG : Meth K C "guests" fG) (FS : Fun K "size" "Party.size" sSize fS fdS) (bS : Binds K fdS ["self"] []) (mS : Meth K C "size" fS) : FnOk P w K mg base CX0 2 f fd ["party", "table"] (spIsTable C) := by
  have GR : FnOk P w K mg base CX0 1 fR fdR ["numbers"] (spRises K) := ok_rises FR B
  have GG : FnOk P w K mg base CX0 1 fG fdG ["self"] (spGuests C) := ok_guests FG T
  have GS : FnOk P w K mg base CX0 1 fS fdS ["self"] (spSize C) := ok_size FS T
  have ng : ∀ g s, (pf g s).lookup ("guests" : Str) = none := fun g s => pf_no _ _ (by decide +kernel) (by decide +kernel)
  have ns : ∀ g s, (pf g s).lookup ("size" : Str) = none := fun g s => pf_no _ _ (by decide +kernel) (by decide +kernel)
  refine F.ok scIsTable (fun vs H Q E h => ?_) (fun cdv A outer s H vs Q E hr h => ?_)
  · obtain ⟨p, g, s, x, t, rfl, _⟩ := h
    rfl
  · obtain ⟨p, g, z, x, t, rfl, hP, ⟨a, rfl, ha⟩, hlen, q⟩ := h
    refine ⟨_, pss_cons (ps_if (pt_not (pt_chain op_le op_le pe_int (pe_callB call_len_seq (by rfl) B.len PySem.boot_len (pa_cons (pv 1) pa_nil)) (pe_meth0 (pv 0) T.cl mS GS hr bS .nil pass0))) (pss_one (ps_ret pe_bl)) pss_nil)
      (pss_one (ps_ret (pe_and (pe_call GR hr (by rfl) gR FR.kp bR .nil pass0 (pa_cons (pv 1) pa_nil)) (pe_and (pe_cmpR op_ge (pe_ix ix_tup (pv 1) pe_int (fun _ _ => rfl)) pe_int (nomark _))
        (pe_one (pe_cmpR op_lt (pe_ix ix_tup (pv 1) (pe_un un_neg pe_int) (fun _ _ => rfl)) (pe_meth0 (pv 0) T.cl mG GG hr bG .nil pass0) (nomark _))))))), ?_⟩
    have no : ∀ H', Same H H' → ¬ IsTable g z t → Q (.bl false) H' := fun H' sm h => q false H' sm ⟨(fun e => by cases e), fun e => absurd e h⟩
    obtain ⟨dx, hp⟩ := id hP
    refine ⟨.ref a, rfl, a, _, rfl, .inr (SqT.of ha), 1, _, rfl, rfl, _, rfl, ite2 (fun h1 => ?_) (fun h1 => ?_)⟩
    · have h1 : 1 ≤ t.length := by
        have := of_decide_eq_true h1
        rw [List.length_map] at this
        omega
      refine ⟨_, rfl, p, dx, _, rfl, hp, ns _ _, p, g, z, rfl, hP, _, _, rfl, rfl, _, rfl, ite2 (fun h2 => ?_) (fun h2 => ?_)⟩
      · exact no _ (Same.refl _) fun y => by
          have := y.sz.2
          rw [List.length_map] at h2
          simp [this] at h2
      · have h2 : (t.length : Int) ≤ z := by
          rw [List.length_map] at h2
          simpa using h2
        refine ⟨.ref a, rfl, a, t, rfl, .inr (SqT.of ha), hlen, fun H1 s1 => ?_⟩
        have ha1 := s1 _ _ ha
        refine ⟨_, rfl, ite2 (fun h3 => ?_) (fun h3 => ?_)⟩
        · refine ⟨.ref a, rfl, a, _, 0, _, rfl, rfl, SqT.of ha1, atI_head h1, _, _, rfl, rfl, _, rfl, ite2 (fun h4 => ?_) (fun h4 => ?_)⟩
          · have h4 := of_decide_eq_true h4
            obtain ⟨dx1, hp1⟩ := hP.same s1
            refine ⟨.ref a, rfl, 1, rfl, a, _, -1, _, rfl, rfl, SqT.of ha1, atI_end h1, _, rfl, p, dx1, _, rfl, hp1, ng _ _, p, g, z, rfl, ⟨dx1, hp1⟩, _, _, rfl, rfl, ?_⟩
            refine q _ H1 s1 ⟨fun e => ⟨⟨h1, h2⟩, (rises_iff t).mp h3, h4, of_decide_eq_true e⟩, fun e => decide_eq_true e.hi⟩
          · exact no H1 s1 fun y => h4 (decide_eq_true y.lo)
        · exact no H1 s1 fun y => h3 ((rises_iff t).mpr y.up)
    · refine ⟨_, rfl, iteT ?_⟩
      exact no _ (Same.refl _) fun y => h1 (decide_eq_true (by rw [List.length_map]; have := y.sz.1; omega))
theorem scIsRound : FnScope ["party", "thing", "sitting", "table", "guest"] ["party", "thing"] (defScope sIsRound) := ⟨rfl, rfl, rfl, by decide +kernel, rfl, by decide +kernel, by decide +kernel⟩
def spIsRound (C : Addr) : Sp := fun vs H Q _ => ∃ (p : Addr) (g s : Int) (x : V) (r : Rnd), vs = [.ref p, x] ∧ PartyV C H p g s ∧ IsParty g s ∧ RndV H x r ∧ r.length ≤ 100000 ∧ (∀ t ∈ r, t.length ≤ 100000) ∧ ∀ b H', Same H H' → (b = true ↔ IsRound g s r) → Q (.bl b) H'
theorem ok_isRound {f fT fR fB C : Addr} {fd fdT fdR fdB : FuncData} (F : Fun K "is_round" "is_round" sIsRound f fd) (B : Blt mg) (T : Txt K mg C) (GT : FnOk P w K mg base CX0 2 fT fdT ["party", "table"] (spIsTable C)) (FT : Fun K "is_table" "is_table" sIsTable fT fdT) (bT : Binds K fdT ["party", "table"] []) (gT : mg "is_table" = some (.ref fT))
    (FR : Fun K "rises" "rises" sRises fR fdR) (bR : Binds K fdR ["numbers"] []) (gR : mg "rises" = some (.ref fR)) (FB : Fun K "tables" "Party.tables" sTables fB fdB) (bB : Binds K fdB ["self"] []) (mB : Meth K C "tables" fB) : FnOk P w K mg base CX0 3 f fd ["party", "thing"] (spIsRound C) := by
  have GR : FnOk P w K mg base CX0 1 fR fdR ["numbers"] (spRises K) := ok_rises FR B
  have GB : FnOk P w K mg base CX0 1 fB fdB ["self"] (spTables C) := ok_tables FB T
  have nt : ∀ g s, (pf g s).lookup ("tables" : Str) = none := fun g s => pf_no _ _ (by decide +kernel) (by decide +kernel)
  refine F.ok scIsRound (fun vs H Q E h => ?_) (fun cdv A outer s H vs Q E hr h => ?_)
  · obtain ⟨p, g, s, x, r, rfl, _⟩ := h
    rfl
  · obtain ⟨p, g, z, x, r, rfl, hP, hI, ⟨a, xs, rfl, ha, hxs⟩, hlen, hlt, q⟩ := h
    have hr1 : Room 1 _ := hr.mono (by decide)
    refine ⟨_, pss_cons (ps_if (pt_cmpR op_gt (pe_callB call_len_seq (by rfl) B.len PySem.boot_len (pa_cons (pv 1) pa_nil)) (pe_meth0 (pv 0) T.cl mB GB hr1 bB .nil pass0) (nomark _)) (pss_one (ps_ret pe_bl)) pss_nil)
      (pss_cons (ps_if (pt_not (pt_val (pe_callB (cr_all rfl) (by rfl) B.all (by decide +kernel) (pa_cons
          (pe_lc (own := [("table", 3)]) (g := gName 3) (tt := tYes) (te := tCall (spIsTable C) [] E0 (tCons (tVar 0) (tCons (tVar 3) tNil))) (by rfl) scIsRound.nd (pi_tup (pv 1)) (blkOk_by (N := ["party", "thing", "sitting", "table", "guest"]) (sc := defScope sIsRound) (by decide +kernel))
            (fun _ _ _ _ _ => pg_name (i := 3) (x := "table") scIsRound.nd rfl (.inl rfl) (.inr rfl)) (fun _ _ _ _ _ => pts_nil) (fun _ _ _ _ _ => pe_call GT hr (by rfl) gT FT.kp bT .nil pass0 (pa_cons (pv 0) (pa_cons (pv 3) pa_nil)))) pa_nil)))) (pss_one (ps_ret pe_bl)) pss_nil)
      (pss_cons (ps_setLcN (i := 2) (own := [("table", 3), ("guest", 4)]) (wi := iTup K (tVar 1)) (t := tCl (gName 3) tYes [3, 4] (bMid (iTup K (tVar 3)) (tCl (gName 4) tYes [4] (bLast (tVar 4)))))
          (by rfl) scIsRound.nd rfl rfl (sw_true rfl rfl rfl (by decide +kernel)) (pi_tup (pv 1)) (blkOk_by (N := ["party", "thing", "sitting", "table", "guest"]) (sc := defScope sIsRound) (by decide +kernel))
          (fun _ _ _ _ _ => pcl_mid rfl rfl rfl rfl (by decide) (pg_name (i := 3) (x := "table") scIsRound.nd rfl (.inl rfl) (.inr rfl)) pts_nil (pi_tup (pv 3)) (by intro _; rfl) (pcl_last rfl rfl rfl rfl (pg_name (i := 4) (x := "guest") scIsRound.nd rfl (.inl rfl) (.inr rfl)) pts_nil (pv 4))))
      (pss_cons (ps_if (pt_cmpR op_lt (pe_lenSet (by rfl) B.len (by rfl) B.set (pv 2)) (pe_callB call_len_seq (by rfl) B.len PySem.boot_len (pa_cons (pv 2) pa_nil)) (nomark _)) (pss_one (ps_ret pe_bl)) pss_nil)
      (pss_one (ps_ret (pe_call GR hr1 (by rfl) gR FR.kp bR .nil pass0 (pa_cons
        (pe_lc (own := [("table", 3)]) (g := gName 3) (tt := tYes) (te := tOp (rIxT K) (tVar 3) (tC (.int 0))) (by rfl) scIsRound.nd (pi_tup (pv 1)) (blkOk_by (N := ["party", "thing", "sitting", "table", "guest"]) (sc := defScope sIsRound) (by decide +kernel))
            (fun _ _ _ _ _ => pg_name (i := 3) (x := "table") scIsRound.nd rfl (.inl rfl) (.inr rfl)) (fun _ _ _ _ _ => pts_nil) (fun _ _ _ _ _ => pe_ix ix_tup (pv 3) pe_int (fun _ _ => rfl))) pa_nil))))))), ?_⟩
    have no : ∀ H', Same H H' → ¬ IsRound g z r → Q (.bl false) H' := fun H' sm h => q false H' sm ⟨(fun e => by cases e), fun e => absurd e h⟩
    obtain ⟨dx, hp⟩ := id hP
    have hxl := paired_len hxs
    have big : (100000 : Nat) < sizeLine := by decide
    have haT : ∀ {H' : Hp}, Same H H' → SqT K H' a xs := fun sm => SqT.of (sm _ _ ha)
    -- len(thing) > party.tables()
    refine ⟨.ref a, rfl, a, _, rfl, .inr (SqT.of ha), _, rfl, p, dx, _, rfl, hp, nt _ _, p, g, z, rfl, hP, by have := hI.s2; omega, by have := hI.s8; omega, _, _, rfl, rfl, _, rfl, ite2 (fun h1 => ?_) (fun h1 => ?_)⟩
    · have h1 := of_decide_eq_true h1
      exact no _ (Same.refl _) fun y => by
        have := y.ct
        omega
    have h1 : (r.length : Int) ≤ g / z := by
      have h2 : ¬ (g / z < ((xs.length : Nat) : Int)) := fun y => h1 (decide_eq_true y)
      omega
    -- all([is_table(..)])
    refine ⟨.ref a, rfl, a, rfl, ⟨_, SqT.of ha⟩, fun D nD => ?_⟩
    have s0 : Same H (upd H D (.lst [])) := same_new nD
    refine lc_it walk_tup (fun i H2 => Same H H2 ∧ ∃ bs : List Bool, H2 D = some (.lst (bs.map V.bl)) ∧ bs.length = i ∧ (bs.all id = true ↔ ∀ t ∈ r.take i, IsTable g z t)) ⟨s0, [], upd_same, rfl, by simp⟩ (fun i H2 _ p => haT p.1) (fun i x H2 H3 hi hI2 y => ?_) (fun H2 hI2 => ?_)
    · obtain ⟨rfl, hx⟩ := y
      obtain ⟨t, ht, b, rfl, hb⟩ := paired_getL hxs hx
      obtain ⟨sm, bs, hD, hbl, hba⟩ := hI2
      refine ⟨wipe_put (by decide), yesT ?_⟩
      show tCall (spIsTable C) [] E0 _ [some (.ref p), some (.ref a), none, some (.ref b), none] _ _
      refine ⟨.ref p, rfl, .ref b, rfl, p, g, z, .ref b, t, rfl, hP.same sm, ⟨b, rfl, sm _ _ hb⟩, hlt t (List.mem_of_getElem? ht), fun c H4 s4 hc => ?_⟩
      refine ⟨_, s4 _ _ hD, by rw [List.length_map]; omega, same_put (sm.trans s4) nD, bs ++ [c], ?_, by simp [hbl], ?_⟩
      · rw [upd_same, List.map_append]
        rfl
      · rw [takeSucc ht, List.all_append]
        simp only [List.all_cons, List.all_nil, Bool.and_true, Bool.and_eq_true, id]
        rw [hba, hc]
        constructor
        · rintro ⟨u1, u2⟩ y hy
          rcases List.mem_append.mp hy with hy | hy
          · exact u1 y hy
          · rw [List.mem_singleton.mp hy]
            exact u2
        · exact fun u => ⟨fun y hy => u y (List.mem_append_left _ hy), u t (by simp)⟩
    obtain ⟨sm2, bs, hD, _, hba⟩ := hI2
    rw [hxl, List.take_of_length_le (Nat.le_refl _)] at hba
    refine ⟨D, bs, rfl, SqL.of hD, _, rfl, ite2 (fun h2 => ?_) (fun h2 => ?_)⟩
    · refine no _ sm2 fun y => ?_
      have := hba.mpr (isRound_iff.mp y).2.1
      rw [this] at h2
      cases h2
    have hall : ∀ t ∈ r, IsTable g z t := hba.mp (by simpa using h2)
    -- sitting
    refine ⟨.ref a, rfl, a, rfl, ⟨_, haT sm2⟩, fun D2 nD2 => ?_⟩
    show tCl (gName 3) tYes [3, 4] _ _ D2 [some (.ref p), some (.ref a), none, none, none] _ _
    have s3 : Same H2 (upd H2 D2 (.lst [])) := same_new nD2
    have nD20 : H D2 = none := sm2.free nD2
    have hfl : r.flatten.length ≤ 64 := by
      have e1 := sum_le (fun t ht => (hall t ht).sz.2)
      have hz : 0 < z := by have := hI.s2; omega
      have e2 : (r.length : Int) * z ≤ g / z * z := Int.mul_le_mul_of_nonneg_right h1 (by omega)
      have e3 : g / z * z ≤ g := Int.ediv_mul_le g (by omega)
      have := hI.g64
      omega
    refine cl_it walk_tup (fun i H5 => Same H H5 ∧ ∃ ms : List Int, H5 D2 = some (.lst (ms.map V.int)) ∧ ms ++ (r.drop i).flatten = r.flatten) ⟨sm2.trans s3, [], upd_same, by simp⟩ (fun i H5 _ p => haT p.1) (fun i x H5 H6 hi hI5 y => ?_) (fun H5 hI5 => ?_)
    · obtain ⟨rfl, hx⟩ := y
      obtain ⟨t, ht, b, rfl, hb⟩ := paired_getL hxs hx
      obtain ⟨sm, ms, hD2, e⟩ := hI5
      rw [dropCons ht, List.flatten_cons] at e
      refine ⟨wipe_put (by decide), yesT ?_⟩
      show bMid _ _ D2 [some (.ref p), some (.ref a), none, some (.ref b), none] _ _
      refine ⟨.ref b, rfl, b, rfl, ⟨_, SqT.of (sm _ _ hb)⟩, ?_⟩
      refine cl_it (walk_tup (xs := t.map V.int)) (fun j H7 => Same H H7 ∧ ∃ ms : List Int, H7 D2 = some (.lst (ms.map V.int)) ∧ ms ++ (t.drop j ++ (r.drop (i + 1)).flatten) = r.flatten) ⟨sm, ms, hD2, by rw [List.drop_zero]; exact e⟩ (fun j H7 _ p => SqT.of (p.1 _ _ hb)) (fun j x H7 H8 hj hJ y => ?_)
        (fun H7 hJ => ?_)
      · obtain ⟨rfl, hx⟩ := y
        obtain ⟨n, hn, rfl⟩ := getElem?_int hx
        obtain ⟨sm7, ms7, hD7, e7⟩ := hJ
        rw [dropCons hn, List.cons_append] at e7
        refine ⟨wipe_put (by decide), yesT ?_⟩
        show bLast _ D2 [some (.ref p), some (.ref a), none, some (.ref b), some (.int n)] _ _
        refine ⟨.int n, rfl, _, hD7, ?_, same_put sm7 nD20, ms7 ++ [n], ?_, ?_⟩
        · have : ms7.length ≤ r.flatten.length := by
            rw [← e7, List.length_append]
            omega
          rw [List.length_map]
          omega
        · rw [upd_same, List.map_append]
          rfl
        · rw [List.append_assoc]
          exact e7
      · obtain ⟨sm7, ms7, hD7, e7⟩ := hJ
        refine ⟨sm7, ms7, hD7, ?_⟩
        rw [List.length_map, List.drop_of_length_le (Nat.le_refl _)] at e7
        exact e7
    obtain ⟨sm5, ms, hD2, e⟩ := hI5
    rw [hxl, List.drop_of_length_le (Nat.le_refl _), List.flatten_nil, List.append_nil] at e
    subst e
    -- len(set(sitting)) < len(sitting)
    refine ⟨.ref D2, rfl, D2, r.flatten, rfl, SqL.of hD2, by omega, .ref D2, rfl, D2, _, rfl, .inl (SqL.of hD2), _, _, rfl, rfl, _, rfl, ite2 (fun h3 => ?_) (fun h3 => ?_)⟩
    · have h3 := of_decide_eq_true h3
      refine no _ sm5 fun y => ?_
      have := (metN_iff _).mpr y.nd
      rw [List.length_map] at h3
      omega
    have hnd : r.flatten.Nodup := by
      refine (metN_iff _).mp ?_
      have h4 : ¬ (((metN r.flatten : Nat) : Int) < (((r.flatten.map V.int).length : Nat) : Int)) := fun y => h3 (decide_eq_true y)
      rw [List.length_map] at h4
      have := metN_le r.flatten
      omega
    -- rises([table[0] ..])
    refine ⟨.ref a, rfl, a, rfl, ⟨_, haT sm5⟩, fun D3 nD3 => ?_⟩
    have nD30 : H D3 = none := sm5.free nD3
    refine lc_it walk_tup (fun i H6 => Same H H6 ∧ H6 D3 = some (.lst (((r.take i).map (·.headD 0)).map V.int))) ⟨sm5.trans (same_new nD3), upd_same⟩ (fun i H6 _ p => haT p.1) (fun i x H6 H7 hi hI6 y => ?_) (fun H6 hI6 => ?_)
    · obtain ⟨rfl, hx⟩ := y
      obtain ⟨t, ht, b, rfl, hb⟩ := paired_getL hxs hx
      obtain ⟨sm, hD3⟩ := hI6
      refine ⟨wipe_put (by decide), yesT ?_⟩
      show tOp _ _ _ [some (.ref p), some (.ref a), some (.ref D2), some (.ref b), none] _ _
      refine ⟨.ref b, rfl, b, _, 0, _, rfl, rfl, SqT.of (sm _ _ hb), atI_head (hall t (List.mem_of_getElem? ht)).sz.1, _, hD3, ?_, same_put sm nD30, ?_⟩
      · rw [List.length_map, List.length_map, List.length_take]
        omega
      · rw [upd_same, takeSucc ht, List.map_append, List.map_append]
        rfl
    obtain ⟨sm6, hD3⟩ := hI6
    rw [hxl, List.take_of_length_le (Nat.le_refl _)] at hD3
    refine ⟨D3, r.map (·.headD 0), rfl, .inl (SqL.of hD3), by rw [List.length_map]; exact hlen, fun H7 s7 => ?_⟩
    refine q _ H7 (sm6.trans s7) ?_
    rw [rises_iff, isRound_iff]
    exact ⟨fun y => ⟨h1, hall, hnd, y⟩, fun y => y.2.2.2⟩
end Nf

set_option Elab.async false
set_option linter.all false
set_option maxRecDepth 100000
set_option maxHeartbeats 4000000
namespace Nf
open PySem PySem.Spec PyProof.Rows L2
variable {P : Program} {w : World} {K : PySem.W.Frag} {mg : Str → Option Value} {base : Heap}
/-! ### few, many -/
/-- a display's row of written pairs -/
def pairsA : List (Int × Int) → TA
  | [] => tNil
  | p :: ps => tCons (tTup (tCons (tC (.int p.1)) (tCons (tC (.int p.2)) tNil))) (pairsA ps)
theorem pairsA_ok {σ : L2.St} : ∀ (ps : List (Int × Int)) {H : Hp} {Q : List V → Hp → Prop}, (∀ vs H', Same H H' → Paired (PairV H') vs ps → Q vs H') → pairsA ps σ H Q
  | [], H, Q, h => h [] H (Same.refl H) .nil
  | p :: ps, H, Q, h => by
    refine ⟨two_le, fun T nT => ?_⟩
    refine pairsA_ok ps fun vs H' s hv => ?_
    exact h _ H' ((same_new nT).trans s) (.cons ⟨T, rfl, s _ _ upd_same⟩ hv)
theorem lst_pairs {σ : L2.St} (ps : List (Int × Int)) {H : Hp} {Q : VK} (hl : ps.length ≤ sizeLine) (h : ∀ vs H' l, Same H H' → Paired (PairV H') vs ps → H' l = none → Q (.ref l) (upd H' l (.lst vs))) : tLst (pairsA ps) σ H Q := by
  refine pairsA_ok ps fun vs H' s hv => ⟨?_, fun l nl => h vs H' l s hv nl⟩
  rw [paired_len hv]
  exact hl
def fewL : List (Int × Int) := [(6, 2), (8, 2), (9, 3), (4, 2), (6, 3), (8, 4), (8, 2), (9, 3), (2, 2), (3, 3), (4, 4), (7, 7)]
theorem few_ok : ∀ p ∈ fewL, IsParty p.1 p.2 ∧ p.1 ≤ 9 := by
  intro p hp
  simp only [fewL, List.mem_cons, List.not_mem_nil, or_false] at hp
  rcases hp with h | h | h | h | h | h | h | h | h | h | h | h <;> (subst h; exact ⟨⟨by decide, by decide, by decide, by decide, by decide⟩, by decide⟩)
theorem scFew : FnScope ["_law_row", "_law_some"] ["_law_row"] (defScope lFew) := ⟨rfl, rfl, rfl, by decide +kernel, rfl, by decide +kernel, by decide +kernel⟩
def spFew (K : PySem.W.Frag) : Sp := fun vs H Q _ => ∃ (r a : Addr) (ns : List Int), vs = [.ref r] ∧ RowAt K H r a ns ∧ ∀ x H' g s, RowAt K H' r a ns → Sx r H H' → PairV H' x (g, s) → IsParty g s → g ≤ 9 → Q x H'
theorem ok_few {f fT : Addr} {fd fdT : FuncData} (F : Fun K "_law_few" "_law_few" lFew f fd) (B : Blt mg) (FT : Fun K "_law_taken" "_law_taken" lTaken fT fdT) (bT : Binds K fdT ["_law_row", "_law_many_here"] []) (gT : mg "_law_taken" = some (.ref fT)) : FnOk P w K mg base CX0 2 f fd ["_law_row"] (spFew K) := by
  have GT : FnOk P w K mg base CX0 1 fT fdT ["_law_row", "_law_many_here"] (spTaken K) := ok_taken FT B
  refine F.ok scFew (fun vs H Q E h => ?_) (fun cdv A outer s H vs Q E hr h => ?_)
  · obtain ⟨r, a, ns, rfl, _⟩ := h
    rfl
  · obtain ⟨r, a, ns, rfl, hR, q⟩ := h
    have pp : ∀ {X : Cx} {i j k l m n pos pos'}, PE X (.Tuple [.Constant (.int i) k pos, .Constant (.int j) l pos'] m n) (tTup (tCons (tC (.int i)) (tCons (tC (.int j)) tNil))) := pe_tup (pa_cons pe_int (pa_cons pe_int pa_nil))
    refine ⟨_, pss_cons (ps_set (i := 1) (te := tLst (pairsA fewL)) scFew.nd rfl (.inl rfl) (pe_lst (pa_cons pp (pa_cons pp (pa_cons pp (pa_cons pp (pa_cons pp (pa_cons pp (pa_cons pp (pa_cons pp (pa_cons pp (pa_cons pp (pa_cons pp (pa_cons pp pa_nil))))))))))))))
      (pss_one (ps_ret (pe_ix ix_list (pv 1) (pe_call GT hr (by rfl) gT FT.kp bT .nil pass0 (pa_cons (pv 0) (pa_cons pe_int pa_nil))) (fun _ _ => rfl)))), ?_⟩
    dsimp only [tSeq, tAsg]
    refine lst_pairs fewL (by decide) fun vs H1 l s1 hv nl => ?_
    have hvl := paired_len hv
    have h12 : vs.length = 12 := hvl
    have s2 : Same H1 (upd H1 l (.lst vs)) := same_new nl
    refine ⟨.ref l, rfl, .ref r, rfl, r, a, ns, 12, rfl, (hR.keep s1).keep s2, by decide, by decide, fun v H3 v0 v1 hR3 s3 => ?_⟩
    obtain ⟨xr, hxr⟩ := hR.lst
    have nlr : l ≠ r := fun e => by
      rw [e, s1 _ _ hxr] at nl
      cases nl
    have hlt : v.toNat < vs.length := by omega
    have hat : vs[v.toNat]? = some vs[v.toNat] := List.getElem?_eq_getElem hlt
    obtain ⟨p, hp, hx⟩ := paired_getL hv hat
    refine ⟨l, vs, v, vs[v.toNat], rfl, rfl, SqL.of (s3 _ _ nlr upd_same), ?_, ?_⟩
    · exact at_of (show v = ((v.toNat : Nat) : Int) by omega) hat
    · obtain ⟨h1, h2⟩ := few_ok p (List.mem_of_getElem? hp)
      have hT : SameT (upd H1 l (.lst vs)) H3 := Sx.toT s3 (s2 _ _ (s1 _ _ hxr))
      exact q _ H3 p.1 p.2 hR3 ((same_sx (s1.trans s2)).trans s3) ((hx.mono (same_toT s2)).mono hT) h1 h2
theorem scMany : FnScope ["_law_row", "_law_size", "_law_guests"] ["_law_row"] (defScope lMany) := ⟨rfl, rfl, rfl, by decide +kernel, rfl, by decide +kernel, by decide +kernel⟩
def spMany (K : PySem.W.Frag) : Sp := fun vs H Q _ => ∃ (r a : Addr) (ns : List Int), vs = [.ref r] ∧ RowAt K H r a ns ∧ ∀ x H' g s, RowAt K H' r a ns → Sx r H H' → PairV H' x (g, s) → IsParty g s → Q x H'
theorem many_party {s t : Int} (h0 : 2 ≤ s) (h1 : s ≤ 8) (t0 : 0 ≤ t) (t1 : t < 64 / s) : IsParty (s * (1 + t)) s := by
  have e : s * (64 / s) ≤ 64 := Int.mul_ediv_self_le (by omega)
  have m : s * (1 + t) ≤ s * (64 / s) := Int.mul_le_mul_of_nonneg_left (by omega) (by omega)
  have l : s * 1 ≤ s * (1 + t) := Int.mul_le_mul_of_nonneg_left (by omega) (by omega)
  exact ⟨by omega, by omega, h0, h1, Int.mul_emod_right _ _⟩
theorem ok_many {f fT fF : Addr} {fd fdT fdF : FuncData} (F : Fun K "_law_many" "_law_many" lMany f fd) (B : Blt mg) (FT : Fun K "_law_taken" "_law_taken" lTaken fT fdT) (bT : Binds K fdT ["_law_row", "_law_many_here"] []) (gT : mg "_law_taken" = some (.ref fT))
    (FF : Fun K "_law_few" "_law_few" lFew fF fdF) (bF : Binds K fdF ["_law_row"] []) (gF : mg "_law_few" = some (.ref fF)) : FnOk P w K mg base CX0 3 f fd ["_law_row"] (spMany K) := by
  have GT : FnOk P w K mg base CX0 1 fT fdT ["_law_row", "_law_many_here"] (spTaken K) := ok_taken FT B
  have GF : FnOk P w K mg base CX0 2 fF fdF ["_law_row"] (spFew K) := ok_few FF B FT bT gT
  refine F.ok scMany (fun vs H Q E h => ?_) (fun cdv A outer s H vs Q E hr h => ?_)
  · obtain ⟨r, a, ns, rfl, _⟩ := h
    rfl
  · obtain ⟨r, a, ns, rfl, hR, q⟩ := h
    have hr1 : Room 1 _ := hr.mono (by decide)
    refine ⟨_, pss_cons (ps_set (i := 1) scMany.nd rfl (.inl rfl) (pe_op op_add pe_int (pe_call GT hr1 (by rfl) gT FT.kp bT .nil pass0 (pa_cons (pv 0) (pa_cons pe_int pa_nil)))))
      (pss_cons (ps_set (i := 2) scMany.nd rfl (.inl rfl) (pe_op op_mul (pv 1) (pe_op op_add pe_int (pe_call GT hr1 (by rfl) gT FT.kp bT .nil pass0 (pa_cons (pv 0) (pa_cons (pe_op op_fdiv pe_int (pv 1)) pa_nil))))))
      (pss_one (ps_ret (pe_ix ix_list (pe_lst (pa_cons (pe_call GF hr (by rfl) gF FF.kp bF .nil pass0 (pa_cons (pv 0) pa_nil)) (pa_cons (pe_tup (pa_cons (pv 2) (pa_cons (pv 1) pa_nil))) pa_nil)))
        (pe_call GT hr1 (by rfl) gT FT.kp bT .nil pass0 (pa_cons (pv 0) (pa_cons pe_int pa_nil))) (fun _ _ => rfl))))), ?_⟩
    refine ⟨.ref r, rfl, r, a, ns, 7, rfl, hR, by decide, by decide, fun v H1 v0 v1 R1 s1 => ⟨2, v, rfl, rfl, ?_⟩⟩
    refine ⟨.int (2 + v), rfl, .ref r, rfl, .int (2 + v), rfl, 64, 2 + v, rfl, rfl, ⟨by omega, by omega⟩, r, a, ns, 64 / (2 + v), rfl, R1, ?_, ?_, fun t H2 t0 t1 R2 s2 => ⟨1, t, rfl, rfl, 2 + v, 1 + t, rfl, rfl, .inl ⟨by omega, by omega⟩, ?_⟩⟩
    · have : 1 ≤ 64 / (2 + v) := Int.le_ediv_of_mul_le (by omega) (by omega)
      omega
    · have : 64 / (2 + v) ≤ 64 := Int.ediv_le_self _ (by omega)
      omega
    refine ⟨.ref r, rfl, r, a, ns, rfl, R2, fun x H3 g z R3 s3 hx hI _ => ?_⟩
    refine ⟨.int ((2 + v) * (1 + t)), rfl, .int (2 + v), rfl, two_le, fun T nT => ?_⟩
    have s4 : Same H3 (upd H3 T (.tup [.int ((2 + v) * (1 + t)), .int (2 + v)])) := same_new nT
    refine ⟨two_le, fun l nl => ?_⟩
    have s5 := s4.trans (same_new (o := .lst [x, .ref T]) nl)
    refine ⟨.ref r, rfl, r, a, ns, 2, rfl, R3.keep s5, by decide, by decide, fun u H6 u0 u1 R6 s6 => ?_⟩
    obtain ⟨xr, hxr⟩ := R3.lst
    have hT5 : SameT (upd (upd H3 T (.tup [.int ((2 + v) * (1 + t)), .int (2 + v)])) l (.lst [x, .ref T])) H6 := Sx.toT s6 (s5 _ _ hxr)
    have sx := ((s1.trans s2).trans s3).trans ((same_sx s5).trans s6)
    have nlr : l ≠ r := fun e => by
      rw [e, s4 _ _ hxr] at nl
      cases nl
    have hl6 := s6 _ _ nlr upd_same
    by_cases hu : u = 0
    · subst hu
      exact ⟨l, _, 0, x, rfl, rfl, SqL.of hl6, rfl, q x H6 g z R6 sx ((hx.mono (same_toT s5)).mono hT5) hI⟩
    · have e1 : u = 1 := by omega
      subst e1
      refine ⟨l, _, 1, .ref T, rfl, rfl, SqL.of hl6, rfl, q _ H6 ((2 + v) * (1 + t)) (2 + v) R6 sx ⟨T, rfl, hT5 _ _ ?_⟩ (many_party (by omega) (by omega) t0 t1)⟩
      rw [upd_ne (ne_of_none upd_same nl)]
      exact upd_same
end Nf

set_option Elab.async false
set_option linter.all false
set_option maxRecDepth 100000
set_option maxHeartbeats 4000000
namespace Nf
open PySem PySem.Spec PyProof.Rows L2
variable {P : Program} {w : World} {K : PySem.W.Frag} {mg : Str → Option Value} {base : Heap}
/-! ### mixed -/
theorem scMixed : FnScope ["_law_row", "_law_some", "_law_left", "_law_found"] ["_law_row", "_law_some"] (defScope lMixed) := ⟨rfl, rfl, rfl, by decide +kernel, rfl, by decide +kernel, by decide +kernel⟩
def spMixed (K : PySem.W.Frag) : Sp := fun vs H Q _ => ∃ (r a b : Addr) (ns l : List Int), vs = [.ref r, .ref b] ∧ RowAt K H r a ns ∧ SqL K H b (l.map V.int) ∧ l.length ≤ 100000 ∧
  ∀ (q : Addr) (H' : Hp) (l' : List Int), RowAt K H' r a ns → Sx r H H' → H q = none → H' q = some (.lst (l'.map V.int)) → l'.Perm l → Q (.ref q) H'
theorem eqv_nil (l : List Int) : PyData.eqv (.list (l.map .int)) (.list []) = l.isEmpty := by
  cases l <;> simp [PyData.eqv, PyData.eqvAll]
theorem shNil : SeqAt.shaped (.list []) = true := by decide +kernel
theorem erase_map : ∀ (l : List Int) (j : Nat), (l.map V.int).eraseIdx j = (l.eraseIdx j).map V.int
  | [], _ => rfl
  | _ :: _, 0 => rfl
  | x :: l, j + 1 => by
    simp only [List.map_cons, List.eraseIdx_cons_succ, erase_map l j]
theorem seqIx {l : List Int} {v : Int} (h0 : 0 ≤ v) (h1 : v < l.length) : seqIndex? v (l.map V.int).length = some v.toNat := by
  unfold seqIndex?
  rw [List.length_map]
  have h2 : ¬ v < 0 := by omega
  simp [h2]
  omega
theorem ok_mixed {f fT : Addr} {fd fdT : FuncData} (F : Fun K "_law_mixed" "_law_mixed" lMixed f fd) (B : Blt mg) (FT : Fun K "_law_taken" "_law_taken" lTaken fT fdT) (bT : Binds K fdT ["_law_row", "_law_many_here"] []) (gT : mg "_law_taken" = some (.ref fT)) : FnOk P w K mg base CX0 2 f fd ["_law_row", "_law_some"] (spMixed K) := by
  have GT : FnOk P w K mg base CX0 1 fT fdT ["_law_row", "_law_many_here"] (spTaken K) := ok_taken FT B
  refine F.ok scMixed (fun vs H Q E h => ?_) (fun cdv A outer s H vs Q E hr h => ?_)
  · obtain ⟨r, a, b, ns, l, rfl, _⟩ := h
    rfl
  · obtain ⟨r, a, b, ns, l, rfl, hR, hS, hlen, q⟩ := h
    refine ⟨_, pss_cons (ps_set (i := 2) scMixed.nd rfl (.inl rfl) (pe_callTy call_list_of (by rfl) B.list (by decide +kernel) (pa_cons (pv 1) pa_nil)))
      (pss_cons (ps_set (i := 3) scMixed.nd rfl (.inl rfl) (pe_lst pa_nil))
      (pss_cons (ps_while PassesOwn.never (pt_cmpR (op_neD hr.units) (pv 2) (pe_lst pa_nil) (nomark _))
        (pss_one (ps_expr (pe_bm PySem.F.plainAttrs_list PySem.F.slot_list_append PySem.F.type_list_append mt_append (pv 3) (pa_cons
          (pe_bm PySem.F.plainAttrs_list PySem.F.slot_list_pop PySem.F.type_list_pop mt_popAt (pv 2) (pa_cons (pe_call GT hr (by rfl) gT FT.kp bT .nil pass0 (pa_cons (pv 0) (pa_cons (pe_callB call_len_seq (by rfl) B.len PySem.boot_len (pa_cons (pv 2) pa_nil)) pa_nil))) pa_nil)) pa_nil)))))
      (pss_one (ps_ret (pv 3))))), ?_⟩
    have big : (100000 : Nat) < sizeLine := by decide
    refine ⟨.ref b, rfl, b, _, rfl, .inl hS, fun c nc => ?_⟩
    have s1 : Same H (upd H c (.lst (l.map V.int))) := same_new nc
    refine ⟨Nat.zero_le _, fun d nd => ?_⟩
    have s2 := s1.trans (same_new (o := .lst []) nd)
    have hcd : c ≠ d := ne_of_none upd_same nd
    have nd0 : H d = none := s1.free nd
    obtain ⟨xr0, hxr0⟩ := hR.lst
    have ncr : c ≠ r := fun e => by
      rw [e, hxr0] at nc
      cases nc
    have ndr : d ≠ r := fun e => by
      rw [e, hxr0] at nd0
      cases nd0
    refine while_by (fun σ H2 => ∃ (m k : List Int), σ = [some (.ref r), some (.ref b), some (.ref c), some (.ref d)] ∧ RowAt K H2 r a ns ∧ Sx r H H2 ∧ H2 c = some (.lst (m.map V.int)) ∧ H2 d = some (.lst (k.map V.int)) ∧ (k ++ m).Perm l)
      (fun σ H2 => match H2 c with | some (.lst xs) => xs.length | _ => 0) ⟨l, [], rfl, hR.keep s2, same_sx s2, ?_, upd_same, by simp⟩ (fun σ H2 h => ?_) (fun σ H2 Q1 Q2 hq h => ?_)
    · rw [upd_ne hcd]
      exact upd_same
    · obtain ⟨m, k, rfl, R2, sx, hc, hd, hp⟩ := h
      obtain ⟨xr, hxr⟩ := R2.lst
      have hml : k.length + m.length = l.length := by
        rw [← hp.length_eq, List.length_append]
      refine ⟨.ref c, rfl, Nat.zero_le _, fun e ne => ?_⟩
      have s3 : Same H2 (upd H2 e (.lst [])) := same_new ne
      refine ⟨.list (m.map .int), .list [], .lst (SqL.of (s3 _ _ hc)) (dpAll_ints m), .lst (SqL.of upd_same) .nil, shInts m, shNil, _, rfl, ?_⟩
      rw [eqv_nil]
      cases m with
      | nil =>
        refine iteF ?_
        have hkp : k.Perm l := by simpa using hp
        exact ⟨.ref d, rfl, q d _ k (R2.keep s3) (sx.trans (same_sx s3)) nd0 (s3 _ _ hd) hkp⟩
      | cons m0 m' =>
        refine iteT ?_
        refine ⟨.ref d, rfl, .inl ⟨rfl, _, SqL.of (s3 _ _ hd)⟩, .ref c, rfl, .inl ⟨rfl, _, SqL.of (s3 _ _ hc)⟩, .ref r, rfl, .ref c, rfl, c, _, rfl, .inl (SqL.of (s3 _ _ hc)), r, a, ns, _, rfl, R2.keep s3, ?_, ?_, fun v H4 v0 v1 R4 s4 => ?_⟩
        · rw [List.length_map, List.length_cons]
          omega
        · rw [List.length_map]
          omega
        rw [List.length_map] at v1
        have hc4 := s4 _ _ ncr (s3 _ _ hc)
        have hd4 := s4 _ _ ndr (s3 _ _ hd)
        have hlt : v.toNat < (m0 :: m').length := by omega
        refine ⟨c, _, v, v.toNat, .int (m0 :: m')[v.toNat], rfl, rfl, hc4, by omega, ?_, seqIx v0 v1, int_getElem? (List.getElem?_eq_getElem hlt), ?_⟩
        · rw [List.length_cons] at *
          omega
        have hd5 : (upd H4 c (.lst (((m0 :: m').map V.int).eraseIdx v.toNat))) d = some (.lst (k.map V.int)) := by
          rw [upd_ne hcd.symm]
          exact hd4
        refine ⟨d, _, _, rfl, rfl, hd5, ?_, ?_⟩
        · rw [List.length_map]
          rw [List.length_cons] at hml
          omega
        refine ⟨⟨(m0 :: m').eraseIdx v.toNat, k ++ [(m0 :: m')[v.toNat]], rfl, ?_, ?_, ?_, ?_, ?_⟩, ?_⟩
        · exact row_put hR nd0 (row_put hR nc R4)
        · exact sx_put (sx_put ((sx.trans (same_sx s3)).trans s4) nc) nd0
        · rw [upd_ne hcd, upd_same, erase_map]
        · rw [upd_same, List.map_append]
          rfl
        · refine List.Perm.trans ?_ hp
          rw [List.append_assoc]
          exact List.Perm.append_left _ (perm_erase hlt)
        · show (match (upd (upd H4 c _) d _) c with | some (.lst xs) => xs.length | _ => 0) < (match H2 c with | some (.lst xs) => xs.length | _ => 0)
          rw [upd_ne hcd, upd_same, hc]
          show (((m0 :: m').map V.int).eraseIdx v.toNat).length < ((m0 :: m').map V.int).length
          rw [erase_map, List.length_map, List.length_map, List.length_eraseIdx_of_lt hlt]
          simp
    · obtain ⟨v, e, z, h⟩ := h
      exact ⟨v, e, z, fun p np => by
        obtain ⟨d1, e1, h1, h2, h3, h4, k1, ek, hk⟩ := h p np
        exact ⟨d1, e1, h1, h2, h3, h4, k1, ek, hq _ _ hk⟩⟩
end Nf

set_option Elab.async false
set_option linter.all false
set_option maxRecDepth 100000
set_option maxHeartbeats 4000000
namespace Nf
open PySem PySem.Spec PyProof.Rows L2
variable {P : Program} {w : World} {K : PySem.W.Frag} {mg : Str → Option Value} {base : Heap}
/-! ### seated -/
theorem cutMid (xs : List V) (i j : Nat) : cutV xs (some ((i : Nat) : Int)) (some ((i + j : Nat) : Int)) = (xs.drop i).take j := by
  unfold cutV
  rw [HT.sIx_nat xs.length 0 i, HT.sIx_nat xs.length xs.length (i + j)]
  refine List.ext_getElem? fun k => ?_
  rw [List.getElem?_take, List.getElem?_take, List.getElem?_drop, List.getElem?_drop]
  by_cases h1 : i ≤ xs.length
  · rw [Nat.min_eq_left h1]
    by_cases h2 : k < j
    · rw [if_pos h2]
      by_cases h3 : k < min (i + j) xs.length - i
      · rw [if_pos h3]
      · rw [if_neg h3, List.getElem?_eq_none (by omega)]
    · rw [if_neg h2, if_neg (by omega)]
  · rw [Nat.min_eq_right (by omega)]
    rw [List.getElem?_eq_none (by omega), List.getElem?_eq_none (by omega)]
    simp
theorem size_chunks {n z : Nat} (hs : 1 ≤ z) : Builtin.Range.rangeSize 0 ((n * z : Nat) : Int) (z : Nat) = n := by
  unfold Builtin.Range.rangeSize
  rw [if_pos (by omega)]
  cases n with
  | zero => simp
  | succ m =>
    have e0 : (((m + 1) * z : Nat) : Int) = (z : Int) * m + z := by
      rw [Nat.add_mul, Nat.one_mul, Int.natCast_add, Int.natCast_mul, Int.mul_comm]
    have hm : (0 : Int) ≤ (z : Int) * m := Int.mul_nonneg (by omega) (by omega)
    rw [if_pos (by omega)]
    have e : (((m + 1) * z : Nat) : Int) - 0 - 1 = ((z : Int) - 1) + (z : Int) * m := by omega
    rw [e, Int.add_mul_ediv_left _ _ (by omega), Int.ediv_eq_zero_of_lt (by omega) (by omega)]
    omega
theorem rgc_chunks {n z : Nat} (hs : 1 ≤ z) (hs8 : z ≤ 1000) (hn : n * z ≤ 100000) : RgC 0 ((n * z : Nat) : Int) (z : Nat) n := by
  refine ⟨by omega, by omega, ?_, size_chunks hs⟩
  have hnn : n ≤ 100000 := Nat.le_trans (Nat.le_mul_of_pos_right n hs) hn
  unfold Builtin.Range.small
  rw [size_chunks hs]
  generalize n * z = N at *
  have hz : ((z : Nat) : Int) > 0 := by omega
  simp only [Builtin.Range.rangeFitsLong, Bool.and_eq_true, Bool.or_eq_true, decide_eq_true_eq, beq_iff_eq, hz, if_true]
  first | omega | (split <;> omega)
theorem scSeated : FnScope ["_law_guests", "_law_size", "_law_some", "_law_k"] ["_law_guests", "_law_size"] (defScope lSeated) := ⟨rfl, rfl, rfl, by decide +kernel, rfl, by decide +kernel, by decide +kernel⟩
def spSeated (K : PySem.W.Frag) : Sp := fun vs H Q _ => ∃ (b : Addr) (l : List Int) (s n : Nat), vs = [.ref b, .int (s : Nat)] ∧ SqL K H b (l.map V.int) ∧ 1 ≤ s ∧ s ≤ 1000 ∧ l.length = n * s ∧ n * s ≤ 100000 ∧
  ∀ x H', Same H H' → RndV H' x (seatedM l s n) → Q x H'
theorem ok_seated {f : Addr} {fd : FuncData} (F : Fun K "_law_seated" "_law_seated" lSeated f fd) (B : Blt mg) : FnOk P w K mg base CX0 1 f fd ["_law_guests", "_law_size"] (spSeated K) := by
  refine F.ok scSeated (fun vs H Q E h => ?_) (fun cdv A outer s H vs Q E hr h => ?_)
  · obtain ⟨b, l, s, n, rfl, _⟩ := h
    rfl
  · obtain ⟨b, l, z, n, rfl, hS, hz1, hz2, hl, hn, q⟩ := h
    have hll : l.length ≤ 100000 := by omega
    have big : (100000 : Nat) < sizeLine := by decide
    refine ⟨_, pss_cons (ps_setLcN (i := 2) (own := [("_law_k", 3)]) (wi := iRng3 (tCons (tC (.int 0)) (tCons (tCB (fun xs H Q => ∃ p ys, xs = [.ref p] ∧ (SqL K H p ys ∨ SqT K H p ys) ∧ Q (.int ys.length) H) (tCons (tVar 0) tNil)) (tCons (tVar 1) tNil))))
        (t := tCl (gName 3) tYes [3] (bLast (tCB (fun xs H Q => ∃ p ys, xs = [.ref p] ∧ ((SqL K H p ys ∧ ∀ l, H l = none → Q (.ref l) (upd H l (.tup ys))) ∨ (SqT K H p ys ∧ Q (.ref p) H))) (tCons (tCB (rSortD K (fun i : Int => PyData.int i)) (tCons (tSl (rSlL K) (tVar 0) (tPart (tVar 3)) (tPart (tOp (rI0 fun i j => .int (i + j)) (tVar 3) (tVar 1)))) tNil)) tNil))))
        (by rfl) scSeated.nd rfl rfl (sw_true rfl rfl rfl (by decide +kernel)) (pi_range3 (by rfl) B.range (pa_cons pe_int (pa_cons (pe_callB call_len_seq (by rfl) B.len PySem.boot_len (pa_cons (pv 0) pa_nil)) (pa_cons (pv 1) pa_nil))))
        (blkOk_by (N := ["_law_guests", "_law_size", "_law_some", "_law_k"]) (sc := defScope lSeated) (by decide +kernel))
        (fun _ _ _ _ _ => pcl_last rfl rfl rfl rfl (pg_name (i := 3) (x := "_law_k") scSeated.nd rfl (.inl rfl) (.inr rfl)) pts_nil (pe_callTy call_tuple_of (by rfl) B.tuple (by decide +kernel) (pa_cons (pe_callB (cr_sortD (fun i : Int => PyData.int i) hr.units) (by rfl) B.sorted (by decide +kernel)
          (pa_cons (pe_slice sl_list (pv 0) (po_some (pv 3)) (po_some (pe_op op_add (pv 3) (pv 1)))) pa_nil)) pa_nil))))
      (pss_one (ps_ret (pe_callTy call_tuple_of (by rfl) B.tuple (by decide +kernel) (pa_cons (pe_callB (cr_sortD dT hr.units) (by rfl) B.sorted (by decide +kernel) (pa_cons (pv 2) pa_nil)) pa_nil)))), ?_⟩
    refine ⟨.ref b, rfl, b, _, rfl, .inl hS, .int (z : Nat), rfl, 0, _, _, n, rfl, ?_, fun D nD => ?_⟩
    · rw [List.length_map, hl]
      exact rgc_chunks hz1 hz2 hn
    have s0 : Same H (upd H D (.lst [])) := same_new nD
    show tCl (gName 3) tYes [3] _ _ D [some (.ref b), some (.int ((z : Nat) : Int)), none, none] _ _
    refine cl_it walk_rangeC (fun i H2 => Same H H2 ∧ ∃ acc, H2 D = some (.lst acc) ∧ Paired (TabV H2) acc ((List.range i).map fun i => sortI ((l.drop (i * z)).take z))) ⟨s0, [], upd_same, .nil⟩ (fun _ _ _ _ => trivial) (fun i x H2 H3 hi hI y => ?_) (fun H2 hI => ?_)
    · obtain ⟨rfl, rfl⟩ := y
      obtain ⟨sm, acc, hD, hp⟩ := hI
      refine ⟨wipe_put (by decide), yesT ?_⟩
      show bLast _ D [some (.ref b), some (.int ((z : Nat) : Int)), none, some (.int (0 + (i : Nat) * ((z : Nat) : Int)))] _ _
      refine ⟨.ref b, rfl, .int (0 + (i : Nat) * ((z : Nat) : Int)), rfl, _, rfl, .int (0 + (i : Nat) * ((z : Nat) : Int)), rfl, .int ((z : Nat) : Int), rfl, _, _, rfl, rfl, _, rfl, b, _, rfl, sm.seq hS, fun c nc => ?_⟩
      have e1 : (0 : Int) + (i : Nat) * ((z : Nat) : Int) = ((i * z : Nat) : Int) := by
        rw [Int.natCast_mul]
        omega
      have e2 : (0 : Int) + (i : Nat) * ((z : Nat) : Int) + ((z : Nat) : Int) = ((i * z + z : Nat) : Int) := by
        rw [Int.natCast_add, Int.natCast_mul]
        omega
      have ec : cutV (l.map V.int) (some (0 + (i : Nat) * ((z : Nat) : Int))) (some (0 + (i : Nat) * ((z : Nat) : Int) + ((z : Nat) : Int))) = ((l.drop (i * z)).take z).map V.int := by
        rw [e2, e1, cutMid, List.map_take, List.map_drop]
      rw [ec]
      have s1 : Same H3 (upd H3 c (.lst (((l.drop (i * z)).take z).map V.int))) := same_new nc
      dsimp only [tNil]
      refine sort_ints (.inl (SqL.of upd_same)) fun p np => ?_
      have s2 := s1.trans (same_new (o := .lst ((sortI ((l.drop (i * z)).take z)).map V.int)) np)
      refine ⟨p, _, rfl, .inl ⟨SqL.of upd_same, fun t nt => ?_⟩⟩
      have s3 := s2.trans (same_new (o := .tup ((sortI ((l.drop (i * z)).take z)).map V.int)) nt)
      have hD3 := s3 _ _ hD
      refine ⟨acc, hD3, ?_, same_put (sm.trans s3) nD, acc ++ [.ref t], upd_same, ?_⟩
      · have := paired_len hp
        simp only [List.length_map, List.length_range] at this
        have : i ≤ n * z := Nat.le_trans (Nat.le_of_lt hi) (Nat.le_mul_of_pos_right n hz1)
        omega
      · have keepT : ∀ {v : V} {u : Tbl}, TabV _ v u → TabV (upd _ D (.lst (acc ++ [.ref t]))) v u := fun {v u} h => by
          obtain ⟨a, rfl, ha⟩ := h
          exact ⟨a, rfl, by rw [upd_ne (ne_of ha hD3 (by intro e; cases e))]; exact ha⟩
        rw [List.range_succ, List.map_append]
        exact paired_snoc (paired_mono (fun v u h => keepT (h.mono (same_toT s3))) hp) (keepT ⟨t, rfl, upd_same⟩)
    · obtain ⟨sm, acc, hD, hp⟩ := hI
      refine ⟨.ref D, rfl, ?_⟩
      dsimp only [tNil]
      refine sort_tabs (.inl (SqL.of hD)) hp (fun t ht => ?_) fun ys p np hys => ?_
      · obtain ⟨i, hi, rfl⟩ := List.mem_map.mp ht
        have hi := List.mem_range.mp hi
        intro e
        have e2 : (sortI ((l.drop (i * z)).take z)).length = 0 := by rw [e]; rfl
        rw [(sortI_perm _).length_eq, List.length_take, List.length_drop, hl] at e2
        have h3 : (i + 1) * z ≤ n * z := Nat.mul_le_mul_right z hi
        rw [Nat.add_mul, Nat.one_mul] at h3
        omega
      · have s1 : Same H2 (upd H2 p (.lst ys)) := same_new np
        refine ⟨p, _, rfl, .inl ⟨SqL.of upd_same, fun t nt => ?_⟩⟩
        have s2 := s1.trans (same_new (o := .tup ys) nt)
        exact q _ _ (sm.trans s2) ⟨t, ys, rfl, upd_same, paired_mono (fun _ _ h => h.mono (same_toT s2)) hys⟩
end Nf

set_option Elab.async false
set_option linter.all false
set_option maxRecDepth 100000
set_option maxHeartbeats 4000000
namespace Nf
open PySem PySem.Spec PyProof.Rows L2
variable {P : Program} {w : World} {K : PySem.W.Frag} {mg : Str → Option Value} {base : Heap}
/-! ### the law's pairs, known, new -/
theorem scLPairs : FnScope ["_law_tables", "_law_found", "_law_table", "_law_k", "_law_other"] ["_law_tables"] (defScope lPairs) := ⟨rfl, rfl, rfl, by decide +kernel, rfl, by decide +kernel, by decide +kernel⟩
def spLPairs : Sp := fun vs H Q _ => ∃ (x : V) (r : Rnd), vs = [x] ∧ RndV H x r ∧ (pairsR r).length ≤ 100000 ∧ (∀ t ∈ r, t.length ≤ 100000) ∧
  ∀ H' q ys, Same H H' → H q = none → H' q = some (.lst ys) → Paired (PairV H') ys (pairsR r) → Q (.ref q) H'
theorem ok_lpairs {f : Addr} {fd : FuncData} (F : Fun K "_law_pairs" "_law_pairs" lPairs f fd) (B : Blt mg) : FnOk P w K mg base CX0 1 f fd ["_law_tables"] spLPairs := by
  refine F.ok scLPairs (fun vs H Q E h => ?_) (fun cdv A outer s H vs Q E hr h => ?_)
  · obtain ⟨x, r, rfl, _⟩ := h
    rfl
  · obtain ⟨x, r, rfl, ⟨p, xs, rfl, hp, hxs⟩, hlen, htl, q⟩ := h
    refine ⟨_, pss_cons (ps_set (i := 1) scLPairs.nd rfl (.inl rfl) (pe_lst pa_nil))
      (pss_cons (ps_for PassesOwn.never rfl (pi_tup (pv 0)) (pg_name (i := 2) scLPairs.nd rfl (.inl rfl))
        (pss_one (ps_for PassesOwn.never rfl (pi_range1 (by rfl) B.range (pa_cons (pe_callB call_len_seq (by rfl) B.len PySem.boot_len (pa_cons (pv 2) pa_nil)) pa_nil)) (pg_name (i := 3) scLPairs.nd rfl (.inl rfl))
          (pss_one (ps_for PassesOwn.never rfl (pi_tup (pe_slice sl_tupA (pv 2) (po_some (pe_op op_add (pv 3) pe_int)) po_none)) (pg_name (i := 4) scLPairs.nd rfl (.inl rfl))
            (pss_one (ps_expr (pe_bm PySem.F.plainAttrs_list PySem.F.slot_list_append PySem.F.type_list_append mt_append (pv 1) (pa_cons (pe_tup (pa_cons (pe_ix ix_tup (pv 2) (pv 3) (fun _ _ => rfl)) (pa_cons (pv 4) pa_nil))) pa_nil)))))))))
      (pss_one (ps_ret (pv 1)))), ?_⟩
    have hxl := paired_len hxs
    have hpl : (pairsR r).length < sizeLine := Nat.lt_of_le_of_lt hlen (by decide)
    refine ⟨Nat.zero_le _, fun D nD => ?_⟩
    have s0 : Same H (upd H D (.lst [])) := same_new nD
    refine ⟨.ref p, rfl, p, rfl, ⟨_, SqT.of (s0 _ _ hp)⟩, ?_⟩
    refine for_it (walk_tup (xs := xs)) (fun i σ H2 => ∃ (y2 y3 y4 : Option V), σ = [some (.ref p), some (.ref D), y2, y3, y4] ∧ PrI H D r H2 (pairsR (r.drop i))) ⟨none, none, none, rfl, s0, [], [], upd_same, .nil, by simp⟩ (fun i σ H2 _ h => ?_) (fun i x σ H2 H3 hi hI y => ?_) (fun σ H2 hI => ?_)
    · obtain ⟨_, _, _, _, h⟩ := h
      exact SqT.of (h.1 _ _ hp)
    · obtain ⟨y2, y3, y4, rfl, hI⟩ := hI
      obtain ⟨rfl, hx⟩ := y
      obtain ⟨t, ht, a, rfl, ha⟩ := paired_getL hxs hx
      have haT : ∀ {H' : Hp}, Same H H' → SqT K H' a (t.map V.int) := fun sm => SqT.of (sm _ _ ha)
      have ht5 := htl t (List.mem_of_getElem? ht)
      refine ⟨.ref a, rfl, a, _, rfl, .inr (haT hI.1), _, rfl, by omega, by rw [List.length_map]; omega, ?_⟩
      refine for_it walk_range (fun j σ H2 => ∃ (y3 y4 : Option V), σ = [some (.ref p), some (.ref D), some (.ref a), y3, y4] ∧ PrI H D r H2 (pairsT (t.drop j) ++ pairsR (r.drop (i + 1)))) ⟨y3, y4, rfl, hI.rem (by rw [List.drop_zero]; exact pairsR_drop ht)⟩ (fun _ _ _ _ _ => trivial) (fun j x σ H2 H3 hj hJ y => ?_) (fun σ H2 hJ => ?_)
      · obtain ⟨y3, y4, rfl, hJ⟩ := hJ
        obtain ⟨rfl, rfl⟩ := y
        have hjt : j < t.length := by
          rw [List.length_map] at hj
          omega
        have hn : t[j]? = some t[j] := List.getElem?_eq_getElem hjt
        generalize t[j] = n at hn
        have ej : (0 : Int) + (j : Nat) = ((j : Nat) : Int) := by omega
        have e1 : (0 : Int) + (j : Nat) + 1 = ((j + 1 : Nat) : Int) := by omega
        refine ⟨.ref a, rfl, .int (0 + (j : Nat)), rfl, _, _, rfl, rfl, _, rfl, a, _, rfl, haT hJ.1, fun hw => ?_, fun hw c nc => ?_⟩
        · have hz := hw.1
          rw [e1, HT.sIx_nat] at hz
          rw [List.length_map] at hz
          omega
        rw [e1, cutFrom, ← List.map_drop]
        have hJ2 := hJ.keep (same_new (o := .tup ((t.drop (j + 1)).map V.int)) nc)
        refine ⟨c, rfl, ⟨_, SqT.of upd_same⟩, ?_⟩
        refine for_it (walk_tup (xs := (t.drop (j + 1)).map V.int)) (fun m σ H2 => ∃ y4 : Option V, σ = [some (.ref p), some (.ref D), some (.ref a), some (.int (0 + (j : Nat))), y4] ∧ PrI H D r H2 (((t.drop (j + 1)).drop m).map (fun b => (n, b)) ++ (pairsT (t.drop (j + 1)) ++ pairsR (r.drop (i + 1)))) ∧ H2 c = some (.tup ((t.drop (j + 1)).map V.int)))
          ⟨y4, rfl, hJ2.rem (by rw [List.drop_zero, pairsT_drop hn, List.append_assoc]), upd_same⟩ (fun m σ H2 _ h => ?_) (fun m x σ H2 H3 hm hM y => ?_) (fun σ H2 hM => ?_)
        · obtain ⟨_, _, _, h⟩ := h
          exact SqT.of h
        · obtain ⟨y4, rfl, ⟨sm, acc, ps, hD, hps, e⟩, hc⟩ := hM
          obtain ⟨rfl, hx⟩ := y
          obtain ⟨b, hb, rfl⟩ := getElem?_int hx
          refine ⟨.ref D, rfl, .inl ⟨rfl, _, SqL.of hD⟩, .ref a, rfl, .int (0 + (j : Nat)), rfl, a, _, _, .int n, rfl, rfl, haT sm, ?_, .int b, rfl, two_le, fun T2 nT2 => ?_⟩
          · rw [ej]
            exact atI_nat (int_getElem? hn)
          have nDT : D ≠ T2 := ne_of_none hD nT2
          rw [dropCons hb, List.map_cons, List.cons_append] at e
          have s3 : Same H3 (upd H3 T2 (.tup [.int n, .int b])) := same_new nT2
          refine ⟨D, acc, _, rfl, rfl, (upd_ne nDT).trans hD, ?_, ⟨_, rfl, ⟨same_put (sm.trans s3) nD, acc ++ [.ref T2], ps ++ [(n, b)], upd_same, ?_, ?_⟩, ?_⟩⟩
          · have hl : ps.length ≤ (pairsR r).length := by
              rw [← e, List.length_append]
              omega
            have := paired_len hps
            omega
          · have keepT : ∀ {z : V} {pr : Int × Int}, PairV (upd H3 T2 (.tup [.int n, .int b])) z pr → PairV (upd (upd H3 T2 (.tup [.int n, .int b])) D (.lst (acc ++ [.ref T2]))) z pr := fun {z pr} h => by
              obtain ⟨u, rfl, hu⟩ := h
              refine ⟨u, rfl, ?_⟩
              rw [upd_ne (ne_of hu ((upd_ne nDT).trans hD) (by intro z; cases z))]
              exact hu
            exact paired_snoc (paired_mono (fun z pr h => keepT (h.mono (same_toT s3))) hps) (keepT ⟨T2, rfl, upd_same⟩)
          · rw [List.append_assoc]
            exact e
          · have ncD : c ≠ D := ne_of hc hD (by intro z; cases z)
            rw [upd_ne ncD]
            exact s3 _ _ hc
        · obtain ⟨y4, rfl, hM, _⟩ := hM
          exact ⟨_, _, rfl, hM.rem (by rw [List.length_map, List.drop_of_length_le (Nat.le_refl _)]; rfl)⟩
      · obtain ⟨y3, y4, rfl, hJ⟩ := hJ
        refine ⟨_, _, _, rfl, hJ.rem ?_⟩
        rw [List.length_map, show (((t.length : Nat) : Int)).toNat = t.length by omega, List.drop_of_length_le (Nat.le_refl _)]
        rfl
    · obtain ⟨y2, y3, y4, rfl, sm, acc, ps, hD, hps, e⟩ := hI
      rw [hxl, List.drop_of_length_le (Nat.le_refl _)] at e
      have e2 : ps = pairsR r := by simpa [pairsR] using e
      subst e2
      exact ⟨.ref D, rfl, q H2 D acc sm nD hD hps⟩
/-- the pairs that a dict knows -/
def key2 (p : Int × Int) : List Key := [Sum.inl p.1, Sum.inl p.2]
theorem key2_inj {p q : Int × Int} (h : key2 p = key2 q) : p = q := by
  obtain ⟨a, b⟩ := p
  obtain ⟨x, y⟩ := q
  obtain ⟨h1, h2⟩ := key2_ne.mp h
  exact Prod.ext h1 h2
theorem mem_key2 {ks : List (Int × Int)} {p : Int × Int} : key2 p ∈ ks.map key2 ↔ p ∈ ks := by
  constructor
  · intro h
    obtain ⟨q, hq, e⟩ := List.mem_map.mp h
    rw [← key2_inj e]
    exact hq
  · exact fun h => List.mem_map.mpr ⟨p, h, rfl⟩
theorem anyKey {κ : Type} [DecidableEq κ] (kvs : List (κ × V)) (k : κ) : ((kvs.any fun kv => decide (kv.1 = k)) = true) ↔ k ∈ kvs.map (·.1) := by
  simp only [List.any_eq_true, decide_eq_true_eq, List.mem_map]
theorem keysPut_old {κ : Type} [DecidableEq κ] {kvs : List (κ × V)} {k : κ} (v : V) (h : k ∈ kvs.map (·.1)) : (putK kvs k v).map (·.1) = kvs.map (·.1) := by
  unfold putK
  rw [if_pos ((anyKey kvs k).mpr h), List.map_map]
  refine List.map_congr_left fun kv _ => ?_
  show (if kv.1 = k then (kv.1, v) else kv).1 = kv.1
  split <;> rfl
theorem keysPut_new {κ : Type} [DecidableEq κ] {kvs : List (κ × V)} {k : κ} (v : V) (h : k ∉ kvs.map (·.1)) : (putK kvs k v).map (·.1) = kvs.map (·.1) ++ [k] := by
  unfold putK
  rw [if_neg (fun z => h ((anyKey kvs k).mp z))]
  simp
def KnS (H : Hp) (d : Addr) (ps : List (Int × Int)) (N : Nat) : Prop := ∃ kvs : List (List Key × V), H d = some (.dT kvs) ∧ kvs.length ≤ N ∧ (∀ a b : Int, (valV kvs [Sum.inl a, Sum.inl b]).isSome = true ↔ (a, b) ∈ ps) ∧ ∃ ks : List (Int × Int), kvs.map (·.1) = ks.map key2 ∧ ks.Nodup
/-- its keys: each pair once -/
theorem KnS.keys {H : Hp} {d : Addr} {ps : List (Int × Int)} {N : Nat} (h : KnS H d ps N) : ∃ (kvs : List (List Key × V)) (ks : List (Int × Int)), H d = some (.dT kvs) ∧ kvs.length ≤ N ∧ kvs.map (·.1) = ks.map key2 ∧ ks.Nodup ∧ ∀ p, p ∈ ks ↔ p ∈ ps := by
  obtain ⟨kvs, e, hl, hv, ks, hk, hn⟩ := h
  refine ⟨kvs, ks, e, hl, hk, hn, fun ⟨a, b⟩ => ?_⟩
  rw [← hv a b, ← valV_any, anyKey, hk]
  exact mem_key2.symm
theorem knS_same {H H' : Hp} {d : Addr} {ps : List (Int × Int)} {N : Nat} (h : KnS H d ps N) (s : Same H H') : KnS H' d ps N := by
  obtain ⟨kvs, e, q⟩ := h
  exact ⟨kvs, s _ _ e, q⟩
theorem knS_put {H : Hp} {d T : Addr} {N : Nat} {x y : Int} {ps : List (Int × Int)} {v : V} (h : KnS H d ps N) (hT : H T = some (.tup [.int x, .int y])) (hN : N < sizeLine) :
    ∃ kvs', DPut H d (.ref T) v (upd H d (.dT kvs')) ∧ KnS (upd H d (.dT kvs')) d (ps ++ [(x, y)]) (N + 1) := by
  obtain ⟨kvs, e, hl, hv, ks, hk, hn⟩ := h
  refine ⟨putK kvs [Sum.inl x, Sum.inl y] v, DPut.t (k := [Sum.inl x, Sum.inl y]) e hT (by omega), _, upd_same, ?_, fun a b => ?_, ?_⟩
  · have := length_putK kvs [Sum.inl x, Sum.inl y] v
    omega
  · rw [valV_put]
    by_cases h : a = x ∧ b = y
    · obtain ⟨rfl, rfl⟩ := h
      rw [if_pos rfl]
      simp
    · rw [if_neg (fun z => h (key2_ne.mp z)), hv]
      simp only [List.mem_append, List.mem_singleton, Prod.mk.injEq]
      exact ⟨fun z => .inl z, fun z => z.elim id fun z => absurd z h⟩
  · by_cases m : (x, y) ∈ ks
    · exact ⟨ks, by rw [keysPut_old v (by rw [hk]; exact mem_key2.mpr m), hk], hn⟩
    · refine ⟨ks ++ [(x, y)], by rw [keysPut_new v (by rw [hk]; exact fun z => m (mem_key2 (p := (x, y)) |>.mp z)), hk, List.map_append]; rfl, ?_⟩
      refine List.nodup_append.mpr ⟨hn, by simp, fun a ha b hb => ?_⟩
      rw [List.mem_singleton.mp hb]
      rintro rfl
      exact m ha
theorem scLKnown : FnScope ["_law_plan", "_law_found", "_law_tables", "_law_pair"] ["_law_plan"] (defScope lKnown) := ⟨rfl, rfl, rfl, by decide +kernel, rfl, by decide +kernel, by decide +kernel⟩
def spLKnown (K : PySem.W.Frag) : Sp := fun vs H Q _ => ∃ (l : Addr) (rs : List Rnd), vs = [.ref l] ∧ PlanV K H l rs ∧ rs.length ≤ 1000 ∧ (∀ r ∈ rs, (pairsR r).length ≤ 4096 ∧ ∀ t ∈ r, t.length ≤ 100000) ∧
  ∀ H' d, Same H H' → H d = none → KnS H' d (rs.flatMap pairsR) 5000000 → Q (.ref d) H'
theorem ok_lknown {f fP : Addr} {fd fdP : FuncData} (F : Fun K "_law_known" "_law_known" lKnown f fd) (B : Blt mg) (FP : Fun K "_law_pairs" "_law_pairs" lPairs fP fdP) (bP : Binds K fdP ["_law_tables"] []) (gP : mg "_law_pairs" = some (.ref fP)) : FnOk P w K mg base CX0 2 f fd ["_law_plan"] (spLKnown K) := by
  have GP : FnOk P w K mg base CX0 1 fP fdP ["_law_tables"] spLPairs := ok_lpairs FP B
  refine F.ok scLKnown (fun vs H Q E h => ?_) (fun cdv A outer s H vs Q E hr h => ?_)
  · obtain ⟨l, rs, rfl, _⟩ := h
    rfl
  · obtain ⟨l, rs, rfl, ⟨xs, hl, hxs⟩, hn, hS, q⟩ := h
    have hu := hu_of hr
    refine ⟨_, pss_cons (ps_set (i := 1) scLKnown.nd rfl (.inl rfl) pe_dnewT)
      (pss_cons (ps_for PassesOwn.never rfl (pi_list (pv 0)) (pg_name (i := 2) scLKnown.nd rfl (.inl rfl))
        (pss_one (ps_for PassesOwn.never rfl (pi_list (pe_call GP hr (by rfl) gP FP.kp bP .nil pass0 (pa_cons (pv 2) pa_nil))) (pg_name (i := 3) scLKnown.nd rfl (.inl rfl))
          (pss_one (ps_dput hu (pv 1) (pv 3) pe_bl rfl)))))
      (pss_one (ps_ret (pv 1)))), ?_⟩
    have hxl := paired_len hxs
    have big : (5000000 : Nat) < sizeLine := by decide
    intro d nd
    have s0 : Same H (upd H d (.dT [])) := same_new nd
    refine ⟨.ref l, rfl, l, rfl, ⟨_, s0.seq hl⟩, ?_⟩
    refine for_it (walk_list (xs := xs)) (fun i σ H2 => ∃ (y2 y3 : Option V), σ = [some (.ref l), some (.ref d), y2, y3] ∧ Same H H2 ∧ KnS H2 d ((rs.take i).flatMap pairsR) (i * 4096)) ⟨none, none, rfl, s0, [], upd_same, Nat.le_refl _, fun a b => by simp [valV], [], rfl, .nil⟩ (fun i σ H2 _ h => ?_) (fun i x σ H2 H3 hi hI y => ?_) (fun σ H2 hI => ?_)
    · obtain ⟨_, _, _, sm, _⟩ := h
      exact sm.seq hl
    · obtain ⟨y2, y3, rfl, sm, hK⟩ := hI
      obtain ⟨rfl, hx⟩ := y
      obtain ⟨r, hr0, hrx⟩ := paired_getL hxs hx
      obtain ⟨hp1, hp2⟩ := hS r (List.mem_of_getElem? hr0)
      refine ⟨x, rfl, x, r, rfl, hrx.mono (same_toT sm), by omega, hp2, fun H4 u ys s4 nu hu4 hys => ?_⟩
      refine ⟨u, rfl, ⟨_, SqL.of hu4⟩, ?_⟩
      have hyl := paired_len hys
      refine for_it (walk_list (xs := ys)) (fun m σ H5 => ∃ y3 : Option V, σ = [some (.ref l), some (.ref d), some x, y3] ∧ Same H H5 ∧ H5 u = some (.lst ys) ∧ Paired (PairV H5) ys (pairsR r) ∧ KnS H5 d ((rs.take i).flatMap pairsR ++ (pairsR r).take m) (i * 4096 + m))
        ⟨y3, rfl, sm.trans s4, hu4, hys, by rw [List.take_zero, List.append_nil]; exact knS_same hK s4⟩ (fun m σ H5 _ h => ?_) (fun m z σ H5 H6 hm hM y => ?_) (fun σ H5 hM => ?_)
      · obtain ⟨_, _, _, h, _⟩ := h
        exact SqL.of h
      · obtain ⟨y3, rfl, s5, hu5, hy5, hK5⟩ := hM
        obtain ⟨rfl, hz⟩ := y
        obtain ⟨⟨a, b⟩, hab, T, rfl, hT⟩ := paired_getL hy5 hz
        obtain ⟨kvs', hput, hK6⟩ := knS_put (v := .bl true) hK5 hT (by omega)
        obtain ⟨kv0, hd0, _⟩ := id hK5
        have nud : u ≠ d := ne_of hu5 hd0 (by intro e; cases e)
        refine ⟨.ref d, rfl, .ref T, rfl, d, _, rfl, hput, _, rfl, same_put s5 nd, by rw [upd_ne nud]; exact hu5, paired_mono (fun v pr h => ?_) hy5, ?_⟩
        · obtain ⟨w1, rfl, hw⟩ := h
          exact ⟨w1, rfl, by rw [upd_ne (ne_of hw hd0 (by intro e; cases e))]; exact hw⟩
        · rw [takeSucc hab, ← List.append_assoc]
          exact hK6
      · obtain ⟨y3, rfl, s5, hu5, hy5, hK5⟩ := hM
        rw [hyl, List.take_of_length_le (Nat.le_refl _)] at hK5
        refine ⟨_, _, rfl, s5, ?_⟩
        rw [takeSucc hr0, List.flatMap_append]
        obtain ⟨kvs, e, h1, h2⟩ := hK5
        exact ⟨kvs, e, by omega, by simpa using h2.1, h2.2⟩
    · obtain ⟨y2, y3, rfl, sm, hK⟩ := hI
      rw [hxl, List.take_of_length_le (Nat.le_refl _)] at hK
      obtain ⟨kvs, e, h1, h2⟩ := hK
      exact ⟨.ref d, rfl, q H2 d sm nd ⟨kvs, e, by omega, h2⟩⟩
def spLNew (K : PySem.W.Frag) : Sp := fun vs H Q _ => ∃ (x : V) (l : Addr) (r : Rnd) (rs : List Rnd), vs = [x, .ref l] ∧ RndV H x r ∧ (pairsR r).length ≤ 100000 ∧ (∀ t ∈ r, t.length ≤ 100000) ∧ PlanV K H l rs ∧ rs.length ≤ 1000 ∧ (∀ r ∈ rs, (pairsR r).length ≤ 4096 ∧ ∀ t ∈ r, t.length ≤ 100000) ∧
  ∀ b H', Same H H' → (b = true ↔ ∀ p ∈ pairsR r, p ∉ rs.flatMap pairsR) → Q (.bl b) H'
def dP (p : Int × Int) : PyData := .tuple [.int p.1, .int p.2]
theorem shPairs (ps : List (Int × Int)) : SeqAt.shaped (.list (ps.map dP)) = true := by
  have l : ∀ ps : List (Int × Int), PyData.canLayAll0 (ps.map dP) = true := fun ps => by
    induction ps with
    | nil => rfl
    | cons x ps ih => simp [PyData.canLayAll0, PyData.canLay0, dP, ih]
  have h : ∀ ps : List (Int × Int), PyData.depthAll (ps.map dP) ≤ 1 := fun ps => by
    induction ps with
    | nil => simp [PyData.depthAll]
    | cons x ps ih =>
      have e : (dP x).depth ≤ 1 := by simp [dP, PyData.depth, PyData.depthAll]
      simp only [List.map_cons, PyData.depthAll]
      omega
  have h := h ps
  unfold SeqAt.shaped
  rw [Bool.and_eq_true]
  refine ⟨by simp [PyData.canLay0, l], decide_eq_true ?_⟩
  simp only [PyData.depth]
  omega
theorem eqv_nilP (ps : List (Int × Int)) : PyData.eqv (.list (ps.map dP)) (.list []) = ps.isEmpty := by
  cases ps <;> simp [PyData.eqv, PyData.eqvAll]
end Nf

set_option Elab.async false
set_option linter.all false
set_option maxRecDepth 100000
set_option maxHeartbeats 4000000
namespace Nf
open PySem PySem.Spec PyProof.Rows L2
variable {P : Program} {w : World} {K : PySem.W.Frag} {mg : Str → Option Value} {base : Heap}
/-! ### thin -/
theorem eqv_nilT (l : List Int) : PyData.eqv (.tuple (l.map .int)) (.tuple []) = l.isEmpty := by
  cases l <;> simp [PyData.eqv, PyData.eqvAll]
theorem shNilT : SeqAt.shaped (.tuple []) = true := by decide +kernel
theorem scThin : FnScope ["_law_row", "_law_tables", "_law_found", "_law_table", "_law_rest", "_law_guest"] ["_law_row", "_law_tables"] (defScope lThin) := ⟨rfl, rfl, rfl, by decide +kernel, rfl, by decide +kernel, by decide +kernel⟩
def spThin (K : PySem.W.Frag) : Sp := fun vs H Q _ => ∃ (r a : Addr) (ns : List Int) (x : V) (rd : Rnd), vs = [.ref r, x] ∧ RowAt K H r a ns ∧ RndV H x rd ∧ rd.length ≤ 100000 ∧ (∀ t ∈ rd, t.length ≤ 100000) ∧
  ∀ y H' f, RowAt K H' r a ns → Sx r H H' → RndV H' y (sortT f) → Thin rd f rd.length → Q y H'
theorem ok_thin {f fT : Addr} {fd fdT : FuncData} (F : Fun K "_law_thin" "_law_thin" lThin f fd) (B : Blt mg) (FT : Fun K "_law_taken" "_law_taken" lTaken fT fdT) (bT : Binds K fdT ["_law_row", "_law_many_here"] []) (gT : mg "_law_taken" = some (.ref fT)) : FnOk P w K mg base CX0 2 f fd ["_law_row", "_law_tables"] (spThin K) := by
  have GT : FnOk P w K mg base CX0 1 fT fdT ["_law_row", "_law_many_here"] (spTaken K) := ok_taken FT B
  refine F.ok scThin (fun vs H Q E h => ?_) (fun cdv A outer s H vs Q E hr h => ?_)
  · obtain ⟨r, a, ns, x, rd, rfl, _⟩ := h
    rfl
  · obtain ⟨r, a, ns, x, rd, rfl, hR, ⟨p, xs, rfl, hp, hxs⟩, hlen, htl, q⟩ := h
    refine ⟨_, pss_cons (ps_set (i := 2) scThin.nd rfl (.inl rfl) (pe_lst pa_nil))
      (pss_cons (ps_for PassesOwn.never rfl (pi_tup (pv 1)) (pg_name (i := 3) scThin.nd rfl (.inl rfl))
        (pss_cons (ps_set (i := 4) scThin.nd rfl (.inl rfl) (pe_callTy call_tuple_of (by rfl) B.tuple (by decide +kernel) (pa_cons
            (pe_lc (own := [("_law_guest", 5)]) (g := gName 5) (te := tVar 5) (by rfl) scThin.nd (pi_tup (pv 3)) (blkOk_by (N := ["_law_row", "_law_tables", "_law_found", "_law_table", "_law_rest", "_law_guest"]) (sc := defScope lThin) (by decide +kernel))
              (fun _ _ _ _ _ => pg_name (i := 5) (x := "_law_guest") scThin.nd rfl (.inl rfl) (.inr rfl)) (fun _ _ _ _ _ => pts_one (pt_cmpR op_gt (pe_call GT hr (by rfl) gT FT.kp bT .nil pass0 (pa_cons (pv 0) (pa_cons pe_int pa_nil))) pe_int (nomark _))) (fun _ _ _ _ _ => pv 5)) pa_nil)))
        (pss_one (ps_if (pt_cmpR (op_neD hr.units) (pv 4) (pe_tup pa_nil) (nomark _))
          (pss_one (ps_expr (pe_bm PySem.F.plainAttrs_list PySem.F.slot_list_append PySem.F.type_list_append mt_append (pv 2) (pa_cons (pv 4) pa_nil)))) pss_nil))))
      (pss_one (ps_ret (pe_callTy call_tuple_of (by rfl) B.tuple (by decide +kernel) (pa_cons (pe_callB (cr_sortD dT hr.units) (by rfl) B.sorted (by decide +kernel) (pa_cons (pv 2) pa_nil)) pa_nil))))), ?_⟩
    have hxl := paired_len hxs
    have big : (100000 : Nat) < sizeLine := by decide
    obtain ⟨xr0, hxr0⟩ := hR.lst
    refine ⟨Nat.zero_le _, fun d nd => ?_⟩
    have ndr : d ≠ r := fun e => by
      rw [e, hxr0] at nd
      cases nd
    have s0 : Same H (upd H d (.lst [])) := same_new nd
    refine ⟨.ref p, rfl, p, rfl, ⟨_, SqT.of (s0 _ _ hp)⟩, ?_⟩
    refine for_it (walk_tup (xs := xs)) (fun i σ H2 => ∃ (y3 y4 y5 : Option V), σ = [some (.ref r), some (.ref p), some (.ref d), y3, y4, y5] ∧ RowAt K H2 r a ns ∧ Sx r H H2 ∧ ∃ acc f, H2 d = some (.lst acc) ∧ Paired (TabV H2) acc f ∧ Thin rd f i)
      ⟨none, none, none, rfl, hR.keep s0, same_sx s0, [], [], upd_same, .nil, Thin.zero rd⟩ (fun i σ H2 _ h => ?_) (fun i x σ H2 H3 hi hI y => ?_) (fun σ H2 hI => ?_)
    · obtain ⟨_, _, _, _, _, sx, _⟩ := h
      exact SqT.of ((sx.toT hxr0) _ _ hp)
    · obtain ⟨y3, y4, y5, rfl, R2, sx, acc, ff, hd, hac, hth⟩ := hI
      obtain ⟨rfl, hx⟩ := y
      obtain ⟨t, ht, b, rfl, hb⟩ := paired_getL hxs hx
      have hb2 := (sx.toT hxr0) _ _ hb
      have htl2 := htl t (List.mem_of_getElem? ht)
      obtain ⟨xr3, hxr3⟩ := R2.lst
      refine ⟨.ref b, rfl, b, rfl, ⟨_, SqT.of hb2⟩, fun D nD => ?_⟩
      have nDr : D ≠ r := fun e => by
        rw [e, hxr3] at nD
        cases nD
      have s1 : Same H3 (upd H3 D (.lst [])) := same_new nD
      refine lc_it (walk_tup (xs := t.map V.int)) (fun j H5 => RowAt K H5 r a ns ∧ Sx r H3 H5 ∧ ∃ ms : List Int, H5 D = some (.lst (ms.map V.int)) ∧ ms.Sublist (t.take j)) ⟨R2.keep s1, same_sx s1, [], upd_same, by simp⟩ (fun j H5 _ p => SqT.of ((p.2.1.toT hxr3) _ _ hb2)) (fun j z H5 H6 hj hJ y => ?_) (fun H5 hJ => ?_)
      · obtain ⟨R5, s5, ms, hD5, hsub⟩ := hJ
        obtain ⟨rfl, hz⟩ := y
        obtain ⟨n, hn, rfl⟩ := getElem?_int hz
        refine ⟨wipe_put (by decide), ?_⟩
        refine ⟨.ref r, rfl, r, a, ns, 4, rfl, R5, by decide, by decide, fun v H7 v0 v1 R7 s7 => ⟨v, 0, rfl, rfl, _, rfl, ?_⟩⟩
        have hD7 := s7 _ _ nDr hD5
        have hsl := hsub.length_le
        rw [List.length_take] at hsl
        refine ite2 (fun _ => ?_) (fun _ => ?_)
        · refine ⟨.int n, rfl, _, hD7, by rw [List.length_map]; omega, row_put (R2.keep (Same.refl _)) nD R7, sx_put (s5.trans s7) nD, ms ++ [n], ?_, ?_⟩
          · rw [upd_same, List.map_append]
            rfl
          · rw [takeSucc hn]
            exact hsub.append (List.Sublist.refl _)
        · refine ⟨R7, s5.trans s7, ms, hD7, ?_⟩
          rw [takeSucc hn]
          exact hsub.trans (List.sublist_append_left _ _)
      · obtain ⟨R5, s5, ms, hD5, hsub⟩ := hJ
        rw [List.length_map, List.take_of_length_le (Nat.le_refl _)] at hsub
        refine ⟨D, _, rfl, .inl ⟨SqL.of hD5, fun u nu => ?_⟩⟩
        have s6 : Same H5 (upd H5 u (.tup (ms.map V.int))) := same_new nu
        have hd3 : H3 d = some (.lst acc) := hd
        have hd6 := s6 _ _ (s5 _ _ ndr hd3)
        have hT36 : SameT H3 (upd H5 u (.tup (ms.map V.int))) := (s5.toT hxr3).trans (same_toT s6)
        have sx6 := (sx.trans s5).trans (same_sx s6)
        have R6 := R5.keep s6
        refine ⟨.ref u, rfl, Nat.zero_le _, fun e ne => ?_⟩
        have s7 : Same (upd H5 u (.tup (ms.map V.int))) (upd (upd H5 u (.tup (ms.map V.int))) e (.tup [])) := same_new ne
        have hu7 := s7 _ _ (upd_same : (upd H5 u (.tup (ms.map V.int))) u = _)
        refine ⟨.tuple (ms.map .int), .tuple [], .tup (SqT.of hu7) (dpAll_ints ms), .tup (SqT.of upd_same) .nil, shIntsT ms, shNilT, _, rfl, ?_⟩
        rw [eqv_nilT]
        have hT37 := hT36.trans (same_toT s7)
        cases ms with
        | nil =>
          refine iteF ?_
          exact ⟨_, _, _, rfl, R6.keep s7, sx6.trans (same_sx s7), acc, ff, s7 _ _ hd6, paired_mono (fun _ _ h => h.mono hT37) hac, hth.skip⟩
        | cons m0 ms =>
          refine iteT ?_
          have hd7 := s7 _ _ hd6
          refine ⟨.ref d, rfl, .inl ⟨rfl, _, SqL.of hd7⟩, .ref u, rfl, d, acc, _, rfl, rfl, hd7, ?_, ⟨_, _, _, rfl, row_put hR nd (R6.keep s7), sx_put (sx6.trans (same_sx s7)) nd, acc ++ [.ref u], ff ++ [m0 :: ms], upd_same, ?_, hth.add ht hsub (by simp)⟩⟩
          · have := paired_len hac
            have := hth.ct
            omega
          · have keepT : ∀ {v : V} {t : Tbl}, TabV (upd (upd H5 u (.tup ((m0 :: ms).map V.int))) e (.tup [])) v t → TabV (upd (upd (upd H5 u (.tup ((m0 :: ms).map V.int))) e (.tup [])) d (.lst (acc ++ [.ref u]))) v t := fun {v t} h => by
              obtain ⟨a2, rfl, ha2⟩ := h
              exact ⟨a2, rfl, by rw [upd_ne (ne_of ha2 hd7 (by intro z; cases z))]; exact ha2⟩
            exact paired_snoc (paired_mono (fun v t h => keepT (h.mono hT37)) hac) (keepT ⟨u, rfl, hu7⟩)
    · obtain ⟨y3, y4, y5, rfl, R2, sx, acc, ff, hd, hac, hth⟩ := hI
      rw [hxl] at hth
      refine ⟨.ref d, rfl, ?_⟩
      dsimp only [tNil]
      refine sort_tabs (.inl (SqL.of hd)) hac (fun t ht => (hth.each t ht).1) fun ys u nu hys => ?_
      have s1 : Same H2 (upd H2 u (.lst ys)) := same_new nu
      refine ⟨u, _, rfl, .inl ⟨SqL.of upd_same, fun t nt => ?_⟩⟩
      have s2 := s1.trans (same_new (o := .tup ys) nt)
      exact q _ _ ff (R2.keep s2) (sx.trans (same_sx s2)) ⟨t, ys, rfl, upd_same, paired_mono (fun _ _ h => h.mono (same_toT s2)) hys⟩ hth
end Nf

set_option Elab.async false
set_option linter.all false
set_option maxRecDepth 100000
set_option maxHeartbeats 4000000
namespace Nf
open PySem PySem.Spec PyProof.Rows L2
variable {P : Program} {w : World} {K : PySem.W.Frag} {mg : Str → Option Value} {base : Heap}
/-! ### plan -/
theorem party_nat {g s : Int} (h : IsParty g s) : ∃ n z : Nat, s = ((z : Nat) : Int) ∧ g = ((n * z : Nat) : Int) ∧ 1 ≤ z ∧ z ≤ 8 ∧ n * z ≤ 64 := by
  have h1 := h.s2
  have h2 := h.s8
  have h3 := h.g2
  have h4 := h.g64
  refine ⟨(g / s).toNat, s.toNat, by omega, ?_, by omega, by omega, ?_⟩
  · rw [Int.natCast_mul, Int.toNat_of_nonneg (Int.ediv_nonneg (by omega) (by omega)), Int.toNat_of_nonneg (by omega)]
    exact (Int.ediv_mul_cancel (Int.dvd_of_emod_eq_zero h.dv)).symm
  · have e : (((g / s).toNat * s.toNat : Nat) : Int) = g := by
      rw [Int.natCast_mul, Int.toNat_of_nonneg (Int.ediv_nonneg (by omega) (by omega)), Int.toNat_of_nonneg (by omega)]
      exact Int.ediv_mul_cancel (Int.dvd_of_emod_eq_zero h.dv)
    omega
theorem rgV_range (g : Nat) : rgV 0 ((g : Nat) : Int) = (rangeI g).map V.int := by
  unfold rgV rangeI
  rw [List.map_map]
  have e : (((g : Nat) : Int) - 0).toNat = g := by omega
  rw [e]
  refine List.map_congr_left fun i _ => ?_
  show V.int (0 + (i : Nat)) = V.int ((i : Nat) : Int)
  rw [Int.zero_add]
/-- a drawn full round: of the guests in an order -/
theorem drawn_round {g s : Int} (h : IsParty g s) {n z : Nat} (ez : s = ((z : Nat) : Int)) (eg : g = ((n * z : Nat) : Int)) (hz : 1 ≤ z) {l : List Int} (hp : l.Perm (rangeI (n * z))) : IsRound g s (seatedM l z n) := by
  rw [eg, ez]
  exact seated_round hp hz
def PlanM (H : Hp) (l : Addr) (rs : List Rnd) : Prop := ∃ xs, H l = some (.lst xs) ∧ Paired (RndV H) xs rs
def spPlan (K : PySem.W.Frag) : Sp := fun vs H Q _ => ∃ (r a : Addr) (ns : List Int) (g s m : Int), vs = [.ref r, .int g, .int s, .int m] ∧ RowAt K H r a ns ∧ IsParty g s ∧ 0 ≤ m ∧ m ≤ 100 ∧
  ∀ l H' rs, RowAt K H' r a ns → Sx r H H' → H l = none → PlanM H' l rs → GoodP g s rs → (rs.length : Int) ≤ m → Q (.ref l) H'
theorem good_small {g s : Int} (hI : IsParty g s) {r : Rnd} (h : IsRound g s r) : (pairsR r).length ≤ 4096 ∧ r.length ≤ 100000 ∧ ∀ t ∈ r, t.length ≤ 100000 := by
  have h1 := hI.s2
  have h2 := hI.s8
  refine ⟨h.pairs_le (by omega) hI.g64, ?_, fun t ht => ?_⟩
  · have e : g / s ≤ g := Int.ediv_le_self _ (by have := hI.g2; omega)
    have := h.ct
    have := hI.g64
    omega
  · have := (h.sz t ht).2
    omega
end Nf

set_option Elab.async false
set_option linter.all false
set_option maxRecDepth 100000
set_option maxHeartbeats 4000000
namespace Nf
open PySem PySem.Spec PyProof.Rows L2
variable {P : Program} {w : World} {K : PySem.W.Frag} {mg : Str → Option Value} {base : Heap}
/-! ### what all laws share -/
structure Has (P : Program) (w : World) (K : PySem.W.Frag) (mg : Str → Option Value) (base : Heap) (n : Nat) (x : Str) (f : Addr) (fd : FuncData) (ps : List Str) (sp : Sp) : Prop where
  ok : FnOk P w K mg base CX0 n f fd ps sp
  kp : PySem.W.keepIn K (.ref f) = true
  b : Binds K fd ps []
  g : mg x = some (.ref f)
theorem paired_set {α β : Type} {R : α → β → Prop} {x : α} {y : β} : ∀ {xs : List α} {ys : List β} (i : Nat), Paired R xs ys → R x y → Paired R (xs.set i x) (ys.set i y)
  | _, _, _, .nil, _ => .nil
  | _, _, 0, .cons _ t, h => .cons h t
  | _, _, i + 1, .cons r t, h => .cons r (paired_set i t h)
theorem paired_ins {α β : Type} {R : α → β → Prop} {x : α} {y : β} : ∀ {xs : List α} {ys : List β} (i : Nat), Paired R xs ys → R x y → Paired R (xs.take i ++ [x] ++ xs.drop i) (ys.take i ++ [y] ++ ys.drop i)
  | _, _, i, .nil, h => by simpa using Paired.cons h .nil
  | _, _, 0, .cons r t, h => .cons h (.cons r t)
  | _, _, i + 1, .cons r t, h => .cons r (paired_ins i t h)
/-- what stands in one turn of the law: the row, the party, the plan so far -/
structure LawI (K : PySem.W.Frag) (C : Addr) (H : Hp) (r a p dx l : Addr) (ns : List Int) (g z : Int) (rs : List Rnd) (m n L : Nat) : Prop where
  row : RowAt K H r a ns
  pa : H p = some (.ins C dx (pf g z))
  pl : ∃ xs, H l = some (.lst xs) ∧ Paired (RndV H) xs rs
  nlr : l ≠ r
  cnt : rs.length ≤ m
  bd : ∀ rd ∈ rs, rd.length ≤ n ∧ ∀ t ∈ rd, t.length ≤ L
  put : ∀ (H' : Hp) (o : HO), RowAt K H' r a ns → RowAt K (upd H' l o) r a ns
section
variable {C : Addr} {H H' : Hp} {r a p dx l : Addr} {ns : List Int} {g z : Int} {rs : List Rnd} {m n L : Nat}
theorem LawI.keep (h : LawI K C H r a p dx l ns g z rs m n L) (R : RowAt K H' r a ns) (s : Sx r H H') : LawI K C H' r a p dx l ns g z rs m n L := by
  obtain ⟨xr, hxr⟩ := h.row.lst
  obtain ⟨xs, hl, hp⟩ := h.pl
  exact ⟨R, s _ _ (ne_of h.pa hxr (by intro e; cases e)) h.pa, ⟨xs, s _ _ h.nlr hl, paired_mono (fun _ _ z => z.mono (s.toT hxr)) hp⟩, h.nlr, h.cnt, h.bd, h.put⟩
theorem LawI.same (h : LawI K C H r a p dx l ns g z rs m n L) (s : Same H H') : LawI K C H' r a p dx l ns g z rs m n L := h.keep (h.row.keep s) (same_sx s)
theorem LawI.toT (h : LawI K C H r a p dx l ns g z rs m n L) (s : Sx r H H') : SameT H H' := by
  obtain ⟨xr, hxr⟩ := h.row.lst
  exact s.toT hxr
theorem LawI.putL (h : LawI K C H r a p dx l ns g z rs m n L) {ys : List V} {qs : List Rnd} {m' n' L' : Nat} (hq : Paired (RndV H) ys qs) (hm : qs.length ≤ m') (hb : ∀ rd ∈ qs, rd.length ≤ n' ∧ ∀ t ∈ rd, t.length ≤ L') : LawI K C (upd H l (.lst ys)) r a p dx l ns g z qs m' n' L' := by
  obtain ⟨xs, hl, hp⟩ := h.pl
  have T : SameT H (upd H l (.lst ys)) := fun a2 us e2 => by
    rw [upd_ne (ne_of e2 hl (by intro z; cases z))]
    exact e2
  refine ⟨h.put _ _ h.row, ?_, ⟨ys, upd_same, paired_mono (fun _ _ z => z.mono T) hq⟩, h.nlr, hm, hb, h.put⟩
  rw [upd_ne (ne_of h.pa hl (by intro e; cases e))]
  exact h.pa
theorem LawI.wide (h : LawI K C H r a p dx l ns g z rs m n L) {m' n' L' : Nat} (e1 : m ≤ m') (e2 : n ≤ n') (e3 : L ≤ L') : LawI K C H r a p dx l ns g z rs m' n' L' :=
  ⟨h.row, h.pa, h.pl, h.nlr, Nat.le_trans h.cnt e1, fun rd hr => ⟨Nat.le_trans (h.bd rd hr).1 e2, fun t ht => Nat.le_trans ((h.bd rd hr).2 t ht) e3⟩, h.put⟩
end
theorem round_bd {g z : Int} (hI : IsParty g z) {rd : Rnd} (h : IsRound g z rd) : rd.length ≤ 32 ∧ ∀ t ∈ rd, t.length ≤ 8 := by
  have h2 := hI.s2
  have h8 := hI.s8
  have h64 := hI.g64
  refine ⟨?_, fun t ht => ?_⟩
  · have e : g / z * z ≤ g := Int.ediv_mul_le g (by omega)
    have e2 : g / z ≤ 32 := by
      refine Int.le_of_lt_add_one ((Int.ediv_lt_iff_lt_mul (by omega)).mpr ?_)
      omega
    have := h.ct
    omega
  · have := (h.sz t ht).2
    omega
theorem four_le : 4 ≤ sizeLine := by decide
end Nf

set_option Elab.async false
set_option linter.all false
set_option maxRecDepth 100000
set_option maxHeartbeats 4000000
namespace Nf
open PySem PySem.Spec PyProof.Rows L2
variable {P : Program} {w : World} {K : PySem.W.Frag} {mg : Str → Option Value} {base : Heap}
/-! ### the law's own look at a round -/
def spLIsRound : Sp := fun vs H Q _ => ∃ (g s : Int) (x : V) (r : Rnd), vs = [.int g, .int s, x] ∧ IsParty g s ∧ RndV H x r ∧ r.length ≤ 400 ∧ (∀ t ∈ r, t.length ≤ 100000) ∧ ∀ b H', Same H H' → (b = true ↔ IsRound g s r) → Q (.bl b) H'
theorem eqv_ints (xs ys : List Int) : (PyData.eqv (.list (xs.map .int)) (.list (ys.map .int)) = true) ↔ xs = ys := by
  simp only [PyData.eqv]
  exact eqvInts
theorem eqv_tabs (xs ys : List Tbl) : (PyData.eqv (.list (xs.map dT)) (.list (ys.map dT)) = true) ↔ xs = ys := by
  simp only [PyData.eqv]
  exact eqvTabs
end Nf

set_option Elab.async false
set_option linter.all false
set_option maxRecDepth 100000
set_option maxHeartbeats 4000000
namespace Nf
open PySem PySem.Spec PyProof.Rows L2
variable {P : Program} {w : World} {K : PySem.W.Frag} {mg : Str → Option Value} {base : Heap}
/-! ### alike, of what a verdict is -/
theorem scAlike : FnScope ["_law_found", "_law_due", "_law_k"] ["_law_found", "_law_due"] (defScope lAlike) := ⟨rfl, rfl, rfl, by decide +kernel, rfl, by decide +kernel, by decide +kernel⟩
theorem rd_isi {K : PySem.W.Frag} {H : Hp} {Q : VK} {x : V} {a b : String} {r : Bool} (ty : TyX K H x (.type a)) (h : kitB a b = some r) (q : Q (.bl r) H) : rIsi K [x, .ty b] H Q :=
  ⟨x, .ty b, .type a, .type b, r, rfl, .ty b, ty, kit_ty h, q⟩
theorem kNT : kitB "NoneType" "tuple" = some false := by decide +kernel
theorem kNL : kitB "NoneType" "list" = some false := by decide +kernel
theorem kIT : kitB "int" "tuple" = some false := by decide +kernel
theorem kIL : kitB "int" "list" = some false := by decide +kernel
theorem kIB : kitB "int" "bool" = some false := by decide +kernel
theorem kIS : kitB "int" "str" = some false := by decide +kernel
theorem kII : kitB "int" "int" = some true := by decide +kernel
theorem kST : kitB "str" "tuple" = some false := by decide +kernel
theorem kSL : kitB "str" "list" = some false := by decide +kernel
theorem kSB : kitB "str" "bool" = some false := by decide +kernel
theorem kSS : kitB "str" "str" = some true := by decide +kernel
theorem kTT : kitB "tuple" "tuple" = some true := by decide +kernel
theorem kTL : kitB "tuple" "list" = some false := by decide +kernel
def Flat : V → Prop := fun x => x = .non ∨ (∃ i, x = .int i) ∨ ∃ s, x = .str s
def spAlike1 : Sp := fun vs H Q _ => ∃ x : V, vs = [x, x] ∧ Flat x ∧ Q (.bl true) H
theorem ok_alike1 {f : Addr} {fd : FuncData} (F : Fun K "_law_alike" "_law_alike" lAlike f fd) (B : Blt mg) : FnOk P w K mg base CX0 1 f fd ["_law_found", "_law_due"] spAlike1 := by
  refine F.ok scAlike (fun vs H Q E h => ?_) (fun cdv A outer s H vs Q E hr h => ?_)
  · obtain ⟨x, rfl, _⟩ := h
    rfl
  · obtain ⟨x, rfl, hf, q⟩ := h
    refine ⟨_, pss_cons (ps_if (PW.pt (pw_or (pt_val (pe_callB call_isi (by rfl) B.isinstance (by decide +kernel) (pa_cons (pv 1) (pa_cons (pe_bltn (v := .ty "tuple") (by rfl) B.tuple (by decide +kernel) rfl) pa_nil))))
          (pw_or1 (pt_val (pe_callB call_isi (by rfl) B.isinstance (by decide +kernel) (pa_cons (pv 1) (pa_cons (pe_bltn (v := .ty "list") (by rfl) B.list (by decide +kernel) rfl) pa_nil))))))) pss_never pss_nil)
      (pss_cons (ps_if (PW.pt (pw_or (pt_cmpR op_isN (pv 1) pe_non (nomark _)) (pw_or1 (pt_cmpR op_isN (pv 0) pe_non (nomark _)))))
        (pss_one (ps_ret (pe_and (pe_cmpR op_isN (pv 1) pe_non (nomark _)) (pe_one (pe_cmpR op_isN (pv 0) pe_non (nomark _)))))) pss_nil)
      (pss_cons (ps_if (PW.pt (pw_or (pt_val (pe_callB call_isi (by rfl) B.isinstance (by decide +kernel) (pa_cons (pv 1) (pa_cons (pe_bltn (v := .ty "bool") (by rfl) B.bool (by decide +kernel) rfl) pa_nil))))
          (pw_or1 (pt_val (pe_callB call_isi (by rfl) B.isinstance (by decide +kernel) (pa_cons (pv 0) (pa_cons (pe_bltn (v := .ty "bool") (by rfl) B.bool (by decide +kernel) rfl) pa_nil))))))) pss_never pss_nil)
      (pss_cons (ps_if (pt_val (pe_callB call_isi (by rfl) B.isinstance (by decide +kernel) (pa_cons (pv 1) (pa_cons (pe_bltn (v := .ty "str") (by rfl) B.str (by decide +kernel) rfl) pa_nil))))
        (pss_one (ps_ret (pe_and (pe_callB call_isi (by rfl) B.isinstance (by decide +kernel) (pa_cons (pv 0) (pa_cons (pe_bltn (v := .ty "str") (by rfl) B.str (by decide +kernel) rfl) pa_nil))) (pe_one (pe_cmpR op_eq (pv 0) (pv 1) (nomark _)))))) pss_nil)
      (pss_one (ps_ret (pe_and (pe_callB call_isi (by rfl) B.isinstance (by decide +kernel) (pa_cons (pv 0) (pa_cons (pe_bltn (v := .ty "int") (by rfl) B.int (by decide +kernel) rfl) pa_nil))) (pe_one (pe_cmpR op_eq (pv 0) (pv 1) (nomark _))))))))), ?_⟩
    rcases hf with rfl | ⟨i, rfl⟩ | ⟨y, rfl⟩
    · refine ⟨.non, rfl, _, _, _, _, _, rfl, .ty _, (.base .non), kit_ty kNT, ⟨_, rfl, iteF ⟨.non, rfl, _, _, _, _, _, rfl, .ty _, (.base .non), kit_ty kNL, ⟨_, rfl, iteF ?_⟩⟩⟩⟩
      refine ⟨.non, rfl, rfl, _, rfl, iteT (iteT ?_)⟩
      exact ⟨.non, rfl, rfl, _, rfl, iteT ⟨.non, rfl, rfl, q⟩⟩
    · refine ⟨.int i, rfl, _, _, _, _, _, rfl, .ty _, (.base (.int i)), kit_ty kIT, ⟨_, rfl, iteF ⟨.int i, rfl, _, _, _, _, _, rfl, .ty _, (.base (.int i)), kit_ty kIL, ⟨_, rfl, iteF ?_⟩⟩⟩⟩
      refine ⟨.int i, rfl, rfl, _, rfl, iteF ⟨.int i, rfl, rfl, _, rfl, iteF ?_⟩⟩
      refine ⟨.int i, rfl, _, _, _, _, _, rfl, .ty _, (.base (.int i)), kit_ty kIB, ⟨_, rfl, iteF ⟨.int i, rfl, _, _, _, _, _, rfl, .ty _, (.base (.int i)), kit_ty kIB, ⟨_, rfl, iteF ?_⟩⟩⟩⟩
      refine ⟨.int i, rfl, _, _, _, _, _, rfl, .ty _, (.base (.int i)), kit_ty kIS, ⟨_, rfl, iteF ?_⟩⟩
      refine ⟨.int i, rfl, _, _, _, _, _, rfl, .ty _, (.base (.int i)), kit_ty kII, ⟨_, rfl, iteT ⟨.int i, rfl, .int i, rfl, rfl, ?_⟩⟩⟩
      rw [decide_eq_true rfl]
      exact q
    · refine ⟨.str y, rfl, _, _, _, _, _, rfl, .ty _, (.base (.str y)), kit_ty kST, ⟨_, rfl, iteF ⟨.str y, rfl, _, _, _, _, _, rfl, .ty _, (.base (.str y)), kit_ty kSL, ⟨_, rfl, iteF ?_⟩⟩⟩⟩
      refine ⟨.str y, rfl, rfl, _, rfl, iteF ⟨.str y, rfl, rfl, _, rfl, iteF ?_⟩⟩
      refine ⟨.str y, rfl, _, _, _, _, _, rfl, .ty _, (.base (.str y)), kit_ty kSB, ⟨_, rfl, iteF ⟨.str y, rfl, _, _, _, _, _, rfl, .ty _, (.base (.str y)), kit_ty kSB, ⟨_, rfl, iteF ?_⟩⟩⟩⟩
      refine ⟨.str y, rfl, _, _, _, _, _, rfl, .ty _, (.base (.str y)), kit_ty kSS, ⟨_, rfl, iteT ?_⟩⟩
      refine ⟨.str y, rfl, _, _, _, _, _, rfl, .ty _, (.base (.str y)), kit_ty kSS, ⟨_, rfl, iteT ⟨.str y, rfl, .str y, rfl, rfl, ?_⟩⟩⟩
      rw [decide_eq_true rfl]
      exact q
def SamV (H : Hp) (x y : V) : Prop := (x = .non ∧ y = .non) ∨ ∃ (p q : Addr) (us : List V), x = .ref p ∧ y = .ref q ∧ H p = some (.tup us) ∧ H q = some (.tup us) ∧ us.length ≤ 5 ∧ ∀ u ∈ us, Flat u
theorem verd_sam {H : Hp} {x y : V} {v : Verd} (h : VerdV H x v) (h' : VerdV H y v) : SamV H x y := by
  cases v with
  | good => exact .inl ⟨h, h'⟩
  | rnd k =>
    obtain ⟨p, rfl, e⟩ := h
    obtain ⟨q, rfl, e'⟩ := h'
    refine .inr ⟨p, q, _, rfl, rfl, e, e', by simp, fun u hu => ?_⟩
    simp only [List.mem_cons, List.not_mem_nil, or_false] at hu
    rcases hu with rfl | rfl
    · exact .inr (.inr ⟨_, rfl⟩)
    · exact .inr (.inl ⟨_, rfl⟩)
  | twice a b j k =>
    obtain ⟨p, rfl, e⟩ := h
    obtain ⟨q, rfl, e'⟩ := h'
    refine .inr ⟨p, q, _, rfl, rfl, e, e', by simp, fun u hu => ?_⟩
    simp only [List.mem_cons, List.not_mem_nil, or_false] at hu
    rcases hu with rfl | rfl | rfl | rfl | rfl
    · exact .inr (.inr ⟨_, rfl⟩)
    all_goals exact .inr (.inl ⟨_, rfl⟩)
def spAlike : Sp := fun vs H Q _ => ∃ x y : V, vs = [x, y] ∧ SamV H x y ∧ ∀ H', Same H H' → Q (.bl true) H'
theorem ok_alike {f : Addr} {fd : FuncData} (F : Fun K "_law_alike" "_law_alike" lAlike f fd) (B : Blt mg) (b : Binds K fd ["_law_found", "_law_due"] []) (gA : mg "_law_alike" = some (.ref f)) : FnOk P w K mg base CX0 2 f fd ["_law_found", "_law_due"] spAlike := by
  have GA : FnOk P w K mg base CX0 1 f fd ["_law_found", "_law_due"] spAlike1 := ok_alike1 F B
  refine F.ok scAlike (fun vs H Q E h => ?_) (fun cdv A outer s H vs Q E hr h => ?_)
  · obtain ⟨x, y, rfl, _⟩ := h
    rfl
  · obtain ⟨x, y, rfl, hf, q⟩ := h
    refine ⟨_, pss_cons (ps_if (PW.pt (pw_or (pt_val (pe_callB call_isi (by rfl) B.isinstance (by decide +kernel) (pa_cons (pv 1) (pa_cons (pe_bltn (v := .ty "tuple") (by rfl) B.tuple (by decide +kernel) rfl) pa_nil)))) (pw_or1 (pt_val (pe_callB call_isi (by rfl) B.isinstance (by decide +kernel) (pa_cons (pv 1) (pa_cons (pe_bltn (v := .ty "list") (by rfl) B.list (by decide +kernel) rfl) pa_nil)))))))
        (pss_cons (ps_if (PW.pt (pw_or (pt_cmpR op_ne (pe_callB call_isi (by rfl) B.isinstance (by decide +kernel) (pa_cons (pv 0) (pa_cons (pe_bltn (v := .ty "tuple") (by rfl) B.tuple (by decide +kernel) rfl) pa_nil))) (pe_callB call_isi (by rfl) B.isinstance (by decide +kernel) (pa_cons (pv 1) (pa_cons (pe_bltn (v := .ty "tuple") (by rfl) B.tuple (by decide +kernel) rfl) pa_nil))) (nomark _)) (pw_or1 (pt_not (pt_val (pe_callB call_isiT (by rfl) B.isinstance (by decide +kernel) (pa_cons (pv 0) (pa_cons (pe_tup (pa_cons (pe_bltn (v := .ty "tuple") (by rfl) B.tuple (by decide +kernel) rfl) (pa_cons (pe_bltn (v := .ty "list") (by rfl) B.list (by decide +kernel) rfl) pa_nil))) pa_nil))))))))
          pss_never pss_nil)
        (pss_cons (ps_if (pt_cmpR op_ne (pe_callB call_len_seq (by rfl) B.len PySem.boot_len (pa_cons (pv 0) pa_nil)) (pe_callB call_len_seq (by rfl) B.len PySem.boot_len (pa_cons (pv 1) pa_nil)) (nomark _)) pss_never pss_nil)
        (pss_one (ps_ret (pe_cmpR (op_eqD hr.units) (pe_lc (own := [("_law_k", 2)]) (g := gName 2) (tt := tNot (tB (tCall spAlike1 [] E0 (tCons (tOp (rIxT K) (tVar 0) (tVar 2)) (tCons (tOp (rIxT K) (tVar 1) (tVar 2)) tNil))))) (te := tVar 2) (by rfl) scAlike.nd
          (pi_range1 (by rfl) B.range (pa_cons (pe_callB call_len_seq (by rfl) B.len PySem.boot_len (pa_cons (pv 1) pa_nil)) pa_nil)) (blkOk_by (N := ["_law_found", "_law_due", "_law_k"]) (sc := defScope lAlike) (by decide +kernel))
          (fun _ _ _ _ _ => pg_name (i := 2) (x := "_law_k") scAlike.nd rfl (.inl rfl) (.inr rfl))
          (fun _ _ _ _ _ => pts_one (pt_not (pt_val (pe_call GA hr (by rfl) gA F.kp b .nil pass0 (pa_cons (pe_ix ix_tup (pv 0) (pv 2) (fun _ _ => rfl)) (pa_cons (pe_ix ix_tup (pv 1) (pv 2) (fun _ _ => rfl)) pa_nil)))))) (fun _ _ _ _ _ => pv 2)) (pe_lst pa_nil) (nomark _)))))) pss_nil)
      (pss_cons (ps_if (PW.pt (pw_or (pt_cmpR op_isN (pv 1) pe_non (nomark _)) (pw_or1 (pt_cmpR op_isN (pv 0) pe_non (nomark _)))))
        (pss_one (ps_ret (pe_and (pe_cmpR op_isN (pv 1) pe_non (nomark _)) (pe_one (pe_cmpR op_isN (pv 0) pe_non (nomark _)))))) pss_nil)
      pss_never), ?_⟩
    rcases hf with ⟨rfl, rfl⟩ | ⟨p, r, us, rfl, rfl, hp, hr', hl, hu⟩
    · refine ⟨.non, rfl, _, _, _, _, _, rfl, .ty _, (.base .non), kit_ty kNT, ⟨_, rfl, iteF ⟨.non, rfl, _, _, _, _, _, rfl, .ty _, (.base .non), kit_ty kNL, ⟨_, rfl, iteF ?_⟩⟩⟩⟩
      refine ⟨.non, rfl, rfl, _, rfl, iteT (iteT ?_)⟩
      exact ⟨.non, rfl, rfl, _, rfl, iteT ⟨.non, rfl, rfl, q _ (Same.refl _)⟩⟩
    · have tx : TyX K H (.ref r) (.type "tuple") := .base (.tup hr')
      have ty : TyX K H (.ref p) (.type "tuple") := .base (.tup hp)
      refine ⟨.ref r, rfl, _, _, _, _, _, rfl, .ty _, tx, kit_ty kTT, ⟨_, rfl, iteT (iteT ?_)⟩⟩
      refine ⟨.ref p, rfl, _, _, _, _, _, rfl, .ty _, ty, kit_ty kTT, .ref r, rfl, _, _, _, _, _, rfl, .ty _, tx, kit_ty kTT, rfl, _, rfl, iteF ?_⟩
      refine ⟨.ref p, rfl, two_le, fun T nT => ?_⟩
      have s1 : Same H (upd H T (.tup [.ty "tuple", .ty "list"])) := same_new nT
      have hp1 := s1 _ _ hp
      have hr1 := s1 _ _ hr'
      refine ⟨.ref p, T, _, .type "tuple", [.type "tuple", .type "list"], true, rfl, upd_same, .cons (.ty _) (.cons (.ty _) .nil), .base (.tup hp1), kitAny_cons (kit_ty kTT) (fun e => by cases e) (fun _ => rfl), ⟨_, rfl, iteF ?_⟩⟩
      refine ⟨.ref p, rfl, p, _, rfl, .inr (SqT.of hp1), .ref r, rfl, r, _, rfl, .inr (SqT.of hr1), rfl, _, rfl, ?_⟩
      rw [decide_eq_true rfl]
      refine iteF ?_
      -- no k at which they are unlike
      refine ⟨.ref r, rfl, r, _, rfl, .inr (SqT.of hr1), _, rfl, by omega, by omega, fun D nD => ?_⟩
      have s2 : Same (upd H T (.tup [.ty "tuple", .ty "list"])) (upd (upd H T (.tup [.ty "tuple", .ty "list"])) D (.lst [])) := same_new nD
      refine lc_it walk_range (fun i H5 => Same (upd H T (.tup [.ty "tuple", .ty "list"])) H5 ∧ H5 D = some (.lst [])) ⟨s2, upd_same⟩ (fun _ _ _ _ => trivial) (fun i x H5 H6 hi hI y => ?_) (fun H5 hI => ?_)
      · obtain ⟨rfl, hxv⟩ := y
        have ei : (0 : Int) + (i : Nat) = ((i : Nat) : Int) := by omega
        have hxv : x = V.int ((i : Nat) : Int) := hxv.trans (by show V.int (0 + (i : Nat)) = _; rw [ei])
        subst hxv
        obtain ⟨sm, hD⟩ := hI
        have hix : i < us.length := by omega
        have hg : us[i]? = some us[i] := List.getElem?_eq_getElem hix
        have hF := hu us[i] (List.getElem_mem hix)
        generalize us[i] = u at hg hF
        refine ⟨wipe_put (by decide), ?_⟩
        refine ⟨.ref p, rfl, .int ((i : Nat) : Int), rfl, p, us, _, u, rfl, rfl, SqT.of (sm _ _ hp1), atI_nat hg, .ref r, rfl, .int ((i : Nat) : Int), rfl, r, us, _, u, rfl, rfl, SqT.of (sm _ _ hr1), atI_nat hg, u, rfl, hF, _, rfl, iteF ⟨sm, hD⟩⟩
      · obtain ⟨sm, hD⟩ := hI
        refine ⟨Nat.zero_le _, fun e ne => ?_⟩
        have s3 : Same H5 (upd H5 e (.lst [])) := same_new ne
        exact ⟨.list [], .list [], .lst (SqL.of (s3 _ _ hD)) .nil, .lst (SqL.of upd_same) .nil, shNil, shNil, q _ ((s1.trans sm).trans s3)⟩
end Nf

set_option Elab.async false
set_option linter.all false
set_option maxRecDepth 100000
set_option maxHeartbeats 4000000
namespace Nf
open PySem PySem.Spec PyProof.Rows L2
variable {P : Program} {w : World} {K : PySem.W.Frag} {mg : Str → Option Value} {base : Heap}
/-! ### alike, of trees of tuples and lists, level by level -/
theorem kBT : kitB "bool" "tuple" = some false := by decide +kernel
theorem kBL : kitB "bool" "list" = some false := by decide +kernel
theorem kBB : kitB "bool" "bool" = some true := by decide +kernel
theorem kLT : kitB "list" "tuple" = some false := by decide +kernel
theorem kLL : kitB "list" "list" = some true := by decide +kernel
def FlatB : V → Prop := fun x => x = .non ∨ (∃ b, x = .bl b) ∨ (∃ i, x = .int i) ∨ ∃ s, x = .str s
/-- two values that tell the same tree, of at most n floors -/
def Tree (H : Hp) : Nat → V → V → Prop
  | 0, x, y => x = y ∧ FlatB x
  | n + 1, x, y => (x = y ∧ FlatB x) ∨ ∃ (p q : Addr) (xs ys : List V), x = .ref p ∧ y = .ref q ∧ ((H p = some (.tup xs) ∧ H q = some (.tup ys)) ∨ (H p = some (.lst xs) ∧ H q = some (.lst ys))) ∧ xs.length ≤ 100000 ∧ Paired (Tree H n) xs ys
theorem Tree.same {H H' : Hp} (s : Same H H') : ∀ {n : Nat} {x y : V}, Tree H n x y → Tree H' n x y
  | 0, _, _, h => h
  | n + 1, _, _, .inl h => .inl h
  | n + 1, _, _, .inr ⟨p, q, xs, ys, e1, e2, h, hl, hp⟩ => .inr ⟨p, q, xs, ys, e1, e2, h.imp (fun z => ⟨s _ _ z.1, s _ _ z.2⟩) (fun z => ⟨s _ _ z.1, s _ _ z.2⟩), hl, paired_mono (fun _ _ z => Tree.same s z) hp⟩
def spTree (n : Nat) : Sp := fun vs H Q _ => ∃ x y : V, vs = [x, y] ∧ Tree H n x y ∧ ∀ H', Same H H' → Q (.bl true) H'
theorem ok_tree0 {f : Addr} {fd : FuncData} (F : Fun K "_law_alike" "_law_alike" lAlike f fd) (B : Blt mg) : FnOk P w K mg base CX0 1 f fd ["_law_found", "_law_due"] (spTree 0) := by
  refine F.ok scAlike (fun vs H Q E h => ?_) (fun cdv A outer s H vs Q E hr h => ?_)
  · obtain ⟨x, y, rfl, _⟩ := h
    rfl
  · obtain ⟨x, _, rfl, ⟨rfl, hf⟩, q⟩ := h
    refine ⟨_, (pss_cons (ps_if (PW.pt (pw_or (pt_val (pe_callB call_isi (by rfl) B.isinstance (by decide +kernel) (pa_cons (pv 1) (pa_cons (pe_bltn (v := .ty "tuple") (by rfl) B.tuple (by decide +kernel) rfl) pa_nil)))) (pw_or1 (pt_val (pe_callB call_isi (by rfl) B.isinstance (by decide +kernel) (pa_cons (pv 1) (pa_cons (pe_bltn (v := .ty "list") (by rfl) B.list (by decide +kernel) rfl) pa_nil))))))) pss_never pss_nil)
      (pss_cons (ps_if (PW.pt (pw_or (pt_cmpR op_isN (pv 1) pe_non (nomark _)) (pw_or1 (pt_cmpR op_isN (pv 0) pe_non (nomark _)))))
        (pss_one (ps_ret (pe_and (pe_cmpR op_isN (pv 1) pe_non (nomark _)) (pe_one (pe_cmpR op_isN (pv 0) pe_non (nomark _)))))) pss_nil)
      (pss_cons (ps_if (PW.pt (pw_or (pt_val (pe_callB call_isi (by rfl) B.isinstance (by decide +kernel) (pa_cons (pv 1) (pa_cons (pe_bltn (v := .ty "bool") (by rfl) B.bool (by decide +kernel) rfl) pa_nil)))) (pw_or1 (pt_val (pe_callB call_isi (by rfl) B.isinstance (by decide +kernel) (pa_cons (pv 0) (pa_cons (pe_bltn (v := .ty "bool") (by rfl) B.bool (by decide +kernel) rfl) pa_nil)))))))
        (pss_one (ps_ret (pe_and (pe_callB call_isi (by rfl) B.isinstance (by decide +kernel) (pa_cons (pv 1) (pa_cons (pe_bltn (v := .ty "bool") (by rfl) B.bool (by decide +kernel) rfl) pa_nil))) (pe_and (pe_callB call_isi (by rfl) B.isinstance (by decide +kernel) (pa_cons (pv 0) (pa_cons (pe_bltn (v := .ty "bool") (by rfl) B.bool (by decide +kernel) rfl) pa_nil))) (pe_one (pe_cmpR op_eq (pv 0) (pv 1) (nomark _))))))) pss_nil)
      (pss_cons (ps_if (pt_val (pe_callB call_isi (by rfl) B.isinstance (by decide +kernel) (pa_cons (pv 1) (pa_cons (pe_bltn (v := .ty "str") (by rfl) B.str (by decide +kernel) rfl) pa_nil)))) (pss_one (ps_ret (pe_and (pe_callB call_isi (by rfl) B.isinstance (by decide +kernel) (pa_cons (pv 0) (pa_cons (pe_bltn (v := .ty "str") (by rfl) B.str (by decide +kernel) rfl) pa_nil))) (pe_one (pe_cmpR op_eq (pv 0) (pv 1) (nomark _)))))) pss_nil)
      (pss_one (ps_ret (pe_and (pe_callB call_isi (by rfl) B.isinstance (by decide +kernel) (pa_cons (pv 0) (pa_cons (pe_bltn (v := .ty "int") (by rfl) B.int (by decide +kernel) rfl) pa_nil))) (pe_one (pe_cmpR op_eq (pv 0) (pv 1) (nomark _)))))))))), ?_⟩
    rcases hf with rfl | ⟨b, rfl⟩ | ⟨i, rfl⟩ | ⟨y, rfl⟩
    · refine ⟨.non, rfl, _, _, _, _, _, rfl, .ty _, (.base .non), kit_ty kNT, ⟨_, rfl, iteF ⟨.non, rfl, _, _, _, _, _, rfl, .ty _, (.base .non), kit_ty kNL, ⟨_, rfl, iteF ?_⟩⟩⟩⟩
      refine ⟨.non, rfl, rfl, _, rfl, iteT (iteT ?_)⟩
      exact ⟨.non, rfl, rfl, _, rfl, iteT ⟨.non, rfl, rfl, q _ (Same.refl _)⟩⟩
    · refine ⟨.bl b, rfl, _, _, _, _, _, rfl, .ty _, (.base (.bl b)), kit_ty kBT, ⟨_, rfl, iteF ⟨.bl b, rfl, _, _, _, _, _, rfl, .ty _, (.base (.bl b)), kit_ty kBL, ⟨_, rfl, iteF ?_⟩⟩⟩⟩
      refine ⟨.bl b, rfl, rfl, _, rfl, iteF ⟨.bl b, rfl, rfl, _, rfl, iteF ?_⟩⟩
      refine ⟨.bl b, rfl, _, _, _, _, _, rfl, .ty _, (.base (.bl b)), kit_ty kBB, ⟨_, rfl, iteT (iteT ?_)⟩⟩
      refine ⟨.bl b, rfl, _, _, _, _, _, rfl, .ty _, (.base (.bl b)), kit_ty kBB, ⟨_, rfl, iteT ⟨.bl b, rfl, _, _, _, _, _, rfl, .ty _, (.base (.bl b)), kit_ty kBB, ⟨_, rfl, iteT ⟨.bl b, rfl, .bl b, rfl, rfl, ?_⟩⟩⟩⟩⟩
      rw [decide_eq_true rfl]
      exact q _ (Same.refl _)
    · refine ⟨.int i, rfl, _, _, _, _, _, rfl, .ty _, (.base (.int i)), kit_ty kIT, ⟨_, rfl, iteF ⟨.int i, rfl, _, _, _, _, _, rfl, .ty _, (.base (.int i)), kit_ty kIL, ⟨_, rfl, iteF ?_⟩⟩⟩⟩
      refine ⟨.int i, rfl, rfl, _, rfl, iteF ⟨.int i, rfl, rfl, _, rfl, iteF ?_⟩⟩
      refine ⟨.int i, rfl, _, _, _, _, _, rfl, .ty _, (.base (.int i)), kit_ty kIB, ⟨_, rfl, iteF ⟨.int i, rfl, _, _, _, _, _, rfl, .ty _, (.base (.int i)), kit_ty kIB, ⟨_, rfl, iteF ?_⟩⟩⟩⟩
      refine ⟨.int i, rfl, _, _, _, _, _, rfl, .ty _, (.base (.int i)), kit_ty kIS, ⟨_, rfl, iteF ?_⟩⟩
      refine ⟨.int i, rfl, _, _, _, _, _, rfl, .ty _, (.base (.int i)), kit_ty kII, ⟨_, rfl, iteT ⟨.int i, rfl, .int i, rfl, rfl, ?_⟩⟩⟩
      rw [decide_eq_true rfl]
      exact q _ (Same.refl _)
    · refine ⟨.str y, rfl, _, _, _, _, _, rfl, .ty _, (.base (.str y)), kit_ty kST, ⟨_, rfl, iteF ⟨.str y, rfl, _, _, _, _, _, rfl, .ty _, (.base (.str y)), kit_ty kSL, ⟨_, rfl, iteF ?_⟩⟩⟩⟩
      refine ⟨.str y, rfl, rfl, _, rfl, iteF ⟨.str y, rfl, rfl, _, rfl, iteF ?_⟩⟩
      refine ⟨.str y, rfl, _, _, _, _, _, rfl, .ty _, (.base (.str y)), kit_ty kSB, ⟨_, rfl, iteF ⟨.str y, rfl, _, _, _, _, _, rfl, .ty _, (.base (.str y)), kit_ty kSB, ⟨_, rfl, iteF ?_⟩⟩⟩⟩
      refine ⟨.str y, rfl, _, _, _, _, _, rfl, .ty _, (.base (.str y)), kit_ty kSS, ⟨_, rfl, iteT ?_⟩⟩
      refine ⟨.str y, rfl, _, _, _, _, _, rfl, .ty _, (.base (.str y)), kit_ty kSS, ⟨_, rfl, iteT ⟨.str y, rfl, .str y, rfl, rfl, ?_⟩⟩⟩
      rw [decide_eq_true rfl]
      exact q _ (Same.refl _)

theorem ok_treeS {n : Nat} {f : Addr} {fd : FuncData} (F : Fun K "_law_alike" "_law_alike" lAlike f fd) (B : Blt mg) (b : Binds K fd ["_law_found", "_law_due"] []) (gA : mg "_law_alike" = some (.ref f)) (GA : FnOk P w K mg base CX0 (n + 1) f fd ["_law_found", "_law_due"] (spTree n)) :
    FnOk P w K mg base CX0 (n + 2) f fd ["_law_found", "_law_due"] (spTree (n + 1)) := by
  refine F.ok scAlike (fun vs H Q E h => ?_) (fun cdv A outer s H vs Q E hr h => ?_)
  · obtain ⟨x, y, rfl, _⟩ := h
    rfl
  · obtain ⟨x, y, rfl, hf, q⟩ := h
    refine ⟨_, (pss_cons (ps_if (PW.pt (pw_or (pt_val (pe_callB call_isi (by rfl) B.isinstance (by decide +kernel) (pa_cons (pv 1) (pa_cons (pe_bltn (v := .ty "tuple") (by rfl) B.tuple (by decide +kernel) rfl) pa_nil)))) (pw_or1 (pt_val (pe_callB call_isi (by rfl) B.isinstance (by decide +kernel) (pa_cons (pv 1) (pa_cons (pe_bltn (v := .ty "list") (by rfl) B.list (by decide +kernel) rfl) pa_nil)))))))
        (pss_cons (ps_if (PW.pt (pw_or (pt_cmpR op_ne (pe_callB call_isi (by rfl) B.isinstance (by decide +kernel) (pa_cons (pv 0) (pa_cons (pe_bltn (v := .ty "tuple") (by rfl) B.tuple (by decide +kernel) rfl) pa_nil))) (pe_callB call_isi (by rfl) B.isinstance (by decide +kernel) (pa_cons (pv 1) (pa_cons (pe_bltn (v := .ty "tuple") (by rfl) B.tuple (by decide +kernel) rfl) pa_nil))) (nomark _)) (pw_or1 (pt_not (pt_val (pe_callB call_isiT (by rfl) B.isinstance (by decide +kernel) (pa_cons (pv 0) (pa_cons (pe_tup (pa_cons (pe_bltn (v := .ty "tuple") (by rfl) B.tuple (by decide +kernel) rfl) (pa_cons (pe_bltn (v := .ty "list") (by rfl) B.list (by decide +kernel) rfl) pa_nil))) pa_nil))))))))
          pss_never pss_nil)
        (pss_cons (ps_if (pt_cmpR op_ne (pe_callB call_len_seq (by rfl) B.len PySem.boot_len (pa_cons (pv 0) pa_nil)) (pe_callB call_len_seq (by rfl) B.len PySem.boot_len (pa_cons (pv 1) pa_nil)) (nomark _)) pss_never pss_nil)
        (pss_one (ps_ret (pe_cmpR (op_eqD hr.units) (pe_lc (own := [("_law_k", 2)]) (g := gName 2) (tt := tNot (tB (tCall (spTree n) [] E0 (tCons (tOp (rIx K) (tVar 0) (tVar 2)) (tCons (tOp (rIx K) (tVar 1) (tVar 2)) tNil))))) (te := tVar 2) (by rfl) scAlike.nd
          (pi_range1 (by rfl) B.range (pa_cons (pe_callB call_len_seq (by rfl) B.len PySem.boot_len (pa_cons (pv 1) pa_nil)) pa_nil)) (blkOk_by (N := ["_law_found", "_law_due", "_law_k"]) (sc := defScope lAlike) (by decide +kernel))
          (fun _ _ _ _ _ => pg_name (i := 2) (x := "_law_k") scAlike.nd rfl (.inl rfl) (.inr rfl))
          (fun _ _ _ _ _ => pts_one (pt_not (pt_val (pe_call GA hr (by rfl) gA F.kp b .nil pass0 (pa_cons (pe_ix ix_seq (pv 0) (pv 2) (fun _ _ => rfl)) (pa_cons (pe_ix ix_seq (pv 1) (pv 2) (fun _ _ => rfl)) pa_nil)))))) (fun _ _ _ _ _ => pv 2)) (pe_lst pa_nil) (nomark _)))))) pss_nil)
      (pss_cons (ps_if (PW.pt (pw_or (pt_cmpR op_isN (pv 1) pe_non (nomark _)) (pw_or1 (pt_cmpR op_isN (pv 0) pe_non (nomark _)))))
        (pss_one (ps_ret (pe_and (pe_cmpR op_isN (pv 1) pe_non (nomark _)) (pe_one (pe_cmpR op_isN (pv 0) pe_non (nomark _)))))) pss_nil)
      (pss_cons (ps_if (PW.pt (pw_or (pt_val (pe_callB call_isi (by rfl) B.isinstance (by decide +kernel) (pa_cons (pv 1) (pa_cons (pe_bltn (v := .ty "bool") (by rfl) B.bool (by decide +kernel) rfl) pa_nil)))) (pw_or1 (pt_val (pe_callB call_isi (by rfl) B.isinstance (by decide +kernel) (pa_cons (pv 0) (pa_cons (pe_bltn (v := .ty "bool") (by rfl) B.bool (by decide +kernel) rfl) pa_nil)))))))
        (pss_one (ps_ret (pe_and (pe_callB call_isi (by rfl) B.isinstance (by decide +kernel) (pa_cons (pv 1) (pa_cons (pe_bltn (v := .ty "bool") (by rfl) B.bool (by decide +kernel) rfl) pa_nil))) (pe_and (pe_callB call_isi (by rfl) B.isinstance (by decide +kernel) (pa_cons (pv 0) (pa_cons (pe_bltn (v := .ty "bool") (by rfl) B.bool (by decide +kernel) rfl) pa_nil))) (pe_one (pe_cmpR op_eq (pv 0) (pv 1) (nomark _))))))) pss_nil)
      (pss_cons (ps_if (pt_val (pe_callB call_isi (by rfl) B.isinstance (by decide +kernel) (pa_cons (pv 1) (pa_cons (pe_bltn (v := .ty "str") (by rfl) B.str (by decide +kernel) rfl) pa_nil)))) (pss_one (ps_ret (pe_and (pe_callB call_isi (by rfl) B.isinstance (by decide +kernel) (pa_cons (pv 0) (pa_cons (pe_bltn (v := .ty "str") (by rfl) B.str (by decide +kernel) rfl) pa_nil))) (pe_one (pe_cmpR op_eq (pv 0) (pv 1) (nomark _)))))) pss_nil)
      (pss_one (ps_ret (pe_and (pe_callB call_isi (by rfl) B.isinstance (by decide +kernel) (pa_cons (pv 0) (pa_cons (pe_bltn (v := .ty "int") (by rfl) B.int (by decide +kernel) rfl) pa_nil))) (pe_one (pe_cmpR op_eq (pv 0) (pv 1) (nomark _)))))))))), ?_⟩
    rcases hf with ⟨rfl, hf⟩ | ⟨p, r, us, ws, rfl, rfl, hpr, hl, hu⟩
    · rcases hf with rfl | ⟨b, rfl⟩ | ⟨i, rfl⟩ | ⟨y, rfl⟩
      · refine ⟨.non, rfl, _, _, _, _, _, rfl, .ty _, (.base .non), kit_ty kNT, ⟨_, rfl, iteF ⟨.non, rfl, _, _, _, _, _, rfl, .ty _, (.base .non), kit_ty kNL, ⟨_, rfl, iteF ?_⟩⟩⟩⟩
        refine ⟨.non, rfl, rfl, _, rfl, iteT (iteT ?_)⟩
        exact ⟨.non, rfl, rfl, _, rfl, iteT ⟨.non, rfl, rfl, q _ (Same.refl _)⟩⟩
      · refine ⟨.bl b, rfl, _, _, _, _, _, rfl, .ty _, (.base (.bl b)), kit_ty kBT, ⟨_, rfl, iteF ⟨.bl b, rfl, _, _, _, _, _, rfl, .ty _, (.base (.bl b)), kit_ty kBL, ⟨_, rfl, iteF ?_⟩⟩⟩⟩
        refine ⟨.bl b, rfl, rfl, _, rfl, iteF ⟨.bl b, rfl, rfl, _, rfl, iteF ?_⟩⟩
        refine ⟨.bl b, rfl, _, _, _, _, _, rfl, .ty _, (.base (.bl b)), kit_ty kBB, ⟨_, rfl, iteT (iteT ?_)⟩⟩
        refine ⟨.bl b, rfl, _, _, _, _, _, rfl, .ty _, (.base (.bl b)), kit_ty kBB, ⟨_, rfl, iteT ⟨.bl b, rfl, _, _, _, _, _, rfl, .ty _, (.base (.bl b)), kit_ty kBB, ⟨_, rfl, iteT ⟨.bl b, rfl, .bl b, rfl, rfl, ?_⟩⟩⟩⟩⟩
        rw [decide_eq_true rfl]
        exact q _ (Same.refl _)
      · refine ⟨.int i, rfl, _, _, _, _, _, rfl, .ty _, (.base (.int i)), kit_ty kIT, ⟨_, rfl, iteF ⟨.int i, rfl, _, _, _, _, _, rfl, .ty _, (.base (.int i)), kit_ty kIL, ⟨_, rfl, iteF ?_⟩⟩⟩⟩
        refine ⟨.int i, rfl, rfl, _, rfl, iteF ⟨.int i, rfl, rfl, _, rfl, iteF ?_⟩⟩
        refine ⟨.int i, rfl, _, _, _, _, _, rfl, .ty _, (.base (.int i)), kit_ty kIB, ⟨_, rfl, iteF ⟨.int i, rfl, _, _, _, _, _, rfl, .ty _, (.base (.int i)), kit_ty kIB, ⟨_, rfl, iteF ?_⟩⟩⟩⟩
        refine ⟨.int i, rfl, _, _, _, _, _, rfl, .ty _, (.base (.int i)), kit_ty kIS, ⟨_, rfl, iteF ?_⟩⟩
        refine ⟨.int i, rfl, _, _, _, _, _, rfl, .ty _, (.base (.int i)), kit_ty kII, ⟨_, rfl, iteT ⟨.int i, rfl, .int i, rfl, rfl, ?_⟩⟩⟩
        rw [decide_eq_true rfl]
        exact q _ (Same.refl _)
      · refine ⟨.str y, rfl, _, _, _, _, _, rfl, .ty _, (.base (.str y)), kit_ty kST, ⟨_, rfl, iteF ⟨.str y, rfl, _, _, _, _, _, rfl, .ty _, (.base (.str y)), kit_ty kSL, ⟨_, rfl, iteF ?_⟩⟩⟩⟩
        refine ⟨.str y, rfl, rfl, _, rfl, iteF ⟨.str y, rfl, rfl, _, rfl, iteF ?_⟩⟩
        refine ⟨.str y, rfl, _, _, _, _, _, rfl, .ty _, (.base (.str y)), kit_ty kSB, ⟨_, rfl, iteF ⟨.str y, rfl, _, _, _, _, _, rfl, .ty _, (.base (.str y)), kit_ty kSB, ⟨_, rfl, iteF ?_⟩⟩⟩⟩
        refine ⟨.str y, rfl, _, _, _, _, _, rfl, .ty _, (.base (.str y)), kit_ty kSS, ⟨_, rfl, iteT ?_⟩⟩
        refine ⟨.str y, rfl, _, _, _, _, _, rfl, .ty _, (.base (.str y)), kit_ty kSS, ⟨_, rfl, iteT ⟨.str y, rfl, .str y, rfl, rfl, ?_⟩⟩⟩
        rw [decide_eq_true rfl]
        exact q _ (Same.refl _)
    · have hlen := paired_len hu
      rcases hpr with ⟨hp, hq⟩ | ⟨hp, hq⟩
      · have tx : TyX K H (.ref r) (.type "tuple") := .base (.tup hq)
        have ty : TyX K H (.ref p) (.type "tuple") := .base (.tup hp)
        refine ⟨.ref r, rfl, _, _, _, _, _, rfl, .ty _, tx, kit_ty kTT, ⟨_, rfl, iteT (iteT ?_)⟩⟩
        refine ⟨.ref p, rfl, _, _, _, _, _, rfl, .ty _, ty, kit_ty kTT, .ref r, rfl, _, _, _, _, _, rfl, .ty _, tx, kit_ty kTT, rfl, _, rfl, iteF ?_⟩
        refine ⟨.ref p, rfl, two_le, fun T nT => ?_⟩
        have s1 : Same H (upd H T (.tup [.ty "tuple", .ty "list"])) := same_new nT
        have hT1 : (upd H T (.tup [.ty "tuple", .ty "list"])) T = some (.tup [.ty "tuple", .ty "list"]) := upd_same
        generalize (upd H T (.tup [.ty "tuple", .ty "list"])) = H1 at s1 hT1 ⊢
        have hp1 := s1 _ _ hp
        have hq1 := s1 _ _ hq
        refine ⟨.ref p, T, _, .type "tuple", [.type "tuple", .type "list"], true, rfl, hT1, .cons (.ty _) (.cons (.ty _) .nil), .base (.tup hp1), kitAny_cons (kit_ty kTT) (fun e => by cases e) (fun _ => rfl), ⟨_, rfl, iteF ?_⟩⟩
        refine ⟨.ref p, rfl, p, _, rfl, .inr (SqT.of hp1), .ref r, rfl, r, _, rfl, .inr (SqT.of hq1), rfl, _, rfl, ?_⟩
        rw [hlen, decide_eq_true rfl]
        refine iteF ?_
        refine ⟨.ref r, rfl, r, _, rfl, .inr (SqT.of hq1), _, rfl, by omega, by omega, fun D nD => ?_⟩
        have s2 : Same H1 (upd H1 D (.lst [])) := same_new nD
        refine lc_it walk_range (fun i H5 => Same H1 H5 ∧ H5 D = some (.lst [])) ⟨s2, upd_same⟩ (fun _ _ _ _ => trivial) (fun i x H5 H6 hi hI y => ?_) (fun H5 hI => ?_)
        · obtain ⟨rfl, hxv⟩ := y
          have ei : (0 : Int) + (i : Nat) = ((i : Nat) : Int) := by omega
          have hxv : x = V.int ((i : Nat) : Int) := hxv.trans (by show V.int (0 + (i : Nat)) = _; rw [ei])
          subst hxv
          obtain ⟨sm, hD⟩ := hI
          have hix : i < us.length := by omega
          have hg : us[i]? = some us[i] := List.getElem?_eq_getElem hix
          generalize us[i] = u at hg
          obtain ⟨v, hv, hF⟩ := paired_getL hu hg
          refine ⟨wipe_put (by decide), ?_⟩
          refine ⟨.ref p, rfl, .int ((i : Nat) : Int), rfl, .inr (.inl ⟨p, us, _, u, rfl, rfl, SqT.of (sm _ _ hp1), atI_nat hg, .ref r, rfl, .int ((i : Nat) : Int), rfl, .inr (.inl ⟨r, ws, _, v, rfl, rfl, SqT.of (sm _ _ hq1), atI_nat hv, u, v, rfl, hF.same (s1.trans sm), fun H7 s7 => ⟨_, rfl, iteF ⟨sm.trans s7, s7 _ _ hD⟩⟩⟩)⟩)⟩
        · obtain ⟨sm, hD⟩ := hI
          refine ⟨Nat.zero_le _, fun e ne => ?_⟩
          have s3 : Same H5 (upd H5 e (.lst [])) := same_new ne
          exact ⟨.list [], .list [], .lst (SqL.of (s3 _ _ hD)) .nil, .lst (SqL.of upd_same) .nil, shNil, shNil, q _ ((s1.trans sm).trans s3)⟩
      · have tx : TyX K H (.ref r) (.type "list") := .base (.lst hq)
        have ty : TyX K H (.ref p) (.type "list") := .base (.lst hp)
        refine ⟨.ref r, rfl, _, _, _, _, _, rfl, .ty _, tx, kit_ty kLT, ⟨_, rfl, iteF ⟨.ref r, rfl, _, _, _, _, _, rfl, .ty _, tx, kit_ty kLL, ⟨_, rfl, iteT ?_⟩⟩⟩⟩
        refine ⟨.ref p, rfl, _, _, _, _, _, rfl, .ty _, ty, kit_ty kLT, .ref r, rfl, _, _, _, _, _, rfl, .ty _, tx, kit_ty kLT, rfl, _, rfl, iteF ?_⟩
        refine ⟨.ref p, rfl, two_le, fun T nT => ?_⟩
        have s1 : Same H (upd H T (.tup [.ty "tuple", .ty "list"])) := same_new nT
        have hT1 : (upd H T (.tup [.ty "tuple", .ty "list"])) T = some (.tup [.ty "tuple", .ty "list"]) := upd_same
        generalize (upd H T (.tup [.ty "tuple", .ty "list"])) = H1 at s1 hT1 ⊢
        have hp1 := s1 _ _ hp
        have hq1 := s1 _ _ hq
        refine ⟨.ref p, T, _, .type "list", [.type "tuple", .type "list"], true, rfl, hT1, .cons (.ty _) (.cons (.ty _) .nil), .base (.lst hp1), kitAny_cons (kit_ty kLT) (fun _ => kitAny_cons (kit_ty kLL) (fun e => by cases e) (fun _ => rfl)) (fun e => by cases e), ⟨_, rfl, iteF ?_⟩⟩
        refine ⟨.ref p, rfl, p, _, rfl, .inl (SqL.of hp1), .ref r, rfl, r, _, rfl, .inl (SqL.of hq1), rfl, _, rfl, ?_⟩
        rw [hlen, decide_eq_true rfl]
        refine iteF ?_
        refine ⟨.ref r, rfl, r, _, rfl, .inl (SqL.of hq1), _, rfl, by omega, by omega, fun D nD => ?_⟩
        have s2 : Same H1 (upd H1 D (.lst [])) := same_new nD
        refine lc_it walk_range (fun i H5 => Same H1 H5 ∧ H5 D = some (.lst [])) ⟨s2, upd_same⟩ (fun _ _ _ _ => trivial) (fun i x H5 H6 hi hI y => ?_) (fun H5 hI => ?_)
        · obtain ⟨rfl, hxv⟩ := y
          have ei : (0 : Int) + (i : Nat) = ((i : Nat) : Int) := by omega
          have hxv : x = V.int ((i : Nat) : Int) := hxv.trans (by show V.int (0 + (i : Nat)) = _; rw [ei])
          subst hxv
          obtain ⟨sm, hD⟩ := hI
          have hix : i < us.length := by omega
          have hg : us[i]? = some us[i] := List.getElem?_eq_getElem hix
          generalize us[i] = u at hg
          obtain ⟨v, hv, hF⟩ := paired_getL hu hg
          refine ⟨wipe_put (by decide), ?_⟩
          refine ⟨.ref p, rfl, .int ((i : Nat) : Int), rfl, .inl ⟨p, us, _, u, rfl, rfl, SqL.of (sm _ _ hp1), atI_nat hg, .ref r, rfl, .int ((i : Nat) : Int), rfl, .inl ⟨r, ws, _, v, rfl, rfl, SqL.of (sm _ _ hq1), atI_nat hv, u, v, rfl, hF.same (s1.trans sm), fun H7 s7 => ⟨_, rfl, iteF ⟨sm.trans s7, s7 _ _ hD⟩⟩⟩⟩⟩
        · obtain ⟨sm, hD⟩ := hI
          refine ⟨Nat.zero_le _, fun e ne => ?_⟩
          have s3 : Same H5 (upd H5 e (.lst [])) := same_new ne
          exact ⟨.list [], .list [], .lst (SqL.of (s3 _ _ hD)) .nil, .lst (SqL.of upd_same) .nil, shNil, shNil, q _ ((s1.trans sm).trans s3)⟩
theorem ok_tree {f : Addr} {fd : FuncData} (F : Fun K "_law_alike" "_law_alike" lAlike f fd) (B : Blt mg) (b : Binds K fd ["_law_found", "_law_due"] []) (gA : mg "_law_alike" = some (.ref f)) : ∀ n : Nat, FnOk P w K mg base CX0 (n + 1) f fd ["_law_found", "_law_due"] (spTree n)
  | 0 => ok_tree0 F B
  | n + 1 => ok_treeS F B b gA (ok_tree F B b gA n)
end Nf

set_option Elab.async false
set_option linter.all false
set_option maxRecDepth 100000
set_option maxHeartbeats 4000000
namespace Nf
open PySem PySem.Spec PyProof.Rows L2
variable {P : Program} {w : World} {K : PySem.W.Frag} {mg : Str → Option Value} {base : Heap}
/-! ### check_plan of a plan of rounds -/
theorem scCheck : FnScope ["party", "plan", "number", "thing"] ["party", "plan"] (defScope sCheck) := ⟨rfl, rfl, rfl, by decide +kernel, rfl, by decide +kernel, by decide +kernel⟩
def spCheckOk (K : PySem.W.Frag) (C : Addr) : Sp := fun vs H Q _ => ∃ (p l : Addr) (g s : Int) (rs : List Rnd), vs = [.ref p, .ref l] ∧ PartyV C H p g s ∧ IsParty g s ∧ PlanV K H l rs ∧ Small rs ∧ (∀ r ∈ rs, IsRound g s r) ∧ ∀ H', Same H H' → Q .non H'
theorem ok_checkOk {f fI C : Addr} {fd fdI : FuncData} (F : Fun K "check_plan" "check_plan" sCheck f fd) (B : Blt mg) (GI : FnOk P w K mg base CX0 3 fI fdI ["party", "thing"] (spIsRound C)) (FI : Fun K "is_round" "is_round" sIsRound fI fdI) (bI : Binds K fdI ["party", "thing"] []) (gI : mg "is_round" = some (.ref fI)) :
    FnOk P w K mg base CX0 4 f fd ["party", "plan"] (spCheckOk K C) := by
  refine F.ok scCheck (fun vs H Q E h => ?_) (fun cdv A outer s H vs Q E hr h => ?_)
  · obtain ⟨p, l, g, s, rs, rfl, _⟩ := h
    rfl
  · obtain ⟨p, l, g, z, rs, rfl, hP, hI, ⟨xs, hl, hxs⟩, hS, hR, q⟩ := h
    refine ⟨_, pss_one (ps_for PassesOwn.never rfl (pi_enum (by rfl) B.enumerate (pa_cons (pv 1) pa_nil)) (pg_tup rfl (pgs_cons (pg_name (i := 2) scCheck.nd rfl (.inl rfl)) (pgs_cons (pg_name (i := 3) scCheck.nd rfl (.inl rfl)) pgs_nil)))
        (pss_one (ps_if (pt_not (pt_val (pe_call GI hr (by rfl) gI FI.kp bI .nil pass0 (pa_cons (pv 0) (pa_cons (pv 3) pa_nil))))) pss_never pss_nil))), ?_⟩
    have hxl := paired_len hxs
    refine ⟨.ref l, rfl, l, xs, rfl, hl, ?_⟩
    refine for_it (walk_enum (xs := xs)) (fun i σ H2 => ∃ (y3 y4 : Option V), σ = [some (.ref p), some (.ref l), y3, y4] ∧ Same H H2)
      ⟨none, none, rfl, Same.refl _⟩ (fun i σ H2 _ h => ?_) (fun i x σ H2 H3 hi hI2 y => ?_) (fun σ H2 hI2 => ?_)
    · obtain ⟨_, _, _, sm⟩ := h
      exact sm.seq hl
    · obtain ⟨y3, y4, rfl, sm⟩ := hI2
      obtain ⟨T, v1, v2, rfl, nT, rfl, g1, g2⟩ := y
      have e1 : v1 = .int ((i : Nat) : Int) := (Option.some.inj g1).symm
      subst e1
      obtain ⟨r, hr0, hrx⟩ := paired_getL hxs g2
      have hmem : r ∈ rs := List.mem_of_getElem? hr0
      have sT : Same H2 (upd H2 T (.tup [.int ((i : Nat) : Int), v2])) := same_new nT
      refine ⟨T, _, rfl, SqT.of upd_same, rfl, _, _, rfl, _, _, rfl, ⟨rfl, ?_⟩⟩
      have sm3 := sm.trans sT
      refine ⟨.ref p, rfl, v2, rfl, p, g, z, v2, r, rfl, hP.same sm3, hI, hrx.mono (same_toT sm3), hS.r r hmem, hS.t r hmem, fun b H4 s4 hb => ?_⟩
      have eb : b = true := hb.mpr (hR r hmem)
      subst eb
      exact ⟨_, rfl, iteF ⟨_, _, rfl, sm3.trans s4⟩⟩
    · obtain ⟨_, _, rfl, sm⟩ := hI2
      exact q _ sm
/-! ### the company that each guest kept -/
theorem any_key (kvs : List (Key × V)) (k : Key) : ((kvs.any fun kv => decide (kv.1 = k)) = true) ↔ k ∈ kvs.map (·.1) := by
  simp only [List.any_eq_true, decide_eq_true_eq, List.mem_map]
theorem keys_put_old {kvs : List (Key × V)} {k : Key} (v : V) (h : k ∈ kvs.map (·.1)) : (putK kvs k v).map (·.1) = kvs.map (·.1) := by
  unfold putK
  rw [if_pos ((any_key kvs k).mpr h), List.map_map]
  refine List.map_congr_left fun kv _ => ?_
  show (if kv.1 = k then (kv.1, v) else kv).1 = kv.1
  split <;> rfl
theorem keys_put_new {kvs : List (Key × V)} {k : Key} (v : V) (h : k ∉ kvs.map (·.1)) : (putK kvs k v).map (·.1) = kvs.map (·.1) ++ [k] := by
  unfold putK
  rw [if_neg (fun z => h ((any_key kvs k).mp z))]
  simp
theorem mem_inl {ks : List Int} {b : Int} : (Sum.inl b : Key) ∈ ks.map Sum.inl ↔ b ∈ ks := by
  constructor
  · intro h
    obtain ⟨x, hx, e⟩ := List.mem_map.mp h
    cases e
    exact hx
  · exact fun h => List.mem_map.mpr ⟨b, h, rfl⟩
/-- g dicts, one for each guest, of those whom it met by the pairs told so far -/
structure CompI (H0 H : Hp) (co : Addr) (ds : List Addr) (g : Nat) (qs : List (Int × Int)) : Prop where
  sm : Same H0 H
  lst : H co = some (.lst (ds.map V.ref))
  nco : H0 co = none
  len : ds.length = g
  nd : ds.Nodup
  new : ∀ d ∈ ds, H0 d = none
  dict : ∀ (c : Nat) (d : Addr), ds[c]? = some d → ∃ (kvs : List (Key × V)) (ks : List Int), H d = some (.dK kvs) ∧ kvs.map (·.1) = ks.map Sum.inl ∧ ks.Perm (metD g qs c)
  ne : ∀ p ∈ qs, p.1 ≠ p.2
theorem CompI.keep {H0 H H' : Hp} {co : Addr} {ds : List Addr} {g : Nat} {qs : List (Int × Int)} (h : CompI H0 H co ds g qs) (s : Same H H') : CompI H0 H' co ds g qs := by
  refine ⟨h.sm.trans s, s _ _ h.lst, h.nco, h.len, h.nd, h.new, fun c d e => ?_, h.ne⟩
  obtain ⟨kvs, ks, h1, h2⟩ := h.dict c d e
  exact ⟨kvs, ks, s _ _ h1, h2⟩
theorem nodup_get {ds : List Addr} (nd : ds.Nodup) {i j : Nat} {d : Addr} (h1 : ds[i]? = some d) (h2 : ds[j]? = some d) : i = j := by
  obtain ⟨l1, e1⟩ := List.getElem?_eq_some_iff.mp h1
  obtain ⟨l2, e2⟩ := List.getElem?_eq_some_iff.mp h2
  rcases Nat.lt_trichotomy i j with z | z | z
  · exact absurd (e1.trans e2.symm) (List.pairwise_iff_getElem.mp nd i j l1 l2 z)
  · exact z
  · exact absurd (e2.trans e1.symm) (List.pairwise_iff_getElem.mp nd j i l2 l1 z)
/-- company[a][b] = True -/
theorem CompI.put {H0 H : Hp} {co : Addr} {ds : List Addr} {g : Nat} {qs : List (Int × Int)} (h : CompI H0 H co ds g qs) {a b : Int} (ha : 0 ≤ a ∧ a < g) (hb : 0 ≤ b ∧ b < g) (hab : a ≠ b) (hg : g ≤ 64) :
    ∃ (d : Addr) (H' : Hp), atI (ds.map V.ref) a = some (.ref d) ∧ (∃ kvs : List (Key × V), H d = some (.dK kvs)) ∧ DPut H d (.int b) (.bl true) H' ∧ CompI H0 H' co ds g (qs ++ [(a, b)]) := by
  have hlt : a.toNat < ds.length := by
    rw [h.len]
    omega
  have hd : ds[a.toNat]? = some ds[a.toNat] := List.getElem?_eq_getElem hlt
  generalize ds[a.toNat] = d at hd
  have ea : a = ((a.toNat : Nat) : Int) := by omega
  obtain ⟨kvs, ks, h1, h2, h3⟩ := h.dict _ _ hd
  rw [← ea] at h3
  have hl : kvs.length ≤ g := by
    have e1 : kvs.length = ks.length := by
      have := congrArg List.length h2
      simpa using this
    rw [e1, h3.length_eq]
    exact metD_len _ _ _
  have big : (64 : Nat) < sizeLine := by decide
  refine ⟨d, upd H d (.dK (putK kvs (Sum.inl b) (.bl true))), ?_, ⟨kvs, h1⟩, DPut.k (k := Sum.inl b) h1 (by omega), ?_⟩
  · rw [ea]
    refine atI_nat ?_
    rw [List.getElem?_map, hd]
    rfl
  · have nd0 : H0 d = none := h.new d (List.mem_of_getElem? hd)
    have ncd : co ≠ d := ne_of h.lst h1 (by intro z; cases z)
    refine ⟨same_put h.sm nd0, (upd_ne ncd).trans h.lst, h.nco, h.len, h.nd, h.new, fun c d' e => ?_, fun p hp => ?_⟩
    · by_cases ec : c = a.toNat
      · subst ec
        rw [hd] at e
        cases e
        refine ⟨_, if b ∈ ks then ks else ks ++ [b], upd_same, ?_, ?_⟩
        · by_cases m : b ∈ ks
          · rw [keys_put_old _ (by rw [h2]; exact mem_inl.mpr m), h2, if_pos m]
          · rw [keys_put_new _ (by rw [h2]; exact fun z => m (mem_inl.mp z)), h2, if_neg m, List.map_append]
            rfl
        · rw [← ea]
          by_cases m : b ∈ ks
          · rw [if_pos m, metD_old (.inr (mem_metD.mp (h3.mem_iff.mp m)).2)]
            exact h3
          · rw [if_neg m]
            refine (h3.append_right [b]).trans (metD_new hb.1 hb.2 fun z => m (h3.mem_iff.mpr (mem_metD.mpr ⟨hb, z⟩)))
      · obtain ⟨kv2, k2, g1, g2, g3⟩ := h.dict c d' e
        have ne : d' ≠ d := fun z => ec (nodup_get h.nd e (by rw [z]; exact hd))
        refine ⟨kv2, k2, (upd_ne ne).trans g1, g2, ?_⟩
        rw [metD_old (.inl (by omega))]
        exact g3
    · rcases List.mem_append.mp hp with hp | hp
      · exact h.ne p hp
      · rw [List.mem_singleton.mp hp]
        exact hab
theorem CompI.congr {H0 H : Hp} {co : Addr} {ds : List Addr} {g : Nat} {qs qs' : List (Int × Int)} (h : CompI H0 H co ds g qs) (e : ∀ p, p ∈ qs ↔ p ∈ qs') : CompI H0 H co ds g qs' := by
  refine ⟨h.sm, h.lst, h.nco, h.len, h.nd, h.new, fun c d hd => ?_, fun p hp => h.ne p ((e p).mpr hp)⟩
  obtain ⟨kvs, ks, h1, h2, h3⟩ := h.dict c d hd
  have em : metD g qs' c = metD g qs c := List.filter_congr fun d _ => by simp only [e]
  exact ⟨kvs, ks, h1, h2, em ▸ h3⟩
theorem dirs_congr {ps qs : List (Int × Int)} (h : ∀ p, p ∈ ps ↔ p ∈ qs) : ∀ p, p ∈ dirs ps ↔ p ∈ dirs qs := fun ⟨a, b⟩ => by rw [mem_dirs, mem_dirs, h, h]
/-! ### lists of rising lists, all new -/
def NewL (H0 H : Hp) (x : V) (row : List Int) : Prop := ∃ q, x = .ref q ∧ H q = some (.lst (row.map V.int)) ∧ H0 q = none
theorem NewL.keep {H0 H H' : Hp} {x : V} {row : List Int} (h : NewL H0 H x row) (s : Same H H') : NewL H0 H' x row := by
  obtain ⟨q, e, h1, h2⟩ := h
  exact ⟨q, e, s _ _ h1, h2⟩
def rowsM (f : Int → List Int) (n : Nat) : List (List Int) := (rangeI n).map f
theorem rowsM_len (f : Int → List Int) (n : Nat) : (rowsM f n).length = n := by simp [rowsM, rangeI_len]
theorem rowsM_succ (f : Int → List Int) (n : Nat) : rowsM f (n + 1) = rowsM f n ++ [f (n : Nat)] := by
  unfold rowsM rangeI
  rw [List.range_succ, List.map_append, List.map_append]
  rfl
/-- a new list of new lists -/
def NewLL (H0 H : Hp) (q : Addr) (rows : List (List Int)) : Prop := H0 q = none ∧ ∃ xs, H q = some (.lst xs) ∧ Paired (NewL H0 H) xs rows
/-- one more row -/
theorem newLL_snoc {H0 H : Hp} {D : Addr} {acc : List V} {rows : List (List Int)} {x : V} {row : List Int} (hD : H D = some (.lst acc)) (hp : Paired (NewL H0 H) acc rows) (hx : NewL H0 H x row) (n : ∀ q, x = .ref q → q ≠ D) (m : ∀ y ∈ acc, ∀ q, y = .ref q → q ≠ D) :
    Paired (NewL H0 (upd H D (.lst (acc ++ [x])))) (acc ++ [x]) (rows ++ [row]) := by
  have go : ∀ {y r}, NewL H0 H y r → (∀ q, y = .ref q → q ≠ D) → NewL H0 (upd H D (.lst (acc ++ [x]))) y r := fun {y r} h ne => by
    obtain ⟨q, rfl, h1, h2⟩ := h
    exact ⟨q, rfl, (upd_ne (ne q rfl)).trans h1, h2⟩
  have all : ∀ {ys : List V} {rs : List (List Int)}, (∀ y ∈ ys, y ∈ acc) → Paired (NewL H0 H) ys rs → Paired (NewL H0 (upd H D (.lst (acc ++ [x])))) ys rs := fun {ys rs} hs h => by
    induction h with
    | nil => exact .nil
    | @cons y r ys rs hy t ih => exact .cons (go hy (m y (hs y (by simp)))) (ih fun y hy => hs y (by simp [hy]))
  exact paired_snoc (all (fun _ h => h) hp) (go hx n)
end Nf

set_option Elab.async false
set_option linter.all false
set_option maxRecDepth 100000
set_option maxHeartbeats 4000000
namespace Nf
open PySem PySem.Spec PyProof.Rows L2
variable {P : Program} {w : World} {K : PySem.W.Frag} {mg : Str → Option Value} {base : Heap}
/-! ### met -/
def spMetOk (K : PySem.W.Frag) (C : Addr) : Sp := fun vs H Q _ => ∃ (p l : Addr) (g : Nat) (s : Int) (rs : List Rnd), vs = [.ref p, .ref l] ∧ PartyV C H p g s ∧ IsParty g s ∧ PlanV K H l rs ∧ Small rs ∧ (∀ r ∈ rs, IsRound g s r) ∧
  ∀ H' q, Same H H' → NewLL H H' q (rowsM (metM g (pairsP rs)) g) → Q (.ref q) H'
end Nf

set_option Elab.async false
set_option linter.all false
set_option maxRecDepth 100000
set_option maxHeartbeats 4000000
namespace Nf
open PySem PySem.Spec PyProof.Rows L2
variable {P : Program} {w : World} {K : PySem.W.Frag} {mg : Str → Option Value} {base : Heap}
/-! ### unmet -/
theorem inV_ints (d : Int) (ns : List Int) : inV (.int d) (ns.map V.int) = decide (d ∈ ns) := by
  unfold inV
  rw [Bool.eq_iff_iff, List.any_eq_true, decide_eq_true_eq]
  constructor
  · rintro ⟨y, hy, e⟩
    obtain ⟨n, hn, rfl⟩ := List.mem_map.mp hy
    have e : (n == d) = true := e
    rw [← eq_of_beq e]
    exact hn
  · exact fun h => ⟨.int d, List.mem_map.mpr ⟨d, h, rfl⟩, by show (d == d) = true; exact beq_self_eq_true d⟩
theorem flat_ints (ns : List Int) : (ns.map V.int).all flatV = true := by
  rw [List.all_eq_true]
  intro x hx
  obtain ⟨n, _, rfl⟩ := List.mem_map.mp hx
  rfl
theorem rowsM_get (f : Int → List Int) {n i : Nat} (h : i < n) : (rowsM f n)[i]? = some (f (i : Nat)) := by
  unfold rowsM rangeI
  rw [List.map_map, List.getElem?_map, List.getElem?_range h]
  rfl
def oSc : Scope := { kind := .function, names := [(PySem.Str.ofString ".0", .local), (PySem.Str.ofString "guest", .cell), (PySem.Str.ofString "others", .cell), (PySem.Str.ofString "everyone", .cell)], isGenerator := false, isCoroutine := false, more := [] }
def spUnmetOk (K : PySem.W.Frag) (C : Addr) : Sp := fun vs H Q _ => ∃ (p l : Addr) (g : Nat) (s : Int) (rs : List Rnd), vs = [.ref p, .ref l] ∧ PartyV C H p g s ∧ IsParty g s ∧ PlanV K H l rs ∧ Small rs ∧ (∀ r ∈ rs, IsRound g s r) ∧
  ∀ H' q, Same H H' → NewLL H H' q (rowsM (unmetM g (pairsP rs)) g) → Q (.ref q) H'
end Nf

set_option Elab.async false
set_option linter.all false
set_option maxRecDepth 100000
set_option maxHeartbeats 4000000
namespace Nf
open PySem PySem.Spec PyProof.Rows L2
variable {P : Program} {w : World} {K : PySem.W.Frag} {mg : Str → Option Value} {base : Heap}
/-! ### a round turned -/
def tAt (tn : List Int) (g : Int) : Int := tn.getD g.toNat 0
def movedT (tn : List Int) (t : Tbl) : Tbl := sortI (t.map (tAt tn))
def movedM (tn : List Int) (r : Rnd) : Rnd := sortT (r.map (movedT tn))
theorem movedT_len (tn : List Int) (t : Tbl) : (movedT tn t).length = t.length := by
  unfold movedT
  rw [(sortI_perm _).length_eq, List.length_map]
theorem tAt_at {tn : List Int} {g : Int} (h0 : 0 ≤ g) (h1 : g < tn.length) : atI (tn.map V.int) g = some (.int (tAt tn g)) := by
  obtain ⟨n, rfl⟩ := Int.eq_ofNat_of_zero_le h0
  have hlt : n < tn.length := by exact_mod_cast h1
  refine atI_nat ?_
  rw [List.getElem?_map, List.getElem?_eq_getElem hlt]
  simp [tAt, List.getD, List.getElem?_eq_getElem hlt]
def oScR : Scope := { kind := .function, names := [(PySem.Str.ofString ".0", .local), (PySem.Str.ofString "table", .local), (PySem.Str.ofString "tuple", .globalImplicit), (PySem.Str.ofString "sorted", .globalImplicit), (PySem.Str.ofString "turning", .cell)], isGenerator := false, isCoroutine := false, more := [] }
theorem scReplaced : FnScope ["tables", "turning", "table", "guest"] ["tables", "turning"] (defScope sReplaced) := ⟨rfl, rfl, rfl, by decide +kernel, rfl, by decide +kernel, by decide +kernel⟩
def spMoved (K : PySem.W.Frag) : Sp := fun vs H Q _ => ∃ (x : V) (l : Addr) (r : Rnd) (tn : List Int), vs = [x, .ref l] ∧ RndV H x r ∧ SqL K H l (tn.map V.int) ∧ r.length ≤ 1000 ∧ (∀ t ∈ r, t ≠ [] ∧ t.length ≤ 1000 ∧ ∀ g ∈ t, 0 ≤ g ∧ g < tn.length) ∧ ∀ y H', Same H H' → RndV H' y (movedM tn r) → Q y H'
def rTupOf (K : PySem.W.Frag) : List V → Hp → VK → Prop := fun xs H Q => ∃ p ys, xs = [.ref p] ∧ ((SqL K H p ys ∧ ∀ l, H l = none → Q (.ref l) (upd H l (.tup ys))) ∨ (SqT K H p ys ∧ Q (.ref p) H))
theorem ok_replaced {f : Addr} {fd : FuncData} (F : Fun K "replaced" "replaced" sReplaced f fd) (B : Blt mg) : FnOk P w K mg base CX0 1 f fd ["tables", "turning"] (spMoved K) := by
  refine F.ok scReplaced (fun vs H Q E h => ?_) (fun cdv A outer s H vs Q E hr h => ?_)
  · obtain ⟨x, l, r, tn, rfl, _⟩ := h
    rfl
  · obtain ⟨x, l, r, tn, rfl, ⟨p, xs, rfl, hp, hxs⟩, hl, hr1, hrt, q⟩ := h
    refine ⟨_, pss_one (ps_ret (pe_callTy call_tuple_of (by rfl) B.tuple (by decide +kernel) (pa_cons (pe_callB (cr_sortD dT hr.units) (by rfl) B.sorted (by decide +kernel) (pa_cons
        (pe_lc (own := [("table", 2)]) (g := gName 2) (tt := tYes)
          (te := tCB (rTupOf K) (tCons (tCB (rSortD K (fun i : Int => PyData.int i)) (tCons (tLc (iTup K (tVar 2)) (gName 3) tYes (tOp (rIxL K) (tVar 1) (tVar 3)) [3]) tNil)) tNil)) (by rfl) scReplaced.nd (pi_tup (pv 0))
          (blkOk_by (N := ["tables", "turning", "table", "guest"]) (sc := defScope sReplaced) (by decide +kernel))
          (fun _ _ _ _ _ => pg_name (i := 2) (x := "table") scReplaced.nd rfl (.inl rfl) (.inr rfl)) (fun _ _ _ _ _ => pts_nil)
          (fun _ _ _ _ _ => pe_callTy call_tuple_of (by rfl) B.tuple (by decide +kernel) (pa_cons (pe_callB (cr_sortD (fun i : Int => PyData.int i) hr.units) (by rfl) B.sorted (by decide +kernel) (pa_cons
            (pe_lc (own := [("guest", 3)]) (g := gName 3) (wi := iTup K (tVar 2)) (tt := tYes) (te := tOp (rIxL K) (tVar 1) (tVar 3)) (by rfl) scReplaced.nd (pi_tup (pv 2))
              (blkOk_by (N := ["tables", "turning", "table", "guest"]) (sc := oScR) (by decide +kernel))
              (fun _ _ _ _ _ => pg_name (i := 3) (x := "guest") scReplaced.nd rfl (.inl rfl) (.inr rfl)) (fun _ _ _ _ _ => pts_nil)
              (fun _ _ _ _ _ => pe_ix ix_list (pv 1) (pv 3) (fun _ _ => rfl))) pa_nil)) pa_nil))) pa_nil)) pa_nil))), ?_⟩
    have big : (1000 : Nat) < sizeLine := by decide
    refine ⟨.ref p, rfl, p, rfl, ⟨_, SqT.of hp⟩, fun D nD => ?_⟩
    have s0 : Same H (upd H D (.lst [])) := same_new nD
    refine lc_it (walk_tup (xs := xs)) (fun i H5 => Same H H5 ∧ ∃ acc, H5 D = some (.lst acc) ∧ Paired (TabV H5) acc ((r.take i).map (movedT tn))) ⟨s0, [], upd_same, .nil⟩ (fun i H5 _ h => SqT.of (h.1 _ _ hp)) (fun i x H5 H6 hi hI y => ?_) (fun H5 hI => ?_)
    · obtain ⟨sm, acc, hD, hac⟩ := hI
      obtain ⟨rfl, hx⟩ := y
      obtain ⟨t, ht, b, rfl, hb⟩ := paired_getL hxs hx
      obtain ⟨htn, htl, htg⟩ := hrt t (List.mem_of_getElem? ht)
      refine ⟨wipe_put (by decide), yesT ?_⟩
      refine ⟨.ref b, rfl, b, rfl, ⟨_, SqT.of (sm _ _ hb)⟩, fun D2 nD2 => ?_⟩
      have s1 : Same H6 (upd H6 D2 (.lst [])) := same_new nD2
      refine lc_it (walk_tup (xs := t.map V.int)) (fun m H7 => Same H6 H7 ∧ H7 D2 = some (.lst (((t.take m).map (tAt tn)).map V.int))) ⟨s1, upd_same⟩ (fun m H7 _ h => SqT.of (h.1 _ _ (sm _ _ hb))) (fun m x H7 H8 hm hM y => ?_) (fun H7 hM => ?_)
      · obtain ⟨sm7, hD7⟩ := hM
        obtain ⟨rfl, hx2⟩ := y
        obtain ⟨d, hd, rfl⟩ := getElem?_int hx2
        obtain ⟨hd0, hd1⟩ := htg d (List.mem_of_getElem? hd)
        refine ⟨wipe_put (by decide), yesT ?_⟩
        refine ⟨.ref l, rfl, .int d, rfl, l, _, d, _, rfl, rfl, (sm.trans sm7).seq hl, tAt_at hd0 hd1, _, hD7, ?_, same_put sm7 nD2, ?_⟩
        · rw [List.length_map, List.length_map, List.length_take]
          omega
        · rw [upd_same, takeSucc hd, List.map_append, List.map_append]
          rfl
      · obtain ⟨sm7, hD7⟩ := hM
        rw [List.length_map, List.take_of_length_le (Nat.le_refl _)] at hD7
        dsimp only [tNil]
        refine sort_ints (.inl (SqL.of hD7)) fun p2 np2 => ?_
        have s2 := sm7.trans (same_new (o := .lst ((sortI (t.map (tAt tn))).map V.int)) np2)
        refine ⟨p2, _, rfl, .inl ⟨SqL.of upd_same, fun t2 nt2 => ?_⟩⟩
        have s3 := s2.trans (same_new (o := .tup ((sortI (t.map (tAt tn))).map V.int)) nt2)
        have hD3 := s3 _ _ hD
        refine ⟨acc, hD3, ?_, same_put (sm.trans s3) nD, acc ++ [.ref t2], upd_same, ?_⟩
        · have := paired_len hac
          rw [List.length_map, List.length_take] at this
          omega
        · have keepT : ∀ {v : V} {u : Tbl}, TabV _ v u → TabV (upd _ D (.lst (acc ++ [.ref t2]))) v u := fun {v u} h => by
            obtain ⟨a, rfl, ha⟩ := h
            exact ⟨a, rfl, by rw [upd_ne (ne_of ha hD3 (by intro e; cases e))]; exact ha⟩
          rw [takeSucc ht, List.map_append]
          exact paired_snoc (paired_mono (fun v u h => keepT (h.mono (same_toT s3))) hac) (keepT ⟨t2, rfl, upd_same⟩)
    · obtain ⟨sm, acc, hD, hac⟩ := hI
      rw [paired_len hxs, List.take_of_length_le (Nat.le_refl _)] at hac
      dsimp only [tNil]
      refine sort_tabs (.inl (SqL.of hD)) hac (fun t ht => ?_) fun ys p2 np2 hys => ?_
      · obtain ⟨u, hu, rfl⟩ := List.mem_map.mp ht
        intro e
        have e2 := congrArg List.length e
        rw [movedT_len] at e2
        exact (hrt u hu).1 (List.eq_nil_of_length_eq_zero e2)
      · have s1 : Same H5 (upd H5 p2 (.lst ys)) := same_new np2
        refine ⟨p2, _, rfl, .inl ⟨SqL.of upd_same, fun t nt => ?_⟩⟩
        have s2 := s1.trans (same_new (o := .tup ys) nt)
        exact q _ _ (sm.trans s2) ⟨t, ys, rfl, upd_same, paired_mono (fun _ _ h => h.mono (same_toT s2)) hys⟩
end Nf

set_option Elab.async false
set_option linter.all false
set_option maxRecDepth 100000
set_option maxHeartbeats 4000000
namespace Nf
open PySem PySem.Spec PyProof.Rows L2
variable {P : Program} {w : World} {K : PySem.W.Frag} {mg : Str → Option Value} {base : Heap}
/-! ### the law's moved -/
theorem scMoved : FnScope ["_law_tables", "_law_turning_here", "_law_found", "_law_table", "_law_guest"] ["_law_tables", "_law_turning_here"] (defScope lMoved) := ⟨rfl, rfl, rfl, by decide +kernel, rfl, by decide +kernel, by decide +kernel⟩
theorem ok_moved {f : Addr} {fd : FuncData} (F : Fun K "_law_moved" "_law_moved" lMoved f fd) (B : Blt mg) : FnOk P w K mg base CX0 1 f fd ["_law_tables", "_law_turning_here"] (spMoved K) := by
  refine F.ok scMoved (fun vs H Q E h => ?_) (fun cdv A outer s H vs Q E hr h => ?_)
  · obtain ⟨x, l, r, tn, rfl, _⟩ := h
    rfl
  · obtain ⟨x, l, r, tn, rfl, ⟨p, xs, rfl, hp, hxs⟩, hl, hr1, hrt, q⟩ := h
    refine ⟨_, pss_cons (ps_set (i := 2) scMoved.nd rfl (.inl rfl) (pe_lst pa_nil)) (pss_cons
      (ps_for PassesOwn.never rfl (pi_tup (pv 0)) (pg_name (i := 3) scMoved.nd rfl (.inl rfl))
        (pss_one (ps_expr (pe_bm PySem.F.plainAttrs_list PySem.F.slot_list_append PySem.F.type_list_append mt_append (pv 2) (pa_cons (pe_callTy call_tuple_of (by rfl) B.tuple (by decide +kernel) (pa_cons (pe_callB (cr_sortD (fun i : Int => PyData.int i) hr.units) (by rfl) B.sorted (by decide +kernel) (pa_cons
            (pe_lc (own := [("_law_guest", 4)]) (g := gName 4) (wi := iTup K (tVar 3)) (tt := tYes) (te := tOp (rIxL K) (tVar 1) (tVar 4)) (by rfl) scMoved.nd (pi_tup (pv 3))
              (blkOk_by (N := ["_law_tables", "_law_turning_here", "_law_found", "_law_table", "_law_guest"]) (sc := defScope lMoved) (by decide +kernel))
              (fun _ _ _ _ _ => pg_name (i := 4) (x := "_law_guest") scMoved.nd rfl (.inl rfl) (.inr rfl)) (fun _ _ _ _ _ => pts_nil)
              (fun _ _ _ _ _ => pe_ix ix_list (pv 1) (pv 4) (fun _ _ => rfl))) pa_nil)) pa_nil)) pa_nil)))))
      (pss_one (ps_ret (pe_callTy call_tuple_of (by rfl) B.tuple (by decide +kernel) (pa_cons (pe_callB (cr_sortD dT hr.units) (by rfl) B.sorted (by decide +kernel) (pa_cons (pv 2) pa_nil)) pa_nil))))), ?_⟩
    have big : (1000 : Nat) < sizeLine := by decide
    refine ⟨Nat.zero_le _, fun D nD => ?_⟩
    have s0 : Same H (upd H D (.lst [])) := same_new nD
    refine ⟨.ref p, rfl, p, rfl, ⟨_, SqT.of (s0 _ _ hp)⟩, ?_⟩
    refine for_it (walk_tup (xs := xs)) (fun i σ H5 => ∃ (y3 y4 : Option V), σ = [some (.ref p), some (.ref l), some (.ref D), y3, y4] ∧ Same H H5 ∧ ∃ acc, H5 D = some (.lst acc) ∧ Paired (TabV H5) acc ((r.take i).map (movedT tn)))
      ⟨none, none, rfl, s0, [], upd_same, .nil⟩ (fun i σ H5 _ h => ?_) (fun i x σ H5 H6 hi hI y => ?_) (fun σ H5 hI => ?_)
    · obtain ⟨_, _, _, sm, _⟩ := h
      exact SqT.of (sm _ _ hp)
    · obtain ⟨y3, y4, rfl, sm, acc, hD, hac⟩ := hI
      obtain ⟨rfl, hx⟩ := y
      obtain ⟨t, ht, b, rfl, hb⟩ := paired_getL hxs hx
      obtain ⟨htn, htl, htg⟩ := hrt t (List.mem_of_getElem? ht)
      refine ⟨.ref D, rfl, .inl ⟨rfl, _, SqL.of hD⟩, ?_⟩
      refine ⟨.ref b, rfl, b, rfl, ⟨_, SqT.of (sm _ _ hb)⟩, fun D2 nD2 => ?_⟩
      have s1 : Same H6 (upd H6 D2 (.lst [])) := same_new nD2
      refine lc_it (walk_tup (xs := t.map V.int)) (fun m H7 => Same H6 H7 ∧ H7 D2 = some (.lst (((t.take m).map (tAt tn)).map V.int))) ⟨s1, upd_same⟩ (fun m H7 _ h => SqT.of (h.1 _ _ (sm _ _ hb))) (fun m x H7 H8 hm hM y => ?_) (fun H7 hM => ?_)
      · obtain ⟨sm7, hD7⟩ := hM
        obtain ⟨rfl, hx2⟩ := y
        obtain ⟨d, hd, rfl⟩ := getElem?_int hx2
        obtain ⟨hd0, hd1⟩ := htg d (List.mem_of_getElem? hd)
        refine ⟨wipe_put (by decide), yesT ?_⟩
        refine ⟨.ref l, rfl, .int d, rfl, l, _, d, _, rfl, rfl, (sm.trans sm7).seq hl, tAt_at hd0 hd1, _, hD7, ?_, same_put sm7 nD2, ?_⟩
        · rw [List.length_map, List.length_map, List.length_take]
          omega
        · rw [upd_same, takeSucc hd, List.map_append, List.map_append]
          rfl
      · obtain ⟨sm7, hD7⟩ := hM
        rw [List.length_map, List.take_of_length_le (Nat.le_refl _)] at hD7
        dsimp only [tNil]
        refine sort_ints (.inl (SqL.of hD7)) fun p2 np2 => ?_
        have s2 := sm7.trans (same_new (o := .lst ((sortI (t.map (tAt tn))).map V.int)) np2)
        refine ⟨p2, _, rfl, .inl ⟨SqL.of upd_same, fun t2 nt2 => ?_⟩⟩
        have s3 := s2.trans (same_new (o := .tup ((sortI (t.map (tAt tn))).map V.int)) nt2)
        have hD3 := s3 _ _ hD
        refine ⟨D, acc, _, rfl, rfl, hD3, ?_, ⟨_, _, rfl, same_put (sm.trans s3) nD, acc ++ [.ref t2], upd_same, ?_⟩⟩
        · have := paired_len hac
          rw [List.length_map, List.length_take] at this
          omega
        · have keepT : ∀ {v : V} {u : Tbl}, TabV _ v u → TabV (upd _ D (.lst (acc ++ [.ref t2]))) v u := fun {v u} h => by
            obtain ⟨a, rfl, ha⟩ := h
            exact ⟨a, rfl, by rw [upd_ne (ne_of ha hD3 (by intro e; cases e))]; exact ha⟩
          rw [takeSucc ht, List.map_append]
          exact paired_snoc (paired_mono (fun v u h => keepT (h.mono (same_toT s3))) hac) (keepT ⟨t2, rfl, upd_same⟩)
    · obtain ⟨y3, y4, rfl, sm, acc, hD, hac⟩ := hI
      rw [paired_len hxs, List.take_of_length_le (Nat.le_refl _)] at hac
      refine ⟨.ref D, rfl, ?_⟩
      dsimp only [tNil]
      refine sort_tabs (.inl (SqL.of hD)) hac (fun t ht => ?_) fun ys p2 np2 hys => ?_
      · obtain ⟨u, hu, rfl⟩ := List.mem_map.mp ht
        intro e
        have e2 := congrArg List.length e
        rw [movedT_len] at e2
        exact (hrt u hu).1 (List.eq_nil_of_length_eq_zero e2)
      · have s1 : Same H5 (upd H5 p2 (.lst ys)) := same_new np2
        refine ⟨p2, _, rfl, .inl ⟨SqL.of upd_same, fun t nt => ?_⟩⟩
        have s2 := s1.trans (same_new (o := .tup ys) nt)
        exact q _ _ (sm.trans s2) ⟨t, ys, rfl, upd_same, paired_mono (fun _ _ h => h.mono (same_toT s2)) hys⟩
end Nf

set_option Elab.async false
set_option linter.all false
set_option maxRecDepth 100000
set_option maxHeartbeats 4000000
namespace Nf
open PySem PySem.Spec PyProof.Rows L2
variable {P : Program} {w : World} {K : PySem.W.Frag} {mg : Str → Option Value} {base : Heap}
/-! ### the law's turning -/
theorem cutTo (xs : List V) (j : Nat) : cutV xs none (some ((j : Nat) : Int)) = xs.take j := by
  unfold cutV
  rw [HT.sIx_nat xs.length xs.length j]
  show List.take (min j xs.length - 0) (List.drop 0 xs) = _
  rw [List.drop_zero, Nat.sub_zero]
  exact (List.take_eq_take_min ..).symm
theorem sx_freeR {H H' : Hp} {r a b : Addr} {ns : List Int} (R : RowAt K H' r a ns) (sx : Sx r H H') (nb : H' b = none) : H b = none := by
  by_cases e : b = r
  · obtain ⟨xr, hx⟩ := R.lst
    rw [e, hx] at nb
    cases nb
  · cases h : H b with
    | none => rfl
    | some o =>
      rw [sx _ _ e h] at nb
      cases nb
theorem scTurning : FnScope ["_law_row", "_law_guests", "_law_way", "_law_every", "_law_step", "_law_some"] ["_law_row", "_law_guests"] (defScope lTurning) := ⟨rfl, rfl, rfl, by decide +kernel, rfl, by decide +kernel, by decide +kernel⟩
def spTurning (K : PySem.W.Frag) : Sp := fun vs H Q _ => ∃ (r a : Addr) (ns : List Int) (g : Nat), vs = [.ref r, .int (g : Nat)] ∧ RowAt K H r a ns ∧ 1 ≤ g ∧ g ≤ 64 ∧
  ∀ (q : Addr) (H' : Hp) (tn : List Int), RowAt K H' r a ns → Sx r H H' → H q = none → H' q = some (.lst (tn.map V.int)) → tn.Perm (rangeI g) → Q (.ref q) H'
theorem ok_turning {f fT fM : Addr} {fd fdT fdM : FuncData} (F : Fun K "_law_turning" "_law_turning" lTurning f fd) (B : Blt mg) (FT : Fun K "_law_taken" "_law_taken" lTaken fT fdT) (bT : Binds K fdT ["_law_row", "_law_many_here"] []) (gT : mg "_law_taken" = some (.ref fT))
    (FM : Fun K "_law_mixed" "_law_mixed" lMixed fM fdM) (bM : Binds K fdM ["_law_row", "_law_some"] []) (gM : mg "_law_mixed" = some (.ref fM)) : FnOk P w K mg base CX0 3 f fd ["_law_row", "_law_guests"] (spTurning K) := by
  have GT : FnOk P w K mg base CX0 1 fT fdT ["_law_row", "_law_many_here"] (spTaken K) := ok_taken FT B
  have GM : FnOk P w K mg base CX0 2 fM fdM ["_law_row", "_law_some"] (spMixed K) := ok_mixed FM B FT bT gT
  refine F.ok scTurning (fun vs H Q E h => ?_) (fun cdv A outer s H vs Q E hr h => ?_)
  · obtain ⟨r, a, ns, g, rfl, _⟩ := h
    rfl
  · obtain ⟨r, a, ns, g, rfl, hR, hg1, hg2, q⟩ := h
    have hr1 : Room 1 _ := hr.mono (by decide)
    refine ⟨_, pss_cons (ps_set (i := 2) scTurning.nd rfl (.inl rfl) (pe_call GT hr1 (by rfl) gT FT.kp bT .nil pass0 (pa_cons (pv 0) (pa_cons pe_int pa_nil))))
      (pss_cons (ps_set (i := 3) scTurning.nd rfl (.inl rfl) (pe_listRg rfl (by rfl) B.list (prg_1 (by rfl) B.range (pv 1))))
      (pss_cons (ps_if (pt_cmpR op_eq (pv 2) pe_int (nomark _)) (pss_one (ps_ret (pe_call GM hr (by rfl) gM FM.kp bM .nil pass0 (pa_cons (pv 0) (pa_cons (pv 3) pa_nil))))) pss_nil)
      (pss_cons (ps_if (pt_cmpR op_eq (pv 2) pe_int (nomark _))
        (pss_cons (ps_set (i := 4) scTurning.nd rfl (.inl rfl) (pe_call GT hr1 (by rfl) gT FT.kp bT .nil pass0 (pa_cons (pv 0) (pa_cons (pv 1) pa_nil))))
          (pss_one (ps_ret (pe_op op_cat (pe_slice sl_list (pv 3) (po_some (pv 4)) po_none) (pe_slice sl_list (pv 3) po_none (po_some (pv 4))))))) pss_nil)
      (pss_cons (ps_set (i := 5) scTurning.nd rfl (.inl rfl) (pe_slice sl_list (pv 3) (po_some (pe_call GT hr1 (by rfl) gT FT.kp bT .nil pass0 (pa_cons (pv 0) (pa_cons (pv 1) pa_nil)))) po_none))
      (pss_one (ps_ret (pe_op op_cat (pe_slice sl_list (pv 3) po_none (po_some (pe_op op_sub (pv 1) (pe_callB call_len_seq (by rfl) B.len PySem.boot_len (pa_cons (pv 5) pa_nil)))))
        (pe_ix ix_list (pe_lst (pa_cons (pe_call GM hr (by rfl) gM FM.kp bM .nil pass0 (pa_cons (pv 0) (pa_cons (pv 5) pa_nil))) (pa_cons (pv 5) pa_nil))) (pe_op op_sub (pv 2) pe_int) (fun _ _ => rfl))))))))), ?_⟩
    have big : (100000 : Nat) < sizeLine := by decide
    obtain ⟨xr0, hxr0⟩ := hR.lst
    refine ⟨.ref r, rfl, r, a, ns, 4, rfl, hR, by decide, by decide, fun v H1 v0 v1 R1 s1 => ?_⟩
    refine ⟨.int (g : Nat), rfl, g, rfl, ?_, fun ev nev => ?_⟩
    · exact RgOk.of_le (by decide) (by omega) (by decide) (by omega)
    have er : rgV 0 (g : Int) = (rangeI g).map V.int := rgV_range _
    rw [er]
    obtain ⟨xr1, hxr1⟩ := R1.lst
    have nevr : ev ≠ r := fun e => by
      rw [e, hxr1] at nev
      cases nev
    have s2 : Same H1 (upd H1 ev (.lst ((rangeI g).map V.int))) := same_new nev
    have hev : (upd H1 ev (.lst ((rangeI g).map V.int))) ev = some (.lst ((rangeI g).map V.int)) := upd_same
    have R2 := R1.keep s2
    have sx2 := s1.trans (same_sx s2)
    generalize (upd H1 ev (.lst ((rangeI g).map V.int))) = H2 at s2 hev R2 sx2 ⊢
    have hlen : ((rangeI g).map V.int).length = g := by rw [List.length_map, rangeI_len]
    refine ⟨.int v, rfl, rfl, _, rfl, ite2 (fun h1 => ?_) (fun h1 => ?_)⟩
    · refine ⟨.ref r, rfl, .ref ev, rfl, r, a, ev, ns, rangeI g, rfl, R2, SqL.of hev, by rw [rangeI_len]; omega, fun p H' tn R' sx' np hp hperm => ?_⟩
      exact q p H' tn R' (sx2.trans sx') (sx_freeR R2 sx2 np) hp hperm
    · refine ⟨.int v, rfl, rfl, _, rfl, ite2 (fun h2 => ?_) (fun h2 => ?_)⟩
      · refine ⟨.ref r, rfl, .int (g : Nat), rfl, r, a, ns, g, rfl, R2, by omega, by omega, fun u H3 u0 u1 R3 s3 => ?_⟩
        have hev3 := s3 _ _ nevr hev
        have sx3 := sx2.trans s3
        have eu : u = ((u.toNat : Nat) : Int) := by omega
        rw [eu]
        refine ⟨.ref ev, rfl, .int _, rfl, _, rfl, ev, _, rfl, SqL.of hev3, fun p1 np1 => ?_⟩
        rw [cutFrom]
        have s4 : Same H3 (upd H3 p1 (.lst (((rangeI g).map V.int).drop u.toNat))) := same_new np1
        refine ⟨.ref ev, rfl, .int _, rfl, _, rfl, ev, _, rfl, SqL.of (s4 _ _ hev3), fun p2 np2 => ?_⟩
        rw [cutTo]
        have s5 := s4.trans (same_new (o := .lst (((rangeI g).map V.int).take u.toNat)) np2)
        refine ⟨p1, p2, _, _, rfl, rfl, (by rw [upd_ne (ne_of_none upd_same np2)]; exact upd_same), upd_same, ?_, fun p3 np3 => ?_⟩
        · rw [List.length_drop, List.length_take, hlen]
          omega
        · have s6 := s5.trans (same_new (o := .lst (((rangeI g).map V.int).drop u.toNat ++ ((rangeI g).map V.int).take u.toNat)) np3)
          refine q p3 _ ((rangeI g).drop u.toNat ++ (rangeI g).take u.toNat) (R3.keep s6) (sx3.trans (same_sx s6)) (sx_freeR R3 sx3 (s5.free np3)) ?_ ?_
          · rw [upd_same, List.map_append, List.map_drop, List.map_take]
          · refine List.perm_append_comm.trans ?_
            rw [List.take_append_drop]
      · refine ⟨.ref ev, rfl, .ref r, rfl, .int (g : Nat), rfl, r, a, ns, g, rfl, R2, by omega, by omega, fun u H3 u0 u1 R3 s3 => ?_⟩
        have hev3 := s3 _ _ nevr hev
        have sx3 := sx2.trans s3
        have eu : u = ((u.toNat : Nat) : Int) := by omega
        rw [eu]
        refine ⟨_, rfl, ev, _, rfl, SqL.of hev3, fun p1 np1 => ?_⟩
        rw [cutFrom]
        have s4 : Same H3 (upd H3 p1 (.lst (((rangeI g).map V.int).drop u.toNat))) := same_new np1
        have hp1 : (upd H3 p1 (.lst (((rangeI g).map V.int).drop u.toNat))) p1 = some (.lst (((rangeI g).map V.int).drop u.toNat)) := upd_same
        have hev4 := s4 _ _ hev3
        have R4 := R3.keep s4
        have sx4 := sx3.trans (same_sx s4)
        generalize (upd H3 p1 (.lst (((rangeI g).map V.int).drop u.toNat))) = H4 at s4 hp1 hev4 R4 sx4 ⊢
        have hl1 : (((rangeI g).map V.int).drop u.toNat).length = g - u.toNat := by rw [List.length_drop, hlen]
        have np1r : p1 ≠ r := fun e => by
          obtain ⟨xr3, hxr3⟩ := R3.lst
          rw [e, hxr3] at np1
          cases np1
        have n1 : v ≠ 0 := fun e => h1 (decide_eq_true (by rw [e]))
        have n2 : v ≠ 1 := fun e => h2 (decide_eq_true (by rw [e]))
        refine ⟨.ref ev, rfl, .int (g : Nat), rfl, .ref p1, rfl, p1, _, rfl, .inl (SqL.of hp1), _, _, rfl, rfl, _, rfl, ev, _, rfl, SqL.of hev4, fun p2 np2 => ?_⟩
        have el : ((g : Nat) : Int) - (((((rangeI g).map V.int).drop u.toNat).length : Nat) : Int) = ((u.toNat : Nat) : Int) := by
          rw [hl1]
          omega
        rw [el, cutTo]
        have s5 : Same H4 (upd H4 p2 (.lst (((rangeI g).map V.int).take u.toNat))) := same_new np2
        have hp2 : (upd H4 p2 (.lst (((rangeI g).map V.int).take u.toNat))) p2 = some (.lst (((rangeI g).map V.int).take u.toNat)) := upd_same
        have hp15 := s5 _ _ hp1
        have R5 := R4.keep s5
        have sx5 := sx4.trans (same_sx s5)
        have np2r : p2 ≠ r := fun e => by
          obtain ⟨xr4, hxr4⟩ := R4.lst
          rw [e, hxr4] at np2
          cases np2
        generalize (upd H4 p2 (.lst (((rangeI g).map V.int).take u.toNat))) = H5 at s5 hp2 hp15 R5 sx5 ⊢
        refine ⟨.ref r, rfl, .ref p1, rfl, r, a, p1, ns, (rangeI g).drop u.toNat, rfl, R5, SqL.of (by rw [List.map_drop]; exact hp15), by rw [List.length_drop, rangeI_len]; omega, fun p3 H6 l3 R6 s6 np3 hp3 hperm => ?_⟩
        have hp16 := s6 _ _ np1r hp15
        have hp26 := s6 _ _ np2r hp2
        have sx6 := sx5.trans s6
        refine ⟨.ref p1, rfl, two_le, fun p4 np4 => ?_⟩
        have s7 : Same H6 (upd H6 p4 (.lst [.ref p3, .ref p1])) := same_new np4
        have hp4 : (upd H6 p4 (.lst [.ref p3, .ref p1])) p4 = some (.lst [.ref p3, .ref p1]) := upd_same
        have hp17 := s7 _ _ hp16
        have hp27 := s7 _ _ hp26
        have hp37 := s7 _ _ hp3
        have R7 := R6.keep s7
        have sx7 := sx6.trans (same_sx s7)
        generalize (upd H6 p4 (.lst [.ref p3, .ref p1])) = H7 at s7 hp4 hp17 hp27 hp37 R7 sx7 ⊢
        have l3l : l3.length = g - u.toNat := by rw [hperm.length_eq, List.length_drop, rangeI_len]
        have fin : ∀ (m : List Int) (y : Addr), H7 y = some (.lst (m.map V.int)) → m.Perm ((rangeI g).drop u.toNat) → rCat (.ref p2) (.ref y) H7 Q := fun m y hy hm => by
          refine ⟨p2, y, _, _, rfl, rfl, hp27, hy, ?_, fun p5 np5 => ?_⟩
          · rw [List.length_take, hlen, List.length_map, hm.length_eq, List.length_drop, rangeI_len]
            omega
          · have s8 : Same H7 (upd H7 p5 (.lst (((rangeI g).map V.int).take u.toNat ++ m.map V.int))) := same_new np5
            refine q p5 _ ((rangeI g).take u.toNat ++ m) (R7.keep s8) (sx7.trans (same_sx s8)) (sx_freeR R7 sx7 np5) ?_ ?_
            · rw [upd_same, List.map_append, List.map_take]
            · refine (List.Perm.append_left _ hm).trans ?_
              rw [List.take_append_drop]
        obtain rfl | rfl : v = 2 ∨ v = 3 := by omega
        · exact ⟨.int 2, rfl, _, _, rfl, rfl, p4, _, 0, .ref p3, rfl, rfl, SqL.of hp4, rfl, fin _ _ hp37 hperm⟩
        · exact ⟨.int 3, rfl, _, _, rfl, rfl, p4, _, 1, .ref p1, rfl, rfl, SqL.of hp4, rfl, fin _ _ (by rw [List.map_drop]; exact hp17) (List.Perm.refl _)⟩
end Nf

set_option Elab.async false
set_option linter.all false
set_option maxRecDepth 100000
set_option maxHeartbeats 4000000
namespace Nf
open PySem PySem.Spec PyProof.Rows L2
variable {P : Program} {w : World} {K : PySem.W.Frag} {mg : Str → Option Value} {base : Heap}
/-! ### what is no turning -/
theorem scOdd : FnScope ["_law_row", "_law_turning_here", "_law_k", "_law_way"] ["_law_row", "_law_turning_here"] (defScope lOdd) := ⟨rfl, rfl, rfl, by decide +kernel, rfl, by decide +kernel, by decide +kernel⟩
def spOdd (K : PySem.W.Frag) : Sp := fun vs H Q _ => ∃ (r a b : Addr) (ns : List Int) (tn : List Int) (g : Nat), vs = [.ref r, .ref b] ∧ RowAt K H r a ns ∧ b ≠ r ∧ H b = some (.lst (tn.map V.int)) ∧ 1 ≤ g ∧ g ≤ 64 ∧ tn.Perm (rangeI g) ∧
  ∀ (q : Addr) (H' : Hp) (od : List Int), RowAt K H' r a ns → Sx r H H' → H q = none → H' q = some (.lst (od.map V.int)) → od.length ≤ 65 → ¬ od.Perm (rangeI g) → Q (.ref q) H'
theorem ok_odd {f fT : Addr} {fd fdT : FuncData} (F : Fun K "_law_odd" "_law_odd" lOdd f fd) (B : Blt mg) (FT : Fun K "_law_taken" "_law_taken" lTaken fT fdT) (bT : Binds K fdT ["_law_row", "_law_many_here"] []) (gT : mg "_law_taken" = some (.ref fT)) : FnOk P w K mg base CX0 2 f fd ["_law_row", "_law_turning_here"] (spOdd K) := by
  have GT : FnOk P w K mg base CX0 1 fT fdT ["_law_row", "_law_many_here"] (spTaken K) := ok_taken FT B
  refine F.ok scOdd (fun vs H Q E h => ?_) (fun cdv A outer s H vs Q E hr h => ?_)
  · obtain ⟨r, a, b, ns, tn, g, rfl, _⟩ := h
    rfl
  · obtain ⟨r, a, b, ns, tn, g, rfl, hR, nbr, hb, hg1, hg2, hperm, q⟩ := h
    have hr1 : Room 1 _ := hr.mono (by decide)
    refine ⟨_, pss_cons (ps_set (i := 2) scOdd.nd rfl (.inl rfl) (pe_call GT hr1 (by rfl) gT FT.kp bT .nil pass0 (pa_cons (pv 0) (pa_cons (pe_callB call_len_seq (by rfl) B.len PySem.boot_len (pa_cons (pv 1) pa_nil)) pa_nil))))
      (pss_cons (ps_set (i := 3) scOdd.nd rfl (.inl rfl) (pe_call GT hr1 (by rfl) gT FT.kp bT .nil pass0 (pa_cons (pv 0) (pa_cons pe_int pa_nil))))
      (pss_cons (ps_if (pt_cmpR op_eq (pv 3) pe_int (nomark _)) (pss_one (ps_ret (pe_op op_cat (pe_slice sl_list (pv 1) po_none (po_some (pv 2))) (pe_slice sl_list (pv 1) (po_some (pe_op op_add (pv 2) pe_int)) po_none)))) pss_nil)
      (pss_cons (ps_if (pt_cmpR op_eq (pv 3) pe_int (nomark _)) (pss_one (ps_ret (pe_op op_cat (pv 1) (pe_lst (pa_cons (pe_ix ix_list (pv 1) (pv 2) (fun _ _ => rfl)) pa_nil))))) pss_nil)
      (pss_one (ps_ret (pe_op op_cat (pe_op op_cat (pe_slice sl_list (pv 1) po_none (po_some (pv 2)))
        (pe_lst (pa_cons (pe_ix ix_list (pe_lst (pa_cons (pe_op op_sub pe_int pe_int) (pa_cons (pe_callB call_len_seq (by rfl) B.len PySem.boot_len (pa_cons (pv 1) pa_nil)) pa_nil))) (pe_op op_sub (pv 3) pe_int) (fun _ _ => rfl)) pa_nil)))
        (pe_slice sl_list (pv 1) (po_some (pe_op op_add (pv 2) pe_int)) po_none))))))), ?_⟩
    have big : (100000 : Nat) < sizeLine := by decide
    have hln : tn.length = g := by rw [hperm.length_eq, rangeI_len]
    have hlen : (tn.map V.int).length = g := by rw [List.length_map, hln]
    refine ⟨.ref r, rfl, .ref b, rfl, b, _, rfl, .inl (SqL.of hb), r, a, ns, _, rfl, hR, by rw [hlen]; omega, by rw [hlen]; omega, fun k H1 k0 k1 R1 s1 => ?_⟩
    rw [hlen] at k1
    have ek : k = ((k.toNat : Nat) : Int) := by omega
    have kl : k.toNat < g := by omega
    generalize k.toNat = kn at ek kl
    subst ek
    refine ⟨.ref r, rfl, r, a, ns, 4, rfl, R1, by decide, by decide, fun v H2 v0 v1 R2 s2 => ?_⟩
    have sx2 := s1.trans s2
    have hb2 := sx2 _ _ nbr hb
    have e1 : ((kn : Nat) : Int) + 1 = ((kn + 1 : Nat) : Int) := by omega
    refine ⟨.int v, rfl, rfl, _, rfl, ite2 (fun h1 => ?_) (fun h1 => ?_)⟩
    · refine ⟨.ref b, rfl, .int _, rfl, _, rfl, b, _, rfl, SqL.of hb2, fun p1 np1 => ?_⟩
      rw [cutTo]
      have s4 : Same H2 (upd H2 p1 (.lst ((tn.map V.int).take kn))) := same_new np1
      have hp1 : (upd H2 p1 (.lst ((tn.map V.int).take kn))) p1 = some (.lst ((tn.map V.int).take kn)) := upd_same
      generalize (upd H2 p1 (.lst ((tn.map V.int).take kn))) = H3 at s4 hp1 ⊢
      refine ⟨.ref b, rfl, .int _, rfl, _, _, rfl, rfl, _, rfl, b, _, rfl, SqL.of (s4 _ _ hb2), fun p2 np2 => ?_⟩
      rw [e1, cutFrom]
      have s5 := s4.trans (same_new (o := .lst ((tn.map V.int).drop (kn + 1))) np2)
      refine ⟨p1, p2, _, _, rfl, rfl, (by rw [upd_ne (ne_of_none hp1 np2)]; exact hp1), upd_same, ?_, fun p3 np3 => ?_⟩
      · rw [List.length_drop, List.length_take, hlen]
        omega
      · have s6 := s5.trans (same_new (o := .lst ((tn.map V.int).take kn ++ (tn.map V.int).drop (kn + 1))) np3)
        refine q p3 _ (tn.take kn ++ tn.drop (kn + 1)) (R2.keep s6) (sx2.trans (same_sx s6)) (sx_freeR R2 sx2 (s5.free np3)) ?_ ?_ ?_
        · rw [upd_same, List.map_append, List.map_drop, List.map_take]
        · rw [List.length_append, List.length_drop, List.length_take, hln]
          omega
        · intro z
          have := z.length_eq
          rw [List.length_append, List.length_drop, List.length_take, hln, rangeI_len] at this
          omega
    · refine ⟨.int v, rfl, rfl, _, rfl, ite2 (fun h2 => ?_) (fun h2 => ?_)⟩
      · obtain ⟨kd, hkd⟩ : ∃ d, tn[kn]? = some d := ⟨_, List.getElem?_eq_getElem (by omega)⟩
        refine ⟨.ref b, rfl, .ref b, rfl, .int _, rfl, b, _, _, .int kd, rfl, rfl, SqL.of hb2, atI_nat (int_getElem? hkd), (by show 1 ≤ sizeLine; decide), fun p1 np1 => ?_⟩
        have s4 : Same H2 (upd H2 p1 (.lst [.int kd])) := same_new np1
        refine ⟨b, p1, _, _, rfl, rfl, s4 _ _ hb2, upd_same, ?_, fun p3 np3 => ?_⟩
        · rw [hlen]
          show g + 1 ≤ _
          omega
        · have s6 := s4.trans (same_new (o := .lst (tn.map V.int ++ [.int kd])) np3)
          refine q p3 _ (tn ++ [kd]) (R2.keep s6) (sx2.trans (same_sx s6)) (sx_freeR R2 sx2 (s4.free np3)) ?_ ?_ ?_
          · rw [upd_same, List.map_append]
            rfl
          · rw [List.length_append, hln]
            show g + 1 ≤ _
            omega
          · intro z
            have := z.length_eq
            rw [List.length_append, hln, rangeI_len] at this
            have : g + 1 = g := this
            omega
      · have n1 : v ≠ 0 := fun e => h1 (decide_eq_true (by rw [e]))
        have n2 : v ≠ 1 := fun e => h2 (decide_eq_true (by rw [e]))
        obtain ⟨d, hd, hat⟩ : ∃ d : Int, ¬ (0 ≤ d ∧ d < g) ∧ atI [V.int (0 - 1), V.int (((tn.map V.int).length : Nat) : Int)] (v - 2) = some (V.int d) := by
          obtain rfl | rfl : v = 2 ∨ v = 3 := by omega
          · exact ⟨0 - 1, by omega, rfl⟩
          · exact ⟨(((tn.map V.int).length : Nat) : Int), by rw [hlen]; omega, rfl⟩
        refine ⟨.ref b, rfl, .int _, rfl, _, rfl, b, _, rfl, SqL.of hb2, fun p1 np1 => ?_⟩
        rw [cutTo]
        have s3 : Same H2 (upd H2 p1 (.lst ((tn.map V.int).take kn))) := same_new np1
        have hp1 : (upd H2 p1 (.lst ((tn.map V.int).take kn))) p1 = some (.lst ((tn.map V.int).take kn)) := upd_same
        generalize (upd H2 p1 (.lst ((tn.map V.int).take kn))) = H3 at s3 hp1 ⊢
        have hb3 := s3 _ _ hb2
        refine ⟨0, 1, rfl, rfl, .ref b, rfl, b, _, rfl, .inl (SqL.of hb3), two_le, fun p2 np2 => ?_⟩
        have s4 : Same H3 (upd H3 p2 (.lst [.int (0 - 1), .int (((tn.map V.int).length : Nat) : Int)])) := same_new np2
        refine ⟨.int v, rfl, _, _, rfl, rfl, p2, _, v - 2, .int d, rfl, rfl, SqL.of upd_same, hat, (by show 1 ≤ sizeLine; decide), fun p3 np3 => ?_⟩
        have s5 := s4.trans (same_new (o := .lst [.int d]) np3)
        refine ⟨p1, p3, _, _, rfl, rfl, s5 _ _ hp1, upd_same, ?_, fun p4 np4 => ?_⟩
        · rw [List.length_take, hlen]
          show min kn g + 1 ≤ _
          omega
        have s6 := s5.trans (same_new (o := .lst ((tn.map V.int).take kn ++ [.int d])) np4)
        have s7 := s3.trans s6
        have hp4 : (upd (upd (upd H3 p2 (.lst [.int (0 - 1), .int (((tn.map V.int).length : Nat) : Int)])) p3 (.lst [.int d])) p4 (.lst ((tn.map V.int).take kn ++ [.int d]))) p4 = some (.lst ((tn.map V.int).take kn ++ [.int d])) := upd_same
        generalize (upd (upd (upd H3 p2 (.lst [.int (0 - 1), .int (((tn.map V.int).length : Nat) : Int)])) p3 (.lst [.int d])) p4 (.lst ((tn.map V.int).take kn ++ [.int d]))) = H4 at s6 s7 hp4 ⊢
        refine ⟨.ref b, rfl, .int _, rfl, _, _, rfl, rfl, _, rfl, b, _, rfl, SqL.of (s6 _ _ hb3), fun p5 np5 => ?_⟩
        rw [e1, cutFrom]
        have s8 : Same H4 (upd H4 p5 (.lst ((tn.map V.int).drop (kn + 1)))) := same_new np5
        refine ⟨p4, p5, _, _, rfl, rfl, s8 _ _ hp4, upd_same, ?_, fun p6 np6 => ?_⟩
        · rw [List.length_append, List.length_take, List.length_drop, hlen]
          show min kn g + 1 + _ ≤ _
          omega
        · have s9 := s7.trans (s8.trans (same_new (o := .lst (((tn.map V.int).take kn ++ [.int d]) ++ (tn.map V.int).drop (kn + 1))) np6))
          refine q p6 _ ((tn.take kn ++ [d]) ++ tn.drop (kn + 1)) (R2.keep s9) (sx2.trans (same_sx s9)) (sx_freeR R2 sx2 (s7.free (s8.free np6))) ?_ ?_ ?_
          · rw [upd_same, List.map_append, List.map_append, List.map_drop, List.map_take]
            rfl
          · rw [List.length_append, List.length_append, List.length_drop, List.length_take, hln]
            show min kn g + 1 + _ ≤ _
            omega
          · intro z
            have hm : d ∈ rangeI g := z.mem_iff.mp (List.mem_append.mpr (.inl (List.mem_append.mpr (.inr (List.mem_singleton.mpr rfl)))))
            exact hd (mem_rangeI.mp hm)
end Nf

set_option Elab.async false
set_option linter.all false
set_option maxRecDepth 100000
set_option maxHeartbeats 4000000
namespace Nf
open PySem PySem.Spec PyProof.Rows L2
variable {P : Program} {w : World} {K : PySem.W.Frag} {mg : Str → Option Value} {base : Heap}
/-! ### check_turn of what is good; turned -/
theorem scCheckTurn : FnScope ["party", "tables", "turning"] ["party", "tables", "turning"] (defScope sCheckTurn) := ⟨rfl, rfl, rfl, by decide +kernel, rfl, by decide +kernel, by decide +kernel⟩
def spTurnOk (K : PySem.W.Frag) (C : Addr) : Sp := fun vs H Q _ => ∃ (p l : Addr) (x : V) (g : Nat) (s : Int) (r : Rnd) (tn : List Int), vs = [.ref p, x, .ref l] ∧ PartyV C H p g s ∧ IsParty g s ∧ RndV H x r ∧ Small [r] ∧ IsRound g s r ∧ SqL K H l (tn.map V.int) ∧ tn.Perm (rangeI g) ∧ ∀ H', Same H H' → Q .non H'
theorem perm_sortI {tn : List Int} {g : Nat} : tn.Perm (rangeI g) ↔ sortI tn = rangeI g := by
  constructor
  · intro h
    exact ((sortI_perm tn).trans h).eq_of_pairwise (fun a b _ _ h1 h2 => Int.le_antisymm h1 h2) (sortI_up tn) ((rangeI_up g).imp Int.le_of_lt)
  · intro h
    rw [← h]
    exact (sortI_perm tn).symm
theorem ok_checkTurn {f fC fG C : Addr} {fd fdC fdG : FuncData} (F : Fun K "check_turn" "check_turn" sCheckTurn f fd) (B : Blt mg) (T : Txt K mg C) (GC : FnOk P w K mg base CX0 4 fC fdC ["party", "plan"] (spCheckOk K C)) (FC : Fun K "check_plan" "check_plan" sCheck fC fdC) (bC : Binds K fdC ["party", "plan"] []) (gC : mg "check_plan" = some (.ref fC))
    (FG : Fun K "guests" "Party.guests" sGuests fG fdG) (bG : Binds K fdG ["self"] []) (mG : Meth K C "guests" fG) :
    FnOk P w K mg base CX0 5 f fd ["party", "tables", "turning"] (spTurnOk K C) := by
  have GG : FnOk P w K mg base CX0 1 fG fdG ["self"] (spGuests C) := ok_guests FG T
  have ng : ∀ g s, (pf g s).lookup ("guests" : Str) = none := fun g s => pf_no _ _ (by decide +kernel) (by decide +kernel)
  refine F.ok scCheckTurn (fun vs H Q E h => ?_) (fun cdv A outer s H vs Q E hr h => ?_)
  · obtain ⟨p, l, x, g, s, r, tn, rfl, _⟩ := h
    rfl
  · obtain ⟨p, l, x, g, z, r, tn, rfl, hP, hI, hx, hS, hR, hl, hperm, q⟩ := h
    have hr1 : Room 1 _ := hr.mono (by decide)
    refine ⟨_, pss_cons (ps_expr (pe_call GC hr (by rfl) gC FC.kp bC .nil pass0 (pa_cons (pv 0) (pa_cons (pe_lst (pa_cons (pv 1) pa_nil)) pa_nil))))
      (pss_one (ps_if (pt_cmpR (op_neD hr.units) (pe_callB (cr_sortD (fun i : Int => PyData.int i) hr.units) (by rfl) B.sorted (by decide +kernel) (pa_cons (pv 2) pa_nil)) (pe_listRg rfl (by rfl) B.list (prg_1 (by rfl) B.range (pe_meth0 (pv 0) T.cl mG GG hr1 bG .nil pass0))) (nomark _)) pss_never pss_nil)), ?_⟩
    refine ⟨.ref p, rfl, x, rfl, (by show 1 ≤ sizeLine; decide), fun lp nlp => ?_⟩
    have s1 : Same H (upd H lp (.lst [x])) := same_new nlp
    refine ⟨p, lp, g, z, [r], rfl, hP.same s1, hI, ⟨[x], SqL.of upd_same, .cons (hx.mono (same_toT s1)) .nil⟩, hS, fun r' h => by rw [List.mem_singleton.mp h]; exact hR, fun H2 s2 => ?_⟩
    have sm2 := s1.trans s2
    refine ⟨.ref l, rfl, ?_⟩
    dsimp only [tNil]
    refine sort_ints (.inl (sm2.seq hl)) fun p2 np2 => ?_
    have s3 : Same H2 (upd H2 p2 (.lst ((sortI tn).map V.int))) := same_new np2
    have hp2 : (upd H2 p2 (.lst ((sortI tn).map V.int))) p2 = some (.lst ((sortI tn).map V.int)) := upd_same
    generalize (upd H2 p2 (.lst ((sortI tn).map V.int))) = H3 at s3 hp2 ⊢
    have sm3 := sm2.trans s3
    obtain ⟨dx, hp⟩ := id (hP.same sm3)
    refine ⟨.ref p, rfl, p, dx, _, rfl, hp, ng _ _, p, g, z, rfl, hP.same sm3, g, rfl, ?_, fun ev nev => ?_⟩
    · exact RgOk.of_le (by decide) (by have := hI.g64; omega) (by decide) (by have := hI.g2; omega)
    have er : rgV 0 (g : Int) = (rangeI g).map V.int := rgV_range _
    rw [er]
    have s4 : Same H3 (upd H3 ev (.lst ((rangeI g).map V.int))) := same_new nev
    refine ⟨.list ((sortI tn).map .int), .list ((rangeI g).map .int), .lst (SqL.of (s4 _ _ hp2)) (dpAll_ints _), .lst (SqL.of upd_same) (dpAll_ints _), shInts _, shInts _, _, rfl, ?_⟩
    have e : PyData.eqv (.list ((sortI tn).map .int)) (.list ((rangeI g).map .int)) = true := by
      unfold PyData.eqv
      exact eqvInts.mpr (perm_sortI.mp hperm)
    rw [e]
    exact iteF (q _ (sm3.trans s4))
theorem moved_dom {g : Nat} {s : Int} {r : Rnd} {tn : List Int} (hI : IsParty g s) (hR : IsRound g s r) (hp : tn.Perm (rangeI g)) : r.length ≤ 1000 ∧ ∀ t ∈ r, t ≠ [] ∧ t.length ≤ 1000 ∧ ∀ x ∈ t, 0 ≤ x ∧ x < tn.length := by
  have hln : tn.length = g := by rw [hp.length_eq, rangeI_len]
  refine ⟨?_, fun t ht => ⟨fun e => ?_, ?_, fun x hx => ?_⟩⟩
  · have h1 := hR.ct
    have h2 : (g : Int) / s ≤ g := Int.ediv_le_self _ (by omega)
    have := hI.g64
    omega
  · have := (hR.sz t ht).1
    rw [e] at this
    simp at this
  · have := (hR.sz t ht).2
    have := hI.s8
    omega
  · rw [hln]
    exact hR.lo x (List.mem_flatten.mpr ⟨t, ht, hx⟩)
theorem scTurned : FnScope ["party", "tables", "turning"] ["party", "tables", "turning"] (defScope sTurned) := ⟨rfl, rfl, rfl, by decide +kernel, rfl, by decide +kernel, by decide +kernel⟩
def spTurnedOk (K : PySem.W.Frag) (C : Addr) : Sp := fun vs H Q _ => ∃ (p l : Addr) (x : V) (g : Nat) (s : Int) (r : Rnd) (tn : List Int), vs = [.ref p, x, .ref l] ∧ PartyV C H p g s ∧ IsParty g s ∧ RndV H x r ∧ Small [r] ∧ IsRound g s r ∧ SqL K H l (tn.map V.int) ∧ tn.Perm (rangeI g) ∧ ∀ y H', Same H H' → RndV H' y (movedM tn r) → Q y H'
theorem ok_turned {f fC fR C : Addr} {fd fdC fdR : FuncData} (F : Fun K "turned" "turned" sTurned f fd) (GC : FnOk P w K mg base CX0 5 fC fdC ["party", "tables", "turning"] (spTurnOk K C)) (FC : Fun K "check_turn" "check_turn" sCheckTurn fC fdC) (bC : Binds K fdC ["party", "tables", "turning"] []) (gC : mg "check_turn" = some (.ref fC))
    (GR : FnOk P w K mg base CX0 1 fR fdR ["tables", "turning"] (spMoved K)) (FR : Fun K "replaced" "replaced" sReplaced fR fdR) (bR : Binds K fdR ["tables", "turning"] []) (gR : mg "replaced" = some (.ref fR)) :
    FnOk P w K mg base CX0 6 f fd ["party", "tables", "turning"] (spTurnedOk K C) := by
  refine F.ok scTurned (fun vs H Q E h => ?_) (fun cdv A outer s H vs Q E hr h => ?_)
  · obtain ⟨p, l, x, g, s, r, tn, rfl, _⟩ := h
    rfl
  · obtain ⟨p, l, x, g, z, r, tn, rfl, hP, hI, hx, hS, hR, hl, hperm, q⟩ := h
    have hr1 : Room 1 _ := hr.mono (by decide)
    refine ⟨_, pss_cons (ps_expr (pe_call GC hr (by rfl) gC FC.kp bC .nil pass0 (pa_cons (pv 0) (pa_cons (pv 1) (pa_cons (pv 2) pa_nil)))))
      (pss_one (ps_ret (pe_call GR hr1 (by rfl) gR FR.kp bR .nil pass0 (pa_cons (pv 1) (pa_cons (pv 2) pa_nil))))), ?_⟩
    refine ⟨.ref p, rfl, x, rfl, .ref l, rfl, p, l, x, g, z, r, tn, rfl, hP, hI, hx, hS, hR, hl, hperm, fun H2 s2 => ?_⟩
    obtain ⟨d1, d2⟩ := moved_dom hI hR hperm
    exact ⟨x, rfl, .ref l, rfl, x, l, r, tn, rfl, hx.mono (same_toT s2), s2.seq hl, d1, d2, fun y H' s' hy => q y H' (s2.trans s') hy⟩
end Nf

set_option Elab.async false
set_option linter.all false
set_option maxRecDepth 100000
set_option maxHeartbeats 4000000
namespace PySem
namespace BrX
open PySem.W PySem.Calls PyProof.Rows PySem.HandSPX
/-- what the written part says of BadRound, at C, its __init__ at fI, the cell of its class at cc -/
structure BrTxt (prog : Program) (K : Frag) (mg : Str → Option Value) (C fI : Addr) : Prop where
  gC : mg "BadRound" = some (.ref C)
  cls : ∃ nm q N bs bm sn sub ab col dd k0 k1 k2 k3 k5, K.lookup C = some (excClassObj nm q C N bs bm true sn sub ab col dd k0 k1 k2 k3 k5 "ValueError.__new__") ∧ refsVE bm = true
  sa : findIn K (.ref C) "__setattr__" = some (some (.builtin "object.__setattr__"))
  ga : findIn K (.ref C) "__getattribute__" = some (some (.builtin "BaseException.__getattribute__"))
  gg : findIn K (.ref C) "__getattr__" = some none
  noN : findIn K (.ref C) "number" = some none
  iC : findIn K (.ref C) "__init__" = some (some (.ref fI))
  tC : typeIn K (.ref fI) = some (.type "function")
  kC : keepIn K (.ref C) = true
  exC : subIn K (.ref C) (.type "BaseException") = some true
  veC : subIn K (.ref C) (.type "ValueError") = some true
  tyC : typeIn K (.ref C) = some (.type "type")
  hdC : hasDictIn K C = true
  te : exmOne K (.ref C) (.ref C) = some true
  mro : mroIn K C (.ref C) = some true
  up : ks_superIn K C C "__init__" = some (some (.builtin "ValueError.__init__"))
  opq : nsIn K cStatics "thirdparty.any" = some none
  gS : mg "super" = none
  top : (prog.main.scope.names.lookup ("super" : Str)).isSome = false
  fn : ∃ (oc : Value) (od : Option Addr) (doc pm : Value) (an : Option Addr) (cda : Addr) (ct : Value) (osl : Array (Option Value)) (cc : Addr) (cl : Value) (cld : Option Addr) (csl : Array (Option Value)) (ccl : Value) (cdd : Option Addr) (vs : Array Value) (ccs : Array (Option Value)) (file : Str) (tf : Tok),
    K.lookup fI = some ⟨oc, od, .func (ksFn "__init__" "BadRound.__init__" (L2.defArgs Nf.sBRInit) (L2.defBody Nf.sBRInit) (L2.defScope Nf.sBRInit) .none .none doc pm an (.ref cda) ct cc), osl⟩ ∧ codeIn K (.ref cda) "BadRound.__init__" = true ∧
    K.lookup cc = some ⟨cl, cld, .cell (some (.ref C)), csl⟩ ∧ K.lookup cda = some ⟨ccl, cdd, .fields vs, ccs⟩ ∧ vs[2]? = some (.str file tf) ∧ ((prog.main.file : Str) == file) = true
/-- what __init__ leaves of a fresh exception at x -/
structure InitEnd (h h' : Heap) (x C dx t1 : Addr) (v : Value) : Prop where
  keep : ∀ b o, b ≠ x → h.get? b = some o → h'.get? b = some o
  obj : h'.get? x = some { cls := .ref C, dict := some dx, data := .fields #[.ref t1, .none, .none, .none, .bool false, .none] }
  dbig : h.objs.size ≤ dx
  dne : dx ≠ x
  ns : h'.Ns1 dx (fun y => if y = "number" then some v else none)
section
variable {prog : Program} {w : World} {A : Around} {E : Value → Shared → Prop} {R : Result → Shared → Prop} {s : Shared} {K : Frag} {mg : Str → Option Value} {C fI : Addr}
theorem run_mw {h : Heap} {g : Array GenState} {d : Drawn} {t : Nat} {os : OsState} {nm q : Str} {N : Addr} {bs bm : List Value} {hdct : Bool} {sn : List Str} {sub : List Value} {ab : Bool} {col : Option Bool} {dd : Option Addr} {k0 k1 k2 k3 k5 : Option Value} {u x t0 : Addr} {us : List Value} {Q : Value → Shared → Prop}
    (cO : h.get? C = some (excClassObj nm q C N bs bm hdct sn sub ab col dd k0 k1 k2 k3 k5 "ValueError.__new__")) (xO : h.get? x = some (excO C t0)) (uO : h.get? u = some (kxs_mw "ValueError.__init__" x)) (hrest : us.length ≤ sizeLine)
    (fin : ∀ h' t1, (∀ b o, b ≠ x → h.get? b = some o → h'.get? b = some o) → h'.get? x = some (excO C t1) → Q .none ⟨h', g, d, t, os⟩) : wpAny (model prog w) A (call (.ref u) us) Q E ⟨h, g, d, t, os⟩ := by
  have cond : (Value.type "method-wrapper" == Value.type "method" || Value.type "method-wrapper" == Value.type "builtin_function_or_method" || Value.type "method-wrapper" == Value.type "method-wrapper") = true := by decide
  refine wpAny_call (codeAny_of_tree (show wpAny _ A.in1 (callAny (Value.ref u) { pos := us }) _ _ _ from ?_))
  simp only [callAny]
  refine wpAny_bind (wpAny_load uO ?_)
  simp only [kxs_mw, cond, if_true]
  refine KFB.if_so (by decide) (wpAny_bind (ESX.check_bound F.excBase_ValueError cO xO rfl (wpAny_bind (wpAny_pure (wpAny_pure ?_)))))
  refine ⟨Code.quiet_builtin _ (by decide +kernel), codeAny_builtin (F.excBase_ValueError).initEntry ?_⟩
  rw [Around.under_plainId (F.excBase_ValueError).init.plain _]
  wp_walk
  refine fin _ h.objs.size (fun b o nb ob => ?_) ?_
  · exact (Heap.get?_update_other _ _ (Ne.symm nb)).trans (Heap.get?_push_of_some _ ob)
  · exact Heap.get?_update_self _ (Heap.get?_push_of_some _ xO) rfl
theorem msg_len {n : Int} (hz : n.natAbs.log2 < 1920) : (Str.empty ++ Str.ofString "thing " ++ Str.ofString (toString n) ++ Str.ofString " of the plan is no round").length ≤ sizeLine := by
  have e := int_text_length_le (k := 1920) (by decide) hz
  rw [Str.length_append, Str.length_append, Str.length_append, ofString_length, ofString_length, ofString_length, sizeLine_eq]
  have e1 : ("thing " : String).length = 6 := by decide
  have e2 : (" of the plan is no round" : String).length = 24 := by decide
  have e3 : Str.empty.length = 0 := rfl
  omega
theorem br_init (T : BrTxt prog K mg C fI) {x t0 : Addr} {n : Int} {tn : Tok} (X : K.In s.heap) (hg : s.heap.Ns mainGlobals mg) (hb : ∃ mb, s.heap.Ns builtinsNs mb ∧ mb "super" = some (.type "super")) (hlim : s.heap.NoLimit) (hx : s.heap.get? x = some (excO C t0)) (hnx : K.lookup x = none)
    (hz : n.natAbs.log2 < 1920) (hroom : A.depth < recursionLimit) (hq : ∀ h' tk dx t1, InitEnd s.heap h' x C dx t1 (.int n tn) → R (.ok (.ret .none)) { s with heap := h', toks := tk }) :
    codeAny (model prog w) A (.call (.ref fI) ⟨[.ref x, .int n tn], []⟩) R s := by
  obtain ⟨oc, od, doc, pm, an, cda, ct, osl, cc, cl, cld, csl, ccl, cdd, vs, ccs, file, tf, ho, hcd, hcell, hcode, hvs, hfile⟩ := T.fn
  obtain ⟨nm, q, N, bs, bm, sn, sub, ab, col, dd, k0, k1, k2, k3, k5, hC, hbm⟩ := T.cls
  have hcl : clsIn K C = some { name := nm, bases := bs, mro := .ref C :: bm, ns := N, qualname := q, hasDict := true, slotNames := sn, subclasses := sub, abstract := ab, collection := col, hasDel := false } := by unfold clsIn; rw [hC] <;> rfl
  obtain ⟨mb, hmb, hsup⟩ := hb
  refine ks_codeAny_call_defAt (fd := ksFn "__init__" "BadRound.__init__" (L2.defArgs Nf.sBRInit) (L2.defBody Nf.sBRInit) (L2.defScope Nf.sBRInit) .none .none doc pm an (.ref cda) ct cc) (body := L2.defBody Nf.sBRInit) (binds := [("self", .ref x), ("number", .int n tn)]) hroom (X _ _ ho) rfl hlim (codeRec_of X hcd) rfl
    (BindsTo.of_eq (by first | rfl | with_unfolding_all rfl)) (show ∀ y ∈ (L2.defScope Nf.sBRInit).names, y.2 ≠ .cell by decide +kernel) (fun y hy => ?hl) (fun h₁ hns k => ?_) rfl rfl rfl
  case hl =>
    show (L2.defScope Nf.sBRInit).names.lookup y.1 = some .local
    rcases List.mem_cons.mp hy with rfl | hy
    · rfl
    · rw [List.mem_singleton.mp hy]
      rfl
  have X₁ : K.In h₁ := X.keeps k
  have hx₁ := k _ _ hx
  have I₁ : W.InstAt h₁ x (excO C t0) C none := ⟨hx₁, rfl, rfl, trivial⟩
  refine ks_wpAt_execs_cons (ks_wpAt_Expr_any (ks_wpAt_MethodCall (ks_wpAt_super_base (of := ⟨oc, od, .func (ksFn "__init__" "BadRound.__init__" (L2.defArgs Nf.sBRInit) (L2.defBody Nf.sBRInit) (L2.defScope Nf.sBRInit) .none .none doc pm an (.ref cda) ct cc), osl⟩) (oc := ⟨ccl, cdd, .fields vs, ccs⟩) (ar := { arg := "self", annotation := none, pos := ⟨8, 17, 8, 21⟩ }) rfl rfl (by decide +kernel) rfl (X₁ _ _ ho) rfl rfl rfl (X₁ _ _ hcode) rfl hvs hfile T.top ?_)))
  refine ks_loadName_global rfl rfl (loadGlobal_builtin (hg.keeps k) T.gS (hmb.keeps k) hsup ⟨rfl, ?_⟩)
  refine wpAny_loadName_free rfl rfl rfl ⟨_, X₁ _ _ hcell, rfl⟩ ?_
  refine wpAny_loadName_local rfl rfl hns rfl ?_
  refine ks_wpAny_isType_cls (X₁ _ _ hC) rfl ⟨rfl, ?_⟩
  refine ks_wpAny_call_super (X₁ _ _ hC) rfl hx₁ rfl (fun c e => nomatch e) (looks_mroIn X₁ T.mro) (fun h₂ hso k₂ => ?_)
  have X₂ : K.In h₂ := X₁.keeps k₂
  have I₂ : W.InstAt h₂ x (excO C t0) C none := ⟨k₂ _ _ hx₁, rfl, rfl, trivial⟩
  have hm := T.up
  unfold ks_superIn at hm
  rw [hcl] at hm
  refine kxs_getMethod kxs_ValueError hso (looks_opaque X₂ T.opq) (l₀ := .ref C :: bm) (fun A Q E s kk qq => wpAny_bind ((looks_clsIn X₂ hcl) A _ E s kk (wpAny_pure qq))) rfl X₂ hm (I₂.type.andThen (looks_subIn X₂ T.veC)) (ks_ne X₂ I₂ hcl) rfl ?_
  have up₃ : ∀ b o, h₂.get? b = some o → (h₂.push (kxs_mw "ValueError.__init__" x)).get? b = some o := fun b o e => Heap.get?_push_of_some _ e
  have hu₃ : (h₂.push (kxs_mw "ValueError.__init__" x)).get? h₂.objs.size = some (kxs_mw "ValueError.__init__" x) := Heap.get?_push_at rfl rfl
  generalize h₂.objs.size = u at hu₃
  have k₃ : ∀ b o, h₁.get? b = some o → (h₂.push (kxs_mw "ValueError.__init__" x)).get? b = some o := fun b o e => up₃ b o (k₂ b o e)
  generalize (h₂.push (kxs_mw "ValueError.__init__" x)) = h₃ at up₃ hu₃ k₃
  have ns₃ := hns.keeps k₃
  have hx₃ := k₃ _ _ hx₁
  have X₃ : K.In h₃ := X₁.keeps k₃
  refine kxs_callWith (x := x) (i := "ValueError.__init__") rfl (evalArgs_plain (args_cons (wpAny_JoinedStr ?_) rfl))
  refine wpAny_Constant_str ⟨"thing ", _, rfl, by decide, ?_⟩
  refine wpAny_FormattedValue_plain (wpAny_Name (wpAny_loadName_local rfl rfl ns₃ rfl ?_) (by decide))
  refine wpAny_formatField_int hz ⟨_, _, rfl, ?_, ?_⟩
  · refine Nat.le_trans ?_ (msg_len hz)
    rw [Str.length_append (_ ++ _ ++ _)]
    exact Nat.le_add_right _ _
  refine wpAny_Constant_str ⟨" of the plan is no round", _, rfl, ?_, ?_⟩
  · exact msg_len hz
  refine ⟨?_, args_nil ⟨hu₃, ?_⟩⟩
  · exact msg_len hz
  show wpAny _ _ (call (Value.ref u) [_]) _ _ _
  refine run_mw (X₃ _ _ hC) hx₃ hu₃ (by show 1 ≤ sizeLine; decide) (fun h₄ t1 k₄ hx₄ => ?_)
  have kk₄ : ∀ b o, b ≠ x → h₁.get? b = some o → h₄.get? b = some o := fun b o nb e => k₄ b o nb (k₃ b o e)
  have hxL : s.heap.objs.size ≠ x := Nat.ne_of_gt (Heap.lt_size hx)
  obtain ⟨oL, esL, epL, hL, rL⟩ := hns
  have ns₄ : h₄.Ns s.heap.objs.size (fun y => ([(PySem.Str.ofString "self", Value.ref x), (PySem.Str.ofString "number", Value.int n tn)] : List (Str × Value)).reverse.lookup y) := ⟨oL, esL, epL, kk₄ _ _ hxL hL, rL⟩
  have X₄ : K.In h₄ := fun b o e => k₄ b o (fun z => by rw [z, hnx] at e; cases e) (X₃ b o e)
  refine ks_wpAt_execs_cons (wpAt_of_wpAny (plainObj_wpAny_Assign_Attribute ?_))
  refine wpAny_Name (wpAny_loadName_local rfl rfl ns₄ rfl ?_) (by decide)
  refine wpAny_Name (wpAny_loadName_local rfl rfl ns₄ rfl ?_) (by decide)
  refine set_plain X₄ (ox := excO C t1) (od := none) ⟨hx₄, rfl, rfl, trivial⟩ T.sa ?_
  refine exc_osa X₄ hx₄ hcl (show refsVE (.ref C :: bm) = true from hbm) rfl T.noN (fun h₅ tk₅ dx k₅ dn dne hx₅ hn₅ => ?_)
  exact wpAt_of_wpAny (wpAny_execs_nil (hq h₅ tk₅ dx t1 ⟨fun b o nb e => k₅ b o nb (kk₄ b o nb (k b o e)), hx₅, Nat.le_trans (Nat.le_of_lt ns₄.lt) dn, dne, hn₅⟩))
end
end BrX
end PySem

set_option Elab.async false
set_option linter.all false
set_option maxRecDepth 100000
set_option maxHeartbeats 4000000
namespace PySem
namespace BrX
open PySem.W PySem.Calls PyProof.Rows PySem.HandSPX
/-- a made BadRound -/
structure OwnMade (h h' : Heap) (e C d : Addr) (v : Value) : Prop where
  keep : ∀ b o, h.get? b = some o → h'.get? b = some o
  new : h.objs.size ≤ e
  obj : ∃ oe vs, h'.get? e = some oe ∧ oe.cls = .ref C ∧ oe.dict = some d ∧ oe.data = .fields vs ∧ vs[1]? = some .none
  dbig : h.objs.size ≤ d
  dne : d ≠ e
  ns : h'.Ns1 d (fun y => if y = "number" then some v else none)
section
variable {prog : Program} {w : World} {A : Around} {E : Value → Shared → Prop} {R : Result → Shared → Prop} {s : Shared} {K : Frag} {mg : Str → Option Value} {C fI : Addr}
theorem one_size (v : Value) : [v].length ≤ sizeLine := by
  rw [sizeLine_eq]
  exact (by decide : 1 ≤ 16777216)
theorem br_made (T : BrTxt prog K mg C fI) {n : Int} {tn : Tok} (X : K.In s.heap) (hg : s.heap.Ns mainGlobals mg) (hb : ∃ mb, s.heap.Ns builtinsNs mb ∧ mb "super" = some (.type "super")) (hlim : s.heap.NoLimit) (hz : n.natAbs.log2 < 1920) (hroom : A.depth + 1 < recursionLimit)
    (hq : ∀ h' tk e d, OwnMade s.heap h' e C d (.int n tn) → R (.ok (.ret (.ref e))) { s with heap := h', toks := tk }) :
    codeAny (model prog w) A (.call (.ref C) ⟨[.int n tn], []⟩) R s := by
  obtain ⟨nm, q, N, bs, bm, sn, sub, ab, col, dd, k0, k1, k2, k3, k5, hC, hbm⟩ := T.cls
  obtain ⟨mb, hmb, hsup⟩ := hb
  obtain ⟨hp, g, dr, tk, os⟩ := s
  have k : ∀ b o, hp.get? b = some o → ((hp.push (kdv_tup [.int n tn])).push (excO C hp.objs.size)).get? b = some o := fun b o e => Heap.get?_push_of_some _ (Heap.get?_push_of_some _ e)
  have hget : ((hp.push (kdv_tup [.int n tn])).push (excO C hp.objs.size)).get? (hp.objs.size + 1) = some (excO C hp.objs.size) := by heap_get
  have hnx : K.lookup (hp.objs.size + 1) = none := by
    cases e : K.lookup (hp.objs.size + 1) with
    | none => rfl
    | some o =>
      have z : hp.get? (hp.objs.size + 1) = some o := X _ _ e
      exact absurd (Nat.lt_of_succ_lt (Heap.lt_size z)) (Nat.lt_irrefl _)
  refine call_own F.excBase_ValueError (fun X => refsVE_contains X bm hbm) (X _ _ hC) (looks_findIn X T.iC) (fun self => bind_fn X self T.tC) (one_size _) ?_
  refine br_init (s := ⟨(hp.push (kdv_tup [.int n tn])).push (excO C hp.objs.size), g, dr, tk, os⟩) T (X.keeps k) (hg.keeps k) ⟨mb, hmb.keeps k, hsup⟩ (hlim.keeps k) hget hnx hz ?_ fun h' tk' dx t1 ⟨k', hx, dn, dne, hns⟩ => ?_
  · show A.depth + 1 < recursionLimit
    exact hroom
  · have old : ∀ b o, hp.get? b = some o → h'.get? b = some o := fun b o e => k' b o (Nat.ne_of_lt (Nat.lt_succ_of_lt (Heap.lt_size e))) (k b o e)
    have z : hp.objs.size + 1 + 1 ≤ dx := by
      first
        | (simpa only [Heap.size_push] using dn)
        | exact dn
        | (have q := dn; rw [Heap.size_push, Heap.size_push] at q; exact q)
    exact ⟨rfl, hq h' tk' (hp.objs.size + 1) dx ⟨old, Nat.le_succ _, ⟨_, _, hx, rfl, rfl, rfl, rfl⟩, Nat.le_trans (Nat.le_trans (Nat.le_succ _) (Nat.le_succ _)) z, dne, hns⟩⟩
end
end BrX
end PySem
namespace L2
open PySem PySem.Spec PyProof.Rows
theorem relO_br {v : V} {v' : Value} (r : RelV v v') (f : Str) : RelO (List.lookup f [(("number" : Str), v)]) (if f = "number" then some v' else none) := by
  by_cases hw : f = "number"
  · subst hw
    rw [if_pos rfl]
    have q : List.lookup ("number" : Str) [(("number" : Str), v)] = some v := by simp [List.lookup]
    rw [q]
    exact r
  · rw [if_neg hw]
    have qw : (f == ("number" : Str)) = false := by simpa using hw
    have q2 : List.lookup f [(("number" : Str), v)] = none := by simp [List.lookup, qw]
    rw [q2]
    trivial
section
variable {X : Cx} {C fI : Addr}
/-- BadRound(e) -/
def tMkBr (C : Addr) (ta : TA) : St → Hp → XK → Prop := fun σ H Q => ta σ H fun vs H1 => ∃ n : Int, vs = [.int n] ∧ n.natAbs.log2 < 1920 ∧ ∀ d, H1 d = none → Q (.ref C) (some d) (upd H1 d (.xd [(("number" : Str), .int n)]))
theorem pmk_br {a : Expr} {ta : TA} {p pos : Pos} {k : Nat} (T : PySem.BrX.BrTxt X.prog X.K X.mg C fI) (hr : Room k X.A) (ha : PA X [a] ta) (hg : Gl X "BadRound" := by rfl)
    (he : starEach (a :: []) X.env = (false, eval a X.env) :: starEach [] X.env := by rfl) (hpl : (backTo pos (starEach [] X.env)).any (·.1) = false := by rfl) :
    PMk X (.Call (.Name "BadRound" p) [a] [] pos) (tMkBr C ta) := by
  intro pins s σ H Q I h
  refine wpAny_Call_Name_kw (ld_glob I hg T.gC ?_)
  refine PySem.W.callWith_K (h₀ := X.base) I.ok.mod.kin T.kC (thn (ha.run pos pins s σ H _ I h) fun us s1 hh => ?_) he hpl
  obtain ⟨vs, H1, I1, r1, n, ev, hz, q1⟩ := hh
  subst ev
  refine ⟨I1.kIn, ?_⟩
  cases r1 with
  | cons rv rn =>
    rename_i v' us'
    cases rn
    obtain ⟨tn, rfl⟩ := rv
    show wpAny _ _ (call (.ref C) [.int n tn]) _ _ _
    have hlim := I1.nolimit
    have hglob : s1.heap.Ns mainGlobals X.mg := I1.mod.glob.keeps I1.bk
    have hblt : ∃ mb, s1.heap.Ns builtinsNs mb ∧ mb "super" = some (.type "super") := by
      obtain ⟨mb, h1, h2⟩ := I1.mod.blt
      exact ⟨mb, h1.keeps I1.bk, (h2 "super" (by decide)).trans (by first | rfl | decide +kernel)⟩
    obtain ⟨hp, g, dr, tk, os⟩ := s1
    refine wpAny_call (PySem.BrX.br_made T I1.kIn hglob hblt hlim hz (by have := hr.dp; omega) fun h' tk' e d M => ?_)
    show MkP X pins σ Q (.ref e) ⟨h', g, dr, tk', os⟩
    obtain ⟨oe, fv, hoe, hc, hd, hdat, h1⟩ := M.obj
    have hns := M.ns
    obtain ⟨G', g1, g2⟩ := restrict h' fun b => decide (b ≠ e)
    have gk : ∀ b, b ≠ e → G'.get? b = h'.get? b := fun b hb => g1 b (decide_eq_true hb)
    have ge : G'.get? e = none := g2 e (by simp)
    have old : ∀ b o, hp.get? b = some o → G'.get? b = some o := fun b o q => (gk b (Nat.ne_of_lt (Nat.lt_of_lt_of_le (Heap.lt_size q) M.new))).trans (M.keep b o q)
    have ob : ObjOk X.prog X.w (upd H1 d (.xd [(("number" : Str), .int n)])) G' d (.xd [(("number" : Str), .int n)]) :=
      ⟨_, hns.at (fun o q => (gk d M.dne).trans q), fun f => relO_br (v := .int n) (v' := .int n tn) ⟨tn, rfl⟩ f⟩
    have J : Inv X pins σ (upd H1 d (.xd [(("number" : Str), .int n)])) ⟨G', g, dr, tk', os⟩ := I1.laid (t' := tk') old M.dbig ob
    refine ⟨e, oe, fv, ⟨G', g, dr, tk', os⟩, _, .ref C, some d, rfl, J, fun b o q => ?_, ge, hoe, ⟨hc, hd⟩, hdat, h1, ?_, rfl, I1.bare, raises_own T.exC T.tyC, q1 d (I1.hok.fresh M.dbig)⟩
    · by_cases hb : b = e
      · have q' : G'.get? b = some o := q
        rw [hb, ge] at q'; cases q'
      · exact (gk b hb).symm.trans q
    · rw [upd_ne (Ne.symm M.dne)]
      exact I1.hok.fresh M.new
/-- raise BadRound(e) -/
def tRaiseBr (C : Addr) (W : WX) (ta : TA) : TS := fun _ σ H => tMkBr C ta σ H fun cls d H' => W cls d σ H'
theorem ps_raiseBr {a : Expr} {ta : TA} {W : WX} {p pos pos2 : Pos} {k : Nat} (hc : X.calm = true) (T : PySem.BrX.BrTxt X.prog X.K X.mg C fI) (hr : Room k X.A) (tk : Takes X W) (ha : PA X [a] ta) (hg : Gl X "BadRound" := by rfl)
    (he : starEach (a :: []) X.env = (false, eval a X.env) :: starEach [] X.env := by rfl) (hpl : (backTo pos (starEach [] X.env)).any (·.1) = false := by rfl) :
    PS X (.Raise (some (.Call (.Name "BadRound" p) [a] [] pos)) none pos2) (tRaiseBr C W ta) := ps_raise hc tk (pmk_br T hr ha hg he hpl)
/-- e.number, e the exception that the suite holds (at a; its class cls, its dict d) -/
def tByBr (C : Addr) (a : Addr) (cls : Value) (d : Option Addr) (te : TE) : TE := fun σ H Q => te σ H fun x H1 => x = .ref a ∧ cls = .ref C ∧ ∃ (dd : Addr) (v : V), d = some dd ∧ H1 dd = some (.xd [(("number" : Str), v)]) ∧ Q v H1
theorem pe_byBr {a : Addr} {oe : Obj} {cls : Value} {d : Option Addr} {pn : List (Addr × Obj)} {e : Expr} {te : TE} {pos : Pos} (T : PySem.BrX.BrTxt X.prog X.K X.mg C fI) (hz : Zc cls d oe) (hf : ∃ vs, oe.data = .fields vs) (he : PE (X.suite a ((a, oe) :: pn)) e te)
    (hb : attributeBase e "number" X.env (eval e X.env) = eval e X.env := by rfl) :
    PE (X.suite a ((a, oe) :: pn)) (.Attribute e "number" pos) (tByBr C a cls d te) := by
  refine ⟨fun pins s σ H Q I h => ?_⟩
  refine attr_of hb (thn (he.run pins s σ H _ I h) fun u s1 hh => ?_)
  obtain ⟨x, H1, I1, rx, ex, ec, dd, v, ed, ea, q⟩ := hh
  subst ex
  obtain rfl : u = Value.ref a := rx
  subst ec
  subst ed
  obtain ⟨ha, _⟩ := I1.pin (a, oe) (List.mem_append_left _ List.mem_cons_self)
  obtain ⟨vs, hd⟩ := hf
  have hx : ObjOk X.prog X.w H1 s1.heap dd (.xd [(("number" : Str), v)]) := I1.hok dd _ ea
  obtain ⟨mA, hns, hr⟩ := hx
  obtain ⟨od, ho, hl⟩ := lookIn_ns hns
  have l : List.lookup ("number" : Str) [(("number" : Str), v)] = some v := by simp [List.lookup]
  obtain ⟨u, hu, ru⟩ := RelO.some_of (v := v) (o := mA "number") (by rw [← l]; exact hr "number")
  have J : PySem.W.InstAt s1.heap a oe C (some od) := ⟨ha, hz.1, by unfold PySem.W.notCls; rw [hd] <;> rfl, by rw [hz.2]; exact ho⟩
  exact HandSPX.exc_get I1.kIn J T.ga T.gg T.exC (PySem.W.findObj_own T.hdC T.noN rfl (by rw [hl, hu])) (handed_of ru) ⟨v, H1, I1.tok _, ru, q⟩
end
end L2

set_option Elab.async false
set_option linter.all false
set_option maxRecDepth 100000
set_option maxHeartbeats 4000000
namespace L2
open PySem PySem.Spec PyProof.Rows
/-- what the class D says, so that isinstance asks its instances rightly (they have a dict) -/
structure ExcD (K : PySem.W.Frag) (D : Addr) : Prop where
  hc : (PySem.W.clsIn K D).isSome = true
  hg : PySem.W.findIn K (.ref D) "__getattribute__" = some (some (.builtin "BaseException.__getattribute__"))
  hk : PySem.W.findIn K (.ref D) "__getattr__" = some none
  hs : PySem.W.subIn K (.ref D) (.type "BaseException") = some true
  ha : PySem.W.findIn K (.ref D) "__class__" = some (some (.builtin "object.__class__"))
  hn : PySem.W.specialIn K (.builtin "object.__class__") "__get__" = some (some (.builtin "getset_descriptor.__get__"))
  ht : PySem.W.takesIn K (.builtin "object.__class__") = some true
  hm : PySem.W.mroIn K D (.type "object") = some true
/-- isinstance(e, c), e the exception that the suite holds, of the class at D, with a dict at dd -/
def rIsD (K : PySem.W.Frag) (D a : Addr) (cls : Value) (d : Option Addr) : List V → Hp → VK → Prop := fun xs H Q => ∃ (c : V) (cv : Value) (b : Bool) (fs : List (Str × V)) (dd : Addr), cls = .ref D ∧ d = some dd ∧ xs = [.ref a, c] ∧ (∀ u, RelV c u → u = cv) ∧ PySem.W.kitOne K (.ref D) cv = some b ∧ H dd = some (.xd fs) ∧ Q (.bl b) H
theorem call_isD {X : Cx} {a D : Addr} {cls : Value} {d : Option Addr} {oe : Obj} {pn : List (Addr × Obj)} (C : ExcD X.K D) (hz : Zc cls d oe) (hf : ∃ vs, oe.data = .fields vs) : CallR (X.suite a ((a, oe) :: pn)) (.builtin "isinstance") (rIsD X.K D a cls d) := by
  intro pins s σ H xs us Q I r h
  obtain ⟨c, cv, b, fs, dd, rfl, rfl, rfl, hcv, e, ed, q⟩ := h
  cases r with
  | cons rx rr =>
    cases rr with
    | cons rt rr =>
      cases rr
      cases rx
      have ec := hcv _ rt
      subst ec
      obtain ⟨hget, _⟩ := I.pin (a, oe) (List.mem_append_left _ List.mem_cons_self)
      obtain ⟨vs, hv⟩ := hf
      have hx : ObjOk X.prog X.w H s.heap dd (.xd fs) := I.hok dd _ ed
      obtain ⟨mA, hns, hr⟩ := hx
      obtain ⟨od, ho, hl⟩ := lookIn_ns hns
      have J : PySem.W.InstAt s.heap a oe D (some od) := ⟨hget, hz.1, by unfold PySem.W.notCls; rw [hv] <;> rfl, by rw [hz.2]; exact ho⟩
      exact PySem.W.kia_one (PySem.W.kitx_exc C.hc C.hg C.hk C.hs C.ha C.hn C.ht C.hm) I.kIn J e (fun z => nomatch z) fun tk => ⟨.bl b, H, I.kept (t' := tk) fun _ _ z => z, rfl, q⟩
end L2

set_option Elab.async false
set_option linter.all false
set_option maxRecDepth 100000
set_option maxHeartbeats 4000000
namespace Nf
open PySem PySem.Spec PyProof.Rows L2
variable {P : Program} {w : World} {K : PySem.W.Frag} {mg : Str → Option Value} {base : Heap}
/-! ### check_plan of a plan with a thing that is no round -/
/-- thing k is the first that is no round -/
def FirstBad (g s : Int) (rs : List Rnd) (k : Nat) : Prop := ∃ r, rs[k]? = some r ∧ ¬ IsRound g s r ∧ ∀ i, i < k → ∀ r, rs[i]? = some r → IsRound g s r
def spCheckBad (K : PySem.W.Frag) (C CB : Addr) : Sp := fun vs H _ E => ∃ (p l : Addr) (g s : Int) (rs : List Rnd) (k : Nat), vs = [.ref p, .ref l] ∧ PartyV C H p g s ∧ IsParty g s ∧ PlanV K H l rs ∧ Small rs ∧ FirstBad g s rs k ∧
  ∀ H' d, Same H H' → H d = none → H' d = some (.xd [(("number" : Str), .int (k : Nat))]) → E (.ref CB) (some d) H'
theorem ok_checkBad {f fI C CB fB : Addr} {fd fdI : FuncData} (F : Fun K "check_plan" "check_plan" sCheck f fd) (B : Blt mg) (TB : PySem.BrX.BrTxt P K mg CB fB) (GI : FnOk P w K mg base CX0 3 fI fdI ["party", "thing"] (spIsRound C)) (FI : Fun K "is_round" "is_round" sIsRound fI fdI) (bI : Binds K fdI ["party", "thing"] []) (gI : mg "is_round" = some (.ref fI)) :
    FnOk P w K mg base (L2.CX P w) 4 f fd ["party", "plan"] (spCheckBad K C CB) := by
  refine F.okX scCheck (fun vs H Q E h => ?_) (fun cdv A outer s H vs Q E hr h => ?_)
  · obtain ⟨p, l, g, s, rs, k, rfl, _⟩ := h
    rfl
  · obtain ⟨p, l, g, z, rs, kb, rfl, hP, hI, ⟨xs, hl, hxs⟩, hS, hbad, q⟩ := h
    refine ⟨_, pss_one (ps_for (passes_of rfl) rfl (pi_enum (by rfl) B.enumerate (pa_cons (pv 1) pa_nil)) (pg_tup rfl (pgs_cons (pg_name (i := 2) scCheck.nd rfl (.inl rfl)) (pgs_cons (pg_name (i := 3) scCheck.nd rfl (.inl rfl)) pgs_nil)))
        (pss_one (ps_if (pt_not (pt_val (pe_call GI hr (by rfl) gI FI.kp bI .nil pass0 (pa_cons (pv 0) (pa_cons (pv 3) pa_nil))))) (pss_one (ps_raiseBr rfl TB hr (takes_of rfl rfl rfl rfl) (pa_cons (pv 2) pa_nil))) pss_nil))), ?_⟩
    have hxl := paired_len hxs
    obtain ⟨rb, hrb, hnb, hgood⟩ := hbad
    refine ⟨.ref l, rfl, l, xs, rfl, hl, ?_⟩
    refine for_it (walk_enum (xs := xs)) (fun i σ H2 => ∃ (y3 y4 : Option V), σ = [some (.ref p), some (.ref l), y3, y4] ∧ Same H H2 ∧ i ≤ kb)
      ⟨none, none, rfl, Same.refl _, Nat.zero_le _⟩ (fun i σ H2 _ h => ?_) (fun i x σ H2 H3 hi hI2 y => ?_) (fun σ H2 hI2 => ?_)
    · obtain ⟨_, _, _, sm, _⟩ := h
      exact sm.seq hl
    · obtain ⟨y3, y4, rfl, sm, hik⟩ := hI2
      obtain ⟨T, v1, v2, rfl, nT, rfl, g1, g2⟩ := y
      have e1 : v1 = .int ((i : Nat) : Int) := (Option.some.inj g1).symm
      subst e1
      obtain ⟨r, hr0, hrx⟩ := paired_getL hxs g2
      have hmem : r ∈ rs := List.mem_of_getElem? hr0
      have sT : Same H2 (upd H2 T (.tup [.int ((i : Nat) : Int), v2])) := same_new nT
      refine ⟨T, _, rfl, SqT.of upd_same, rfl, _, _, rfl, _, _, rfl, ⟨rfl, ?_⟩⟩
      have sm3 := sm.trans sT
      refine ⟨.ref p, rfl, v2, rfl, p, g, z, v2, r, rfl, hP.same sm3, hI, hrx.mono (same_toT sm3), hS.r r hmem, hS.t r hmem, fun b H4 s4 hb => ?_⟩
      have sm4 := sm3.trans s4
      by_cases hk : i = kb
      · subst hk
        rw [hrb] at hr0
        cases hr0
        have eb : b = false := by
          cases b with
          | false => rfl
          | true => exact absurd (hb.mp rfl) hnb
        subst eb
        have hi64 : i < 2 ^ 1000 := by
          have := hS.n
          have e : (1000 : Nat) < 2 ^ 1000 := by decide +kernel
          omega
        refine ⟨_, rfl, iteT ?_⟩
        refine ⟨.int ((i : Nat) : Int), rfl, ((i : Nat) : Int), rfl, ?_, fun d hd => q _ d (sm4.trans (same_new hd)) (sm4.free hd) upd_same⟩
        show ((i : Nat) : Int).natAbs.log2 < 1920
        rw [Int.natAbs_natCast]
        exact Nat.lt_of_le_of_lt (Nat.log2_le_self i) (by have := hS.n; omega)
      · have eb : b = true := hb.mpr (hgood i (by omega) r hr0)
        subst eb
        exact ⟨_, rfl, iteF ⟨_, _, rfl, sm4, by omega⟩⟩
    · obtain ⟨_, _, rfl, sm, hik⟩ := hI2
      have := (List.getElem?_eq_some_iff.mp hrb).1
      omega
end Nf

set_option Elab.async false
set_option linter.all false
set_option maxRecDepth 100000
set_option maxHeartbeats 4000000
namespace Nf
open PySem PySem.Spec PyProof.Rows L2
variable {P : Program} {w : World} {K : PySem.W.Frag} {mg : Str → Option Value} {base : Heap}
/-! ### two ways of one def -/
theorem fnOk_toX {CX : CXT} {k : Nat} {f : Addr} {fd : FuncData} {ps : List Str} {sp : Sp} (F : FnOk P w K mg base CX0 k f fd ps sp) : FnOk P w K mg base CX k f fd ps sp :=
  ⟨F.len, fun A outer s H args us vs Q E hr he hb hv hs => codeAny_mono (F.run A outer s H args us vs Q E hr he hb hv hs) fun r s' h => by
    cases r with
    | error e => exact False.elim h
    | ok fl => cases fl <;> exact h⟩
theorem fnOk_or {CX : CXT} {k : Nat} {f : Addr} {fd : FuncData} {ps : List Str} {sp sp' sp'' : Sp} (F : FnOk P w K mg base CX k f fd ps sp) (G : FnOk P w K mg base CX k f fd ps sp') (h : ∀ vs H Q E, sp'' vs H Q E → sp vs H Q E ∨ sp' vs H Q E) : FnOk P w K mg base CX k f fd ps sp'' :=
  ⟨fun vs H Q E hs => (h vs H Q E hs).elim (F.len vs H Q E) (G.len vs H Q E), fun A outer s H args us vs Q E hr he hb hv hs => (h vs H Q E hs).elim (F.run A outer s H args us vs Q E hr he hb hv) (G.run A outer s H args us vs Q E hr he hb hv)⟩
theorem first_bad {g s : Int} : ∀ {rs : List Rnd}, (∀ r ∈ rs, IsRound g s r) ∨ ∃ k, FirstBad g s rs k
  | [] => .inl fun _ h => by simp at h
  | r :: rs => by
    by_cases hr : IsRound g s r
    · rcases first_bad (g := g) (s := s) (rs := rs) with h | ⟨k, rb, h1, h2, h3⟩
      · exact .inl fun x hx => by
          rcases List.mem_cons.mp hx with rfl | hx
          · exact hr
          · exact h x hx
      · refine .inr ⟨k + 1, rb, by simpa using h1, h2, fun i hi x hx => ?_⟩
        cases i with
        | zero =>
          have e : r = x := by simpa using hx
          rw [← e]
          exact hr
        | succ i => exact h3 i (by omega) x (by simpa using hx)
    · exact .inr ⟨0, r, rfl, hr, fun i hi => by omega⟩
/-! ### unmet refuses -/
/-- met and unmet, asked of any plan: a list, or the number of the first thing that is no round -/
def spAskX (K : PySem.W.Frag) (C CB : Addr) (F : Nat → List (Int × Int) → Int → List Int) : Sp := fun vs H Q E => ∃ (p l : Addr) (g : Nat) (s : Int) (rs : List Rnd), vs = [.ref p, .ref l] ∧ PartyV C H p g s ∧ IsParty g s ∧ PlanV K H l rs ∧ Small rs ∧
  ((∀ r ∈ rs, IsRound g s r) → ∀ H' q, Same H H' → NewLL H H' q (rowsM (F g (pairsP rs)) g) → Q (.ref q) H') ∧ ∀ k, FirstBad g s rs k → ∀ H' d, Same H H' → H d = none → H' d = some (.xd [(("number" : Str), .int (k : Nat))]) → E (.ref CB) (some d) H'
theorem ask_or {C CB : Addr} {vs : List V} {H : Hp} {Q : VK} {E : XK} {F : Nat → List (Int × Int) → Int → List Int} (h : spAskX K C CB F vs H Q E) :
    (∃ (p l : Addr) (g : Nat) (s : Int) (rs : List Rnd), vs = [.ref p, .ref l] ∧ PartyV C H p g s ∧ IsParty g s ∧ PlanV K H l rs ∧ Small rs ∧ (∀ r ∈ rs, IsRound g s r) ∧ ∀ H' q, Same H H' → NewLL H H' q (rowsM (F g (pairsP rs)) g) → Q (.ref q) H') ∨ spCheckBad K C CB vs H Q E := by
  obtain ⟨p, l, g, s, rs, e, h1, h2, h3, h4, h5, h6⟩ := h
  rcases first_bad (g := (g : Int)) (s := s) (rs := rs) with hr | ⟨k, hk⟩
  · exact .inl ⟨p, l, g, s, rs, e, h1, h2, h3, h4, hr, h5 hr⟩
  · exact .inr ⟨p, l, g, s, rs, k, e, h1, h2, h3, h4, hk, h6 k hk⟩
end Nf

set_option Elab.async false
set_option linter.all false
set_option maxRecDepth 100000
set_option maxHeartbeats 4000000
namespace Nf
open PySem PySem.Spec PyProof.Rows L2
variable {P : Program} {w : World} {K : PySem.W.Frag} {mg : Str → Option Value} {base : Heap}
/-! ### the law's refused -/
/-- the classes of refusals, as the suite asks for them -/
structure Kinds (K : PySem.W.Frag) (mg : Str → Option Value) (CB PE CP CT CX : Addr) : Prop where
  gE : mg "PartyError" = some (.ref PE)
  gP : mg "BadParty" = some (.ref CP)
  gT : mg "BadText" = some (.ref CT)
  gX : mg "BadTurning" = some (.ref CX)
  gV : mg "ValueError" = none
  te : PySem.W.exmOne K (.ref CB) (.ref PE) = some true
  kP : PySem.W.kitOne K (.ref CB) (.ref CP) = some false
  kT : PySem.W.kitOne K (.ref CB) (.ref CT) = some false
  kX : PySem.W.kitOne K (.ref CB) (.ref CX) = some false
  kB : PySem.W.kitOne K (.ref CB) (.ref CB) = some true
  kV : PySem.W.kitOne K (.ref CB) (.type "ValueError") = some true
  ed : ExcD K CB
def spRefused (K : PySem.W.Frag) (C : Addr) : Sp := fun vs H Q _ => ∃ (p l : Addr) (g : Nat) (s : Int) (rs : List Rnd) (way : Int), vs = [.ref p, .ref l, .int way] ∧ PartyV C H p g s ∧ IsParty g s ∧ PlanV K H l rs ∧ Small rs ∧
  ((∀ r ∈ rs, IsRound g s r) → ∀ H', Same H H' → Q .non H') ∧ ∀ k, FirstBad g s rs k → ∀ H', Same H H' → Q (.int (k : Nat)) H'
end Nf

set_option Elab.async false
set_option linter.all false
set_option maxRecDepth 100000
set_option maxHeartbeats 4000000
namespace PySem.W
open PySem
/-! ### what isinstance and except ask of own classes, from the parts -/
theorem kit_ref {K : Frag} {C D : Addr} {b : Bool} (hd : hasDictIn K C = true) (ht : typeIn K (.ref C) = some (.type "type")) (hs : subIn K (.ref D) (.ref C) = some b) (ne : D ≠ C) : kitOne K (.ref D) (.ref C) = some b := by
  obtain ⟨cd, hc, _⟩ := any_some hd
  have e1 : (Value.ref D == Value.ref C) = false := by simpa using ne
  have e2 : ((clsIn K C).isSome && typeIn K (.ref C) == some (.type "type")) = true := by rw [hc, ht] <;> rfl
  unfold kitOne
  rw [e1, if_neg Bool.false_ne_true]
  show (if ((clsIn K C).isSome && typeIn K (.ref C) == some (.type "type")) = true then subIn K (.ref D) (.ref C) else none) = some b
  rw [if_pos e2]
  exact hs
theorem sub_ne {K : Frag} {C D : Addr} (h1 : subIn K (.ref D) (.ref D) = some true) (h2 : subIn K (.ref D) (.ref C) = some false) : D ≠ C := fun e => by
  subst e
  rw [h1] at h2
  cases h2
theorem kit_self {K : Frag} {D : Addr} : kitOne K (.ref D) (.ref D) = some true := by
  unfold kitOne
  rw [if_pos (by simp)]
theorem kit_ve {K : Frag} {D : Addr} (h : subIn K (.ref D) (.type "ValueError") = some true) : kitOne K (.ref D) (.type "ValueError") = some true := by
  have e1 : (Value.ref D == Value.type "ValueError") = false := by simp
  have e2 : kitMeta "ValueError" = true := by decide +kernel
  unfold kitOne
  rw [e1, if_neg Bool.false_ne_true]
  show (if kitMeta "ValueError" = true then subIn K (.ref D) (.type "ValueError") else none) = some true
  rw [if_pos e2]
  exact h
theorem super_of {K : Frag} {C PE : Addr} {name : Str} {r : Option (Option Value)} {tl : List Value} {nm q nm' q' : Str} {N N' : Addr} {bs bs' : List Value} {h1 h1' : Bool} {sn sn' : List Str} {sb sb' : List Value} {ab ab' : Bool} {col col' : Option Bool} {dd dd' : Option Addr} {k0 k1 k2 k3 k5 k0' k1' k2' k3' k5' : Option Value} {nw nw' : String}
    (hC : K.lookup C = some (excClassObj nm q C N bs (.ref PE :: tl) h1 sn sb ab col dd k0 k1 k2 k3 k5 nw)) (hE : K.lookup PE = some (excClassObj nm' q' PE N' bs' tl h1' sn' sb' ab' col' dd' k0' k1' k2' k3' k5' nw')) (hf : findIn K (.ref PE) name = r) : ks_superIn K C C name = r := by
  have e2 : findIn K (.ref PE) name = alongIn K name (.ref PE :: tl) := by
    show (match K.lookup PE with
      | some ⟨_, _, .cls cd, _⟩ => alongIn K name cd.mro
      | _ => none) = _
    rw [hE]
  rw [← hf, e2]
  have e1 : clsIn K C = some { name := nm, bases := bs, mro := .ref C :: .ref PE :: tl, ns := N, qualname := q, hasDict := h1, slotNames := sn, subclasses := sb, abstract := ab, collection := col, hasDel := false } := by
    unfold clsIn
    rw [hC] <;> rfl
  unfold ks_superIn
  rw [e1]
  show alongIn K name (((Value.ref C :: Value.ref PE :: tl).dropWhile (· != Value.ref C)).drop 1) = alongIn K name (Value.ref PE :: tl)
  simp [List.dropWhile_cons]
theorem cls_some {K : Frag} {C N : Addr} {bm bs : List Value} {nm q : Str} {h1 : Bool} {sn : List Str} {sb : List Value} {ab : Bool} {col : Option Bool} {dd : Option Addr} {k0 k1 k2 k3 k5 : Option Value} {nw : String} (hC : K.lookup C = some (excClassObj nm q C N bs bm h1 sn sb ab col dd k0 k1 k2 k3 k5 nw)) : (clsIn K C).isSome = true := by
  unfold clsIn
  rw [hC] <;> rfl
end PySem.W

set_option Elab.async false
set_option linter.all false
set_option maxRecDepth 100000
set_option maxHeartbeats 4000000
namespace Nf
open PySem PySem.Spec PyProof.Rows L2
variable {P : Program} {w : World} {K : PySem.W.Frag} {mg : Str → Option Value} {base : Heap}
/-! ### the plan for tables of two -/
def pairRnd (n : Nat) : Rnd := [0, ((2 * n + 1 : Nat) : Int)] :: (List.range n).map fun (i : Nat) => [((i : Nat) : Int) + 1, ((2 * n + 1 : Nat) : Int) - (((i : Nat) : Int) + 1)]
def pairTurn (n : Nat) : List Int := (List.range (2 * n)).map (fun i => ((i : Nat) : Int) + 1) ++ [0, ((2 * n + 1 : Nat) : Int)]
/-- (round, turning, count, rest), the turning and the rest new lists -/
def MadeV (H0 H : Hp) (y : V) (r : Rnd) (tn : List Int) (c : Int) (rest : List Rnd) : Prop := ∃ (q l m : Addr) (x : V) (zs : List V), y = .ref q ∧ H q = some (.tup [x, .ref l, .int c, .ref m]) ∧ RndV H x r ∧ H0 l = none ∧ H l = some (.lst (tn.map V.int)) ∧ H0 m = none ∧ m ≠ l ∧ H m = some (.lst zs) ∧ Paired (RndV H) zs rest
theorem cat1b {H : Hp} {Q : VK} {a b : Addr} {v : V} {ys : List V} (ha : H a = some (.tup [v])) (hb : H b = some (.tup ys)) (hl : 1 + ys.length ≤ sizeLine) (q : ∀ p H', Same H H' → H' p = some (.tup (v :: ys)) → Q (.ref p) H') : rCatT K (.ref a) (.ref b) H Q := by
  refine ⟨a, b, _, _, rfl, rfl, SqT.of ha, SqT.of hb, by simp, hl, fun e => ?_, fun _ p np => q p _ (same_new np) upd_same⟩
  subst e
  exact q a H (Same.refl _) ha
theorem rgV_from1 (n : Nat) : rgV 1 ((n + 1 : Nat) : Int) = ((List.range n).map (fun i => ((i : Nat) : Int) + 1)).map V.int := by
  unfold rgV
  rw [List.map_map]
  have e : (((n + 1 : Nat) : Int) - 1).toNat = n := by omega
  rw [e]
  refine List.map_congr_left fun i _ => ?_
  show V.int (1 + (i : Nat)) = V.int ((i : Nat) + 1)
  rw [Int.add_comm]
def spMadePairs (K : PySem.W.Frag) : Sp := fun vs H Q _ => ∃ (n : Nat), vs = [.int ((2 * n + 2 : Nat) : Int)] ∧ n ≤ 31 ∧ ∀ y H', Same H H' → MadeV H H' y (pairRnd n) (pairTurn n) ((2 * n + 1 : Nat) : Int) [] → Q y H'
end Nf

set_option Elab.async false
set_option linter.all false
set_option maxRecDepth 100000
set_option maxHeartbeats 4000000
namespace Nf
open PySem PySem.Spec PyProof.Rows L2
variable {P : Program} {w : World} {K : PySem.W.Frag} {mg : Str → Option Value} {base : Heap}
/-! ### the plan of a square -/
def sqCols (s : Nat) : Rnd := (List.range s).map fun (a : Nat) => (List.range s).map fun (k : Nat) => ((a : Nat) : Int) + (k : Nat) * (s : Nat)
def sqRows (s : Nat) : Rnd := (List.range s).map fun (a : Nat) => (List.range s).map fun (k : Nat) => ((a * s : Nat) : Int) + (k : Nat)
def sqTurn (s : Nat) : List Int := (List.range (s * s)).map fun (g : Nat) => ((g : Nat) : Int) / (s : Nat) * (s : Nat) + (((g : Nat) : Int) + ((g : Nat) : Int) / (s : Nat)) % (s : Nat)
theorem tabs_add {H : Hp} {D u : Addr} {acc : List V} {r : Rnd} {t : Tbl} (hD : H D = some (.lst acc)) (hac : Paired (TabV H) acc r) (hu : H u = some (.tup (t.map V.int))) : Paired (TabV (upd H D (.lst (acc ++ [.ref u])))) (acc ++ [.ref u]) (r ++ [t]) := by
  have keepT : ∀ {v : V} {t : Tbl}, TabV H v t → TabV (upd H D (.lst (acc ++ [.ref u]))) v t := fun {v t} h => by
    obtain ⟨a, rfl, ha⟩ := h
    exact ⟨a, rfl, by rw [upd_ne (ne_of ha hD (by intro e; cases e))]; exact ha⟩
  exact paired_snoc (paired_mono (fun _ _ h => keepT h) hac) (keepT ⟨u, rfl, hu⟩)
theorem rgc_sq : ∀ z : Fin 9, ∀ i : Fin 9, 2 ≤ z.val → i.val < z.val → Builtin.Range.small (0 + (i.val : Nat)) ((z.val * z.val : Nat) : Int) (z.val : Nat) = true ∧ Builtin.Range.rangeSize (0 + (i.val : Nat)) ((z.val * z.val : Nat) : Int) (z.val : Nat) = (z.val : Nat) := by decide +kernel
theorem rgc_at {z i : Nat} (h1 : 2 ≤ z) (h2 : z ≤ 8) (h3 : i < z) : RgC (0 + (i : Nat)) ((z * z : Nat) : Int) (z : Nat) z := by
  obtain ⟨h4, h5⟩ := rgc_sq ⟨z, by omega⟩ ⟨i, by omega⟩ h1 h3
  exact ⟨by omega, by omega, h4, h5⟩
theorem rgC_col (z i : Nat) : rgC (0 + (i : Nat)) (z : Nat) z = ((List.range z).map fun (k : Nat) => ((i : Nat) : Int) + (k : Nat) * (z : Nat)).map V.int := by
  unfold rgC
  rw [List.map_map]
  refine List.map_congr_left fun k _ => ?_
  show V.int (0 + (i : Nat) + (k : Nat) * (z : Nat)) = V.int ((i : Nat) + (k : Nat) * (z : Nat))
  rw [Int.zero_add]
theorem rgV_row (z i : Nat) : rgV (0 + (i : Nat) * ((z : Nat) : Int)) (0 + (i : Nat) * ((z : Nat) : Int) + (z : Nat)) = ((List.range z).map fun (k : Nat) => ((i * z : Nat) : Int) + (k : Nat)).map V.int := by
  unfold rgV
  rw [List.map_map]
  have e : (0 + (i : Nat) * ((z : Nat) : Int) + (z : Nat) - (0 + (i : Nat) * ((z : Nat) : Int))).toNat = z := by omega
  rw [e]
  refine List.map_congr_left fun k _ => ?_
  show V.int (0 + (i : Nat) * ((z : Nat) : Int) + (k : Nat)) = V.int (((i * z : Nat) : Int) + (k : Nat))
  rw [Int.zero_add, Int.natCast_mul]
def spMadeSquare (K : PySem.W.Frag) : Sp := fun vs H Q _ => ∃ (s : Nat), vs = [.int (s : Nat)] ∧ 2 ≤ s ∧ s ≤ 8 ∧ ∀ y H', Same H H' → MadeV H H' y (sqCols s) (sqTurn s) (s : Nat) [sqRows s] → Q y H'
end Nf

set_option Elab.async false
set_option linter.all false
set_option maxRecDepth 100000
set_option maxHeartbeats 4000000
namespace Nf
open PySem PySem.Spec PyProof.Rows L2
variable {P : Program} {w : World} {K : PySem.W.Frag} {mg : Str → Option Value} {base : Heap}
/-! ### made -/
def madeM (g s : Int) : Option (Rnd × List Int × Nat × List Rnd) :=
  if s = 2 then some (pairRnd ((g.toNat - 2) / 2), pairTurn ((g.toNat - 2) / 2), 2 * ((g.toNat - 2) / 2) + 1, [])
  else if (s = 3 ∨ s = 5 ∨ s = 7) ∧ g = s * s then some (sqCols s.toNat, sqTurn s.toNat, s.toNat, [sqRows s.toNat]) else none
/-- SQUARE_SIZES -/
def SqSz (K : PySem.W.Frag) (mg : Str → Option Value) : Prop := ∃ u, mg "SQUARE_SIZES" = some (.ref u) ∧ ∀ H, SqT K H u [.int 3, .int 5, .int 7]
def spMade (K : PySem.W.Frag) (C : Addr) : Sp := fun vs H Q _ => ∃ (p : Addr) (g s : Int), vs = [.ref p] ∧ PartyV C H p g s ∧ IsParty g s ∧
  (∀ r tn c rest, madeM g s = some (r, tn, c, rest) → ∀ y H', Same H H' → MadeV H H' y r tn (c : Nat) rest → Q y H') ∧ (madeM g s = none → Q .non H)
end Nf

set_option Elab.async false
set_option linter.all false
set_option maxRecDepth 100000
set_option maxHeartbeats 4000000
namespace Nf
open PySem PySem.Spec PyProof.Rows L2
/-! ### rounds that come of a turning: the mathematics -/
theorem tAt_nat {tn : List Int} {i : Nat} : tAt tn (i : Int) = tn.getD i 0 := by
  unfold tAt
  rw [Int.toNat_natCast]
theorem tAt_mem {tn : List Int} {g : Nat} (hp : tn.Perm (rangeI g)) {x : Int} (h0 : 0 ≤ x) (h1 : x < g) : 0 ≤ tAt tn x ∧ tAt tn x < g := by
  obtain ⟨n, rfl⟩ := Int.eq_ofNat_of_zero_le h0
  have hl : tn.length = g := by rw [hp.length_eq, rangeI_len]
  have hn : n < tn.length := by omega
  rw [tAt_nat, List.getD_eq_getElem?_getD, List.getElem?_eq_getElem hn]
  exact mem_rangeI.mp (hp.mem_iff.mp (List.getElem_mem hn))
theorem tAt_inj {tn : List Int} {g : Nat} (hp : tn.Perm (rangeI g)) {x y : Int} (h0 : 0 ≤ x) (h1 : x < g) (h2 : 0 ≤ y) (h3 : y < g) (e : tAt tn x = tAt tn y) : x = y := by
  obtain ⟨n, rfl⟩ := Int.eq_ofNat_of_zero_le h0
  obtain ⟨m, rfl⟩ := Int.eq_ofNat_of_zero_le h2
  have hl : tn.length = g := by rw [hp.length_eq, rangeI_len]
  have hn : n < tn.length := by omega
  have hm : m < tn.length := by omega
  rw [tAt_nat, tAt_nat, List.getD_eq_getElem?_getD, List.getElem?_eq_getElem hn, List.getD_eq_getElem?_getD, List.getElem?_eq_getElem hm] at e
  have nd : tn.Nodup := hp.nodup_iff.mpr (rangeI_nodup g)
  have e : tn[n] = tn[m] := e
  rcases Nat.lt_trichotomy n m with z | z | z
  · exact absurd e (List.pairwise_iff_getElem.mp nd n m hn hm z)
  · rw [z]
  · exact absurd e.symm (List.pairwise_iff_getElem.mp nd m n hm hn z)
theorem flat_map_sort (tn : List Int) : ∀ r : Rnd, (r.map (movedT tn)).flatten.Perm (r.flatten.map (tAt tn))
  | [] => .refl _
  | t :: r => by
    rw [List.map_cons, List.flatten_cons, List.flatten_cons, List.map_append]
    exact (sortI_perm _).append (flat_map_sort tn r)
theorem flat_moved (tn : List Int) (r : Rnd) : (movedM tn r).flatten.Perm (r.flatten.map (tAt tn)) := by
  unfold movedM
  exact ((sortT_perm _).flatten).trans (flat_map_sort tn r)
theorem mem_moved {tn : List Int} {r : Rnd} {t : Tbl} : t ∈ movedM tn r ↔ ∃ u ∈ r, t = movedT tn u := by
  unfold movedM
  rw [(sortT_perm _).mem_iff, List.mem_map]
  constructor
  · rintro ⟨u, hu, rfl⟩
    exact ⟨u, hu, rfl⟩
  · rintro ⟨u, hu, rfl⟩
    exact ⟨u, hu, rfl⟩
theorem mem_movedT {tn : List Int} {t : Tbl} {x : Int} : x ∈ movedT tn t ↔ ∃ y ∈ t, x = tAt tn y := by
  unfold movedT
  rw [(sortI_perm _).mem_iff, List.mem_map]
  constructor
  · rintro ⟨u, hu, rfl⟩
    exact ⟨u, hu, rfl⟩
  · rintro ⟨u, hu, rfl⟩
    exact ⟨u, hu, rfl⟩
theorem moved_len (tn : List Int) (r : Rnd) : (movedM tn r).length = r.length := by
  unfold movedM
  rw [(sortT_perm _).length_eq, List.length_map]
theorem map_nodup_on {f : Int → Int} : ∀ {l : List Int}, (∀ x ∈ l, ∀ y ∈ l, f x = f y → x = y) → l.Nodup → (l.map f).Nodup
  | [], _, _ => by simp
  | x :: l, hf, hn => by
    obtain ⟨h1, h2⟩ := List.nodup_cons.mp hn
    rw [List.map_cons]
    refine List.nodup_cons.mpr ⟨fun h => ?_, map_nodup_on (fun a ha b hb => hf a (by simp [ha]) b (by simp [hb])) h2⟩
    obtain ⟨y, hy, e⟩ := List.mem_map.mp h
    have := hf x (by simp) y (by simp [hy]) e.symm
    exact h1 (this ▸ hy)
theorem moved_round {g : Nat} {s : Int} {r : Rnd} {tn : List Int} (hR : IsRound g s r) (hp : tn.Perm (rangeI g)) : IsRound g s (movedM tn r) := by
  have fl : (r.map (movedT tn)).flatten.Perm (r.flatten.map (tAt tn)) := flat_map_sort tn r
  unfold movedM
  refine isRound_sort (fun t ht => ?_) (fun t ht => ?_) (fun x hx => ?_) ?_ ?_
  · obtain ⟨u, hu, rfl⟩ := List.mem_map.mp ht
    rw [movedT_len]
    exact hR.sz u hu
  · obtain ⟨u, hu, rfl⟩ := List.mem_map.mp ht
    exact sortI_up _
  · obtain ⟨y, hy, rfl⟩ := List.mem_map.mp (fl.mem_iff.mp hx)
    exact tAt_mem hp (hR.lo y hy).1 (hR.lo y hy).2
  · exact fl.nodup_iff.mpr (map_nodup_on (fun x hx y hy e => tAt_inj hp (hR.lo x hx).1 (hR.lo x hx).2 (hR.lo y hy).1 (hR.lo y hy).2 e) hR.nd)
  · rw [List.length_map]
    exact hR.ct
/-- a pair of a round: two of one table, the lower first -/
theorem pairsT_iff : ∀ {t : Tbl}, t.Pairwise (· < ·) → ∀ a b : Int, (a, b) ∈ pairsT t ↔ (a ∈ t ∧ b ∈ t ∧ a < b)
  | [], _, a, b => by simp [pairsT]
  | x :: t, h, a, b => by
    obtain ⟨h1, h2⟩ := List.pairwise_cons.mp h
    have ih := pairsT_iff h2 a b
    simp only [pairsT, List.mem_append, List.mem_map, Prod.mk.injEq, List.mem_cons, ih]
    constructor
    · rintro (⟨y, hy, rfl, rfl⟩ | ⟨h3, h4, h5⟩)
      · exact ⟨.inl rfl, .inr hy, h1 _ hy⟩
      · exact ⟨.inr h3, .inr h4, h5⟩
    · rintro ⟨rfl | h3, rfl | h4, h5⟩
      · omega
      · exact .inl ⟨b, h4, rfl, rfl⟩
      · have := h1 _ h3
        omega
      · exact .inr ⟨h3, h4, h5⟩
theorem pairsR_iff {g s : Int} {r : Rnd} (h : IsRound g s r) (a b : Int) : (a, b) ∈ pairsR r ↔ (a < b ∧ ∃ t ∈ r, a ∈ t ∧ b ∈ t) := by
  have up : ∀ t ∈ r, t.Pairwise (· < ·) := fun t ht => up_strict (h.up t ht) (flat_each h.nd t ht)
  unfold pairsR
  rw [List.mem_flatMap]
  constructor
  · rintro ⟨t, ht, hp⟩
    obtain ⟨h1, h2, h3⟩ := (pairsT_iff (up t ht) a b).mp hp
    exact ⟨h3, t, ht, h1, h2⟩
  · rintro ⟨h3, t, ht, h1, h2⟩
    exact ⟨t, ht, (pairsT_iff (up t ht) a b).mpr ⟨h1, h2, h3⟩⟩
/-- the k-th round by a turning -/
def powM (tn : List Int) (r : Rnd) : Nat → Rnd
  | 0 => r
  | k + 1 => movedM tn (powM tn r k)
/-- full: tables of s -/
def FullR (g s : Nat) (r : Rnd) : Prop := IsRound g s r ∧ (∀ t ∈ r, t.length = s) ∧ r.length * s = g
theorem FullR.moved {g s : Nat} {r : Rnd} {tn : List Int} (h : FullR g s r) (hp : tn.Perm (rangeI g)) : FullR g s (movedM tn r) := by
  refine ⟨moved_round h.1 hp, fun t ht => ?_, by rw [moved_len]; exact h.2.2⟩
  obtain ⟨u, hu, rfl⟩ := mem_moved.mp ht
  rw [movedT_len]
  exact h.2.1 u hu
theorem FullR.pow {g s : Nat} {r : Rnd} {tn : List Int} (h : FullR g s r) (hp : tn.Perm (rangeI g)) : ∀ k, FullR g s (powM tn r k)
  | 0 => h
  | k + 1 => (FullR.pow h hp k).moved hp
/-- who may sit together in the k-th round -/
structure Cols (g : Nat) (tn : List Int) (r : Rnd) (c : Nat) (Col : Nat → Int → Int → Prop) : Prop where
  start : ∀ t ∈ r, ∀ x ∈ t, ∀ y ∈ t, x ≠ y → Col 0 x y
  next : ∀ (k : Nat) (x y : Int), k + 1 < c → 0 ≤ x → x < g → 0 ≤ y → y < g → x ≠ y → Col k x y → Col (k + 1) (tAt tn x) (tAt tn y)
  one : ∀ (j k : Nat) (x y : Int), j < c → k < c → 0 ≤ x → x < g → 0 ≤ y → y < g → x ≠ y → Col j x y → Col k x y → j = k
theorem Cols.all {g s : Nat} {tn : List Int} {r : Rnd} {c : Nat} {Col : Nat → Int → Int → Prop} (h : Cols g tn r c Col) (hf : FullR g s r) (hp : tn.Perm (rangeI g)) :
    ∀ k, k < c → ∀ t ∈ powM tn r k, ∀ x ∈ t, ∀ y ∈ t, x ≠ y → Col k x y
  | 0, _ => h.start
  | k + 1, hk => fun t ht x hx y hy ne => by
    obtain ⟨u, hu, rfl⟩ := mem_moved.mp ht
    obtain ⟨x', hx', rfl⟩ := mem_movedT.mp hx
    obtain ⟨y', hy', rfl⟩ := mem_movedT.mp hy
    have R := (hf.pow hp k).1
    have bx := R.lo x' (List.mem_flatten.mpr ⟨u, hu, hx'⟩)
    have by' := R.lo y' (List.mem_flatten.mpr ⟨u, hu, hy'⟩)
    have ne' : x' ≠ y' := fun e => ne (by rw [e])
    exact h.next k x' y' hk bx.1 bx.2 by'.1 by'.2 ne' (Cols.all h hf hp k (by omega) u hu x' hx' y' hy' ne')
def turnP (tn : List Int) (r : Rnd) (c : Nat) : List Rnd := (List.range c).map (powM tn r)
theorem turnP_succ (tn : List Int) (r : Rnd) (c : Nat) : turnP tn r (c + 1) = turnP tn r c ++ [powM tn r c] := by
  unfold turnP
  rw [List.range_succ, List.map_append]
  rfl
theorem turnP_len (tn : List Int) (r : Rnd) (c : Nat) : (turnP tn r c).length = c := by simp [turnP]
theorem Cols.good {g s : Nat} {tn : List Int} {r : Rnd} {c : Nat} {Col : Nat → Int → Int → Prop} (h : Cols g tn r c Col) (hf : FullR g s r) (hp : tn.Perm (rangeI g)) : GoodP g s (turnP tn r c) := by
  refine ⟨fun q hq => ?_, ?_⟩
  · obtain ⟨k, _, rfl⟩ := List.mem_map.mp hq
    exact (hf.pow hp k).1
  · unfold turnP
    rw [List.pairwise_map]
    refine pw_mem List.pairwise_lt_range fun j hj k hk hjk => ?_
    have hj := List.mem_range.mp hj
    have hk := List.mem_range.mp hk
    rintro ⟨a, b⟩ h1 h2
    have R1 := (hf.pow hp j).1
    have R2 := (hf.pow hp k).1
    have hb := R1.pair _ h1
    obtain ⟨lt, t, ht, ha1, hb1⟩ := (pairsR_iff R1 a b).mp h1
    obtain ⟨_, u, hu, ha2, hb2⟩ := (pairsR_iff R2 a b).mp h2
    have c1 := h.all hf hp j hj t ht a ha1 b hb1 (by omega)
    have c2 := h.all hf hp k hk u hu a ha2 b hb2 (by omega)
    have := h.one j k a b hj hk hb.1 (by omega) (by omega) hb.2.2 (by omega) c1 c2
    omega
/-! ### full rounds of a good plan: everyone meets everyone -/
theorem pairsT_count : ∀ t : Tbl, 2 * (pairsT t).length = t.length * (t.length - 1)
  | [] => rfl
  | x :: t => by
    have ih := pairsT_count t
    simp only [pairsT, List.length_append, List.length_map, List.length_cons, Nat.add_sub_cancel]
    rw [Nat.mul_add, ih]
    cases t with
    | nil => rfl
    | cons y t =>
      simp only [List.length_cons, Nat.add_sub_cancel, Nat.add_mul, Nat.mul_add]
      omega
theorem pairsR_count {s : Nat} : ∀ r : Rnd, (∀ t ∈ r, t.length = s) → 2 * (pairsR r).length = r.length * (s * (s - 1))
  | [], _ => by simp [pairsR]
  | t :: r, h => by
    have ih := pairsR_count r fun u hu => h u (by simp [hu])
    have e : pairsR (t :: r) = pairsT t ++ pairsR r := rfl
    rw [e, List.length_append, Nat.mul_add, ih, pairsT_count, h t (by simp), List.length_cons, Nat.add_mul]
    omega
theorem FullR.count {g s : Nat} {r : Rnd} (h : FullR g s r) : 2 * (pairsR r).length = g * (s - 1) := by
  rw [pairsR_count r h.2.1, ← Nat.mul_assoc, h.2.2]
theorem pairsT_nodup : ∀ {t : Tbl}, t.Pairwise (· < ·) → (pairsT t).Nodup
  | [], _ => by simp [pairsT]
  | x :: t, h => by
    obtain ⟨h1, h2⟩ := List.pairwise_cons.mp h
    refine List.nodup_append.mpr ⟨?_, pairsT_nodup h2, fun p hp q hq e => ?_⟩
    · unfold List.Nodup
      rw [List.pairwise_map]
      exact (h2.imp fun z => by omega : t.Pairwise (· ≠ ·)).imp fun z e => z (Prod.mk.inj e).2
    · subst e
      obtain ⟨y, _, rfl⟩ := List.mem_map.mp hp
      have := (mem_pairsT hq).1
      have := h1 _ this
      simp only at this
      omega
theorem pairsR_nodup {g s : Int} {r : Rnd} (h : IsRound g s r) : (pairsR r).Nodup := by
  have up : ∀ t ∈ r, t.Pairwise (· < ·) := fun t ht => up_strict (h.up t ht) (flat_each h.nd t ht)
  unfold pairsR List.Nodup
  rw [List.flatMap_def, List.pairwise_flatten]
  refine ⟨fun l hl => ?_, ?_⟩
  · obtain ⟨t, ht, rfl⟩ := List.mem_map.mp hl
    exact pairsT_nodup (up t ht)
  · rw [List.pairwise_map]
    refine (flat_disjoint h.nd).imp fun q p hp p' hp' e => ?_
    subst e
    exact q _ (mem_pairsT hp).1 (mem_pairsT hp').1
theorem pairsP_nodup {g s : Int} {rs : List Rnd} (h : GoodP g s rs) : (pairsP rs).Nodup := by
  unfold pairsP List.Nodup
  rw [List.flatMap_def, List.pairwise_flatten]
  refine ⟨fun l hl => ?_, ?_⟩
  · obtain ⟨t, ht, rfl⟩ := List.mem_map.mp hl
    exact pairsR_nodup (h.rd t ht)
  · rw [List.pairwise_map]
    refine h.np.imp fun q p hp p' hp' e => ?_
    subst e
    exact q _ hp hp'
theorem pairsP_count {g s : Nat} : ∀ rs : List Rnd, (∀ r ∈ rs, FullR g s r) → 2 * (pairsP rs).length = rs.length * (g * (s - 1))
  | [], _ => by simp [pairsP]
  | r :: rs, h => by
    have ih := pairsP_count rs fun u hu => h u (by simp [hu])
    have e : pairsP (r :: rs) = pairsR r ++ pairsP rs := rfl
    rw [e, List.length_append, Nat.mul_add, ih, (h r (by simp)).count, List.length_cons, Nat.add_mul]
    omega
theorem rangeI_eq_pairs (g : Nat) : 2 * (pairsT (rangeI g)).length = g * (g - 1) := by
  rw [pairsT_count, rangeI_len]
theorem nodup_sub_all {α : Type} [DecidableEq α] : ∀ {l m : List α}, l.Nodup → (∀ x ∈ l, x ∈ m) → m.length ≤ l.length → ∀ x ∈ m, x ∈ l
  | [], m, _, _, hl => fun x hx => by
    have : m = [] := List.eq_nil_of_length_eq_zero (by simpa using hl)
    rw [this] at hx
    exact hx
  | a :: l, m, hn, hs, hl => fun x hx => by
    obtain ⟨h1, h2⟩ := List.nodup_cons.mp hn
    by_cases e : x = a
    · simp [e]
    · have ha : a ∈ m := hs a (by simp)
      have := nodup_sub_all (l := l) (m := m.erase a) h2 (fun y hy => (List.mem_erase_of_ne (fun z => h1 (by rw [← z]; exact hy))).mpr (hs y (by simp [hy]))) (by
        rw [List.length_erase_of_mem ha]
        simp only [List.length_cons] at hl
        omega) x ((List.mem_erase_of_ne e).mpr hx)
      simp [this]
/-- as many full rounds as can be: all have met -/
theorem all_met {g s : Nat} {rs : List Rnd} (h : GoodP g s rs) (hf : ∀ r ∈ rs, FullR g s r) (hc : rs.length * (s - 1) = g - 1) {a b : Int} (h0 : 0 ≤ a) (hab : a < b) (hb : b < g) : (a, b) ∈ pairsP rs := by
  have up : (rangeI g).Pairwise (· < ·) := rangeI_up g
  refine nodup_sub_all (m := pairsT (rangeI g)) (pairsP_nodup h) (fun p hp => ?_) ?_ _ ((pairsT_iff up a b).mpr ⟨mem_rangeI.mpr ⟨h0, by omega⟩, mem_rangeI.mpr ⟨by omega, hb⟩, hab⟩)
  · have := plan_pair h.rd p hp
    exact (pairsT_iff up p.1 p.2).mpr ⟨mem_rangeI.mpr ⟨this.1, by omega⟩, mem_rangeI.mpr ⟨by omega, this.2.2⟩, this.2.1⟩
  · have e1 := pairsP_count rs hf
    have e2 := rangeI_eq_pairs g
    have e3 : rs.length * (g * (s - 1)) = g * (g - 1) := by
      rw [Nat.mul_left_comm, hc]
    omega
end Nf

set_option Elab.async false
set_option linter.all false
set_option maxRecDepth 100000
set_option maxHeartbeats 4000000
namespace Nf
open PySem PySem.Spec PyProof.Rows L2
/-! ### d.update(e), keys that are pairs -/
/-- the hash of a pair of small numbers -/
def hP (a b : Nat) : Int := reduceHash (Builtin.Tuple.tupleHashOf [hashInt (a : Nat), hashInt (b : Nat)])
def pairL : List (Nat × Nat) := (List.range 64).flatMap fun a => (List.range 64).filterMap fun b => if a < b then some (a, b) else none
/-- all unlike, looked up in a number's bits -/
def unlikeB {α : Type} (f : α → Nat) : List α → Nat → Bool
  | [], _ => true
  | x :: xs, m => !(m.testBit (f x)) && unlikeB f xs (m ||| 1 <<< f x)
theorem unlikeB_nodup {α : Type} (f : α → Nat) : ∀ (l : List α) (m : Nat), unlikeB f l m = true → l.Pairwise (fun x y => f x ≠ f y) ∧ ∀ x ∈ l, m.testBit (f x) = false
  | [], _, _ => ⟨.nil, fun _ h => by simp at h⟩
  | x :: l, m, h => by
    simp only [unlikeB, Bool.and_eq_true, Bool.not_eq_true'] at h
    obtain ⟨h1, h2⟩ := unlikeB_nodup f l _ h.2
    have key : ∀ y ∈ l, f x ≠ f y ∧ m.testBit (f y) = false := fun y hy => by
      have := h2 y hy
      rw [Nat.testBit_or, Bool.or_eq_false_iff] at this
      refine ⟨fun e => ?_, this.1⟩
      have z := this.2
      rw [← e, Nat.one_shiftLeft, Nat.testBit_two_pow_self] at z
      cases z
    refine ⟨List.pairwise_cons.mpr ⟨fun y hy => (key y hy).1, h1⟩, fun y hy => ?_⟩
    rcases List.mem_cons.mp hy with rfl | hy
    · exact h.1
    · exact (key y hy).2
theorem pair_hash : unlikeB (fun p : Nat × Nat => (hP p.1 p.2 % 18057).toNat) pairL 0 = true := by decide +kernel
theorem mem_pairL {a b : Nat} (h : a < b) (hb : b < 64) : (a, b) ∈ pairL := by
  unfold pairL
  rw [List.mem_flatMap]
  refine ⟨a, List.mem_range.mpr (by omega), ?_⟩
  rw [List.mem_filterMap]
  exact ⟨b, List.mem_range.mpr hb, if_pos h⟩
theorem pw_inj {α : Type} {β : Type} {f : α → β} : ∀ {l : List α}, l.Pairwise (fun x y => f x ≠ f y) → ∀ x ∈ l, ∀ y ∈ l, f x = f y → x = y
  | [], _, x, hx, _, _, _ => by simp at hx
  | z :: l, h, x, hx, y, hy, e => by
    obtain ⟨h1, h2⟩ := List.pairwise_cons.mp h
    rcases List.mem_cons.mp hx with ex | hx
    · rcases List.mem_cons.mp hy with ey | hy
      · rw [ex, ey]
      · rw [ex] at e
        exact absurd e (h1 y hy)
    · rcases List.mem_cons.mp hy with ey | hy
      · rw [ey] at e
        exact absurd e.symm (h1 x hx)
      · exact pw_inj h2 x hx y hy e
theorem hP_inj {a b c d : Nat} (h1 : a < b) (h2 : b < 64) (h3 : c < d) (h4 : d < 64) (e : hP a b = hP c d) : a = c ∧ b = d := by
  have z := pw_inj (unlikeB_nodup _ _ _ pair_hash).1 (a, b) (mem_pairL h1 h2) (c, d) (mem_pairL h3 h4) (by
    show (hP a b % 18057).toNat = (hP c d % 18057).toNat
    rw [e])
  exact Prod.mk.inj z
/-- a pair that can stand at a table -/
def PairOk (p : Int × Int) : Prop := 0 ≤ p.1 ∧ p.1 < p.2 ∧ p.2 < 64
theorem hash_pairs {P : Program} {w : World} : ∀ {ks : List (Int × Int)}, ks.Nodup → (∀ p ∈ ks, PairOk p) → (ks.map fun p => tupleKeyHash (mixKind P w) (key2 p)).Nodup
  | [], _, _ => by simp
  | x :: ks, hn, hk => by
    obtain ⟨h1, h2⟩ := List.nodup_cons.mp hn
    rw [List.map_cons]
    refine List.nodup_cons.mpr ⟨fun h => ?_, hash_pairs h2 fun p hp => hk p (by simp [hp])⟩
    obtain ⟨y, hy, e⟩ := List.mem_map.mp h
    obtain ⟨a1, a2, a3⟩ := hk x (by simp)
    obtain ⟨b1, b2, b3⟩ := hk y (by simp [hy])
    obtain ⟨xa, xb⟩ := x
    obtain ⟨ya, yb⟩ := y
    simp only at a1 a2 a3 b1 b2 b3
    obtain ⟨na, rfl⟩ := Int.eq_ofNat_of_zero_le a1
    obtain ⟨nb, rfl⟩ := Int.eq_ofNat_of_zero_le (show 0 ≤ xb by omega)
    obtain ⟨ma, rfl⟩ := Int.eq_ofNat_of_zero_le b1
    obtain ⟨mb, rfl⟩ := Int.eq_ofNat_of_zero_le (show 0 ≤ yb by omega)
    have e : hP ma mb = hP na nb := e
    obtain ⟨z1, z2⟩ := hP_inj (by omega) (by omega) (by omega) (by omega) e
    exact h1 (by rw [← z1, ← z2]; exact hy)
section
variable {X : Cx}
theorem kt_all {H : Hp} : ∀ {more : List (List L2.Key × V)} {ys : List (List L2.Key × Addr × Value)}, KT H more ys → ∀ {kvs : List (List L2.Key × V)} {xs : List (List L2.Key × Addr × Value)}, KT H kvs xs → KT H (more.foldl (fun acc p => putK acc p.1 p.2) kvs) (storedAllH xs ys)
  | _, _, .nil, _, _, h => h
  | _, _, .cons (a := p) (b := q) r t, kvs, xs, h => by
    obtain ⟨r1, r2, r3⟩ := r
    rw [List.foldl_cons]
    refine kt_all t (xs := storedH xs q.1 q.2.1 q.2.2) ?_
    rw [← r1]
    exact KT.put h p.1 r2 r3
theorem putAll_len : ∀ (more kvs : List (List L2.Key × V)), (more.foldl (fun acc p => putK acc p.1 p.2) kvs).length ≤ kvs.length + more.length
  | [], kvs => Nat.le_refl _
  | p :: more, kvs => by
    have h1 := putAll_len more (putK kvs p.1 p.2)
    have h2 := length_putK kvs p.1 p.2
    rw [List.foldl_cons, List.length_cons]
    omega
def rUpdT (P : Program) (w : World) : V → List V → Hp → VK → Prop := fun x xs H Q => ∃ (a b : Addr) (kvs more : List (List L2.Key × V)), x = .ref a ∧ xs = [.ref b] ∧ a ≠ b ∧ H a = some (.dT kvs) ∧ H b = some (.dT more) ∧
  (kvs ≠ [] ∨ (more.map fun p => tupleKeyHash (mixKind P w) p.1).Nodup) ∧ kvs.length + more.length ≤ sizeLine ∧ Q .non (upd H a (.dT (more.foldl (fun acc p => putK acc p.1 p.2) kvs)))
theorem mt_updT (hu : X.A.units + 1 < cLine) : MtR X "dict.update" (rUpdT X.prog X.w) := by
  intro pins s σ H x xs v us Q I rx rxs h
  obtain ⟨a, b, kvs, more, rfl, rfl, nab, ha, hb, hap, hsz, q⟩ := h
  cases rx
  rw [Vals.ref1 rxs]
  obtain ⟨z1, hd1, xs1, rel1, dd1⟩ := dt_of I.hok ha
  obtain ⟨z2, hd2, xs2, rel2, dd2⟩ := dt_of I.hok hb
  have l1 : xs1.length = kvs.length := (Paired.length rel1).symm
  have l2 : xs2.length = more.length := (Paired.length rel2).symm
  have ek : ∀ {l : List (List L2.Key × V)} {m : List (List L2.Key × Addr × Value)}, KT H l m → m.map (fun x => (tupleKind (mixKind X.prog X.w)).hash x.1) = l.map fun p => tupleKeyHash (mixKind X.prog X.w) p.1 := fun {l m} r => by
    induction r with
    | nil => rfl
    | cons h t ih =>
      rw [List.map_cons, List.map_cons, ih, ← h.1]
      rfl
  refine call_update_dictH (knd := tupleKind (mixKind X.prog X.w)) (tupleKind_room_in1 hu) nab hd2 dd1 dd2 ?_ (by omega) fun h' d1 d2 hs => ?_
  · rcases hap with z | z
    · refine .inl fun e => z ?_
      rw [e] at l1
      exact List.eq_nil_of_length_eq_zero l1.symm
    · refine .inr ⟨fun x hx => ?_, by rw [ek rel2]; exact z⟩
      obtain ⟨_, _, _, _, _, _, _, his, _⟩ := dd2
      exact IsTupleKey.typeIs (his x hx)
  · obtain ⟨o, es, ep, hq, h2, h3, h4, _, h5⟩ := d1
    have hl := putAll_len more kvs
    have I2 : Inv X pins σ (upd H a (.dT (more.foldl (fun acc p => putK acc p.1 p.2) kvs))) { s with heap := h', toks := s.toks } :=
      d_write I (by rw [ha]; exact True.intro) hs ⟨o, hq⟩ ⟨by omega, hd1, _, (kt_all rel2 rel1).keeps (fun c ys ec => (by rw [upd_ne (ne_of ec ha (fun z => nomatch z))]; exact ec)), o, es, ep, hq, h2, h3, h4, h5⟩
    exact ⟨.non, _, I2, rfl, q⟩
end
/-- the keys of a dict are these pairs -/
def KnK (kvs : List (List L2.Key × V)) (ps : List (Int × Int)) : Prop := (∀ a b : Int, (valV kvs [Sum.inl a, Sum.inl b]).isSome = true ↔ (a, b) ∈ ps) ∧ ∃ ks : List (Int × Int), kvs.map (·.1) = ks.map key2 ∧ ks.Nodup
theorem knK_put {kvs : List (List L2.Key × V)} {ps : List (Int × Int)} (h : KnK kvs ps) (p : Int × Int) (v : V) : KnK (putK kvs (key2 p) v) (ps ++ [p]) := by
  obtain ⟨h1, ks, h2, h3⟩ := h
  refine ⟨fun a b => ?_, ?_⟩
  · rw [valV_put, List.mem_append, List.mem_singleton, ← h1]
    by_cases e : key2 (a, b) = key2 p
    · have e2 := key2_inj e
      have e3 : ([Sum.inl a, Sum.inl b] : List L2.Key) = key2 p := e
      rw [if_pos e3]
      simp [e2]
    · have e3 : ¬ ([Sum.inl a, Sum.inl b] : List L2.Key) = key2 p := e
      rw [if_neg e3]
      constructor
      · exact .inl
      · rintro (z | z)
        · exact z
        · exact absurd (by rw [z]) e
  · by_cases m : key2 p ∈ kvs.map (·.1)
    · exact ⟨ks, by rw [keysPut_old v m]; exact h2, h3⟩
    · refine ⟨ks ++ [p], by rw [keysPut_new v m, h2, List.map_append]; rfl, List.nodup_append.mpr ⟨h3, by simp, fun a ha b hb => ?_⟩⟩
      rw [List.mem_singleton.mp hb]
      rintro rfl
      exact m (by rw [h2]; exact mem_key2.mpr ha)
theorem knK_all : ∀ {more kvs : List (List L2.Key × V)} {ps ks : List (Int × Int)}, KnK kvs ps → more.map (·.1) = ks.map key2 → KnK (more.foldl (fun acc p => putK acc p.1 p.2) kvs) (ps ++ ks)
  | [], kvs, ps, ks, h, e => by
    have : ks = [] := by
      cases ks with
      | nil => rfl
      | cons _ _ => simp at e
    rw [this, List.append_nil]
    exact h
  | p :: more, kvs, ps, [], h, e => by simp at e
  | p :: more, kvs, ps, k :: ks, h, e => by
    rw [List.map_cons, List.map_cons] at e
    injection e with e1 e2
    rw [List.foldl_cons, e1]
    have := knK_all (knK_put h k p.2) e2
    rwa [List.append_assoc] at this
/-- known.update(known of another plan) -/
theorem knS_update {P : Program} {w : World} {H : Hp} {d e : Addr} {ps qs : List (Int × Int)} {N M : Nat} {Q : VK} (h1 : KnS H d ps N) (h2 : KnS H e qs M) (n : d ≠ e) (hb : ∀ p ∈ qs, PairOk p) (hz : N + M ≤ sizeLine)
    (q : ∀ o, KnS (upd H d o) d (ps ++ qs) (N + M) → Q .non (upd H d o)) : rUpdT P w (.ref d) [.ref e] H Q := by
  obtain ⟨kvs, hd, hl, hv, hk⟩ := h1
  obtain ⟨more, he, hm, hv2, ks, hk2, hn⟩ := h2
  have hmem : ∀ p, p ∈ ks ↔ p ∈ qs := fun p => by
    rw [← hv2 p.1 p.2, ← mem_key2, ← hk2, ← anyKey, ← valV_any]
    rfl
  refine ⟨d, e, kvs, more, rfl, rfl, n, hd, he, .inr ?_, by omega, q _ ?_⟩
  · have : (more.map fun p => tupleKeyHash (mixKind P w) p.1) = ks.map fun p => tupleKeyHash (mixKind P w) (key2 p) := by
      have e1 : (more.map fun p => tupleKeyHash (mixKind P w) p.1) = (more.map (·.1)).map (tupleKeyHash (mixKind P w)) := by rw [List.map_map]; rfl
      rw [e1, hk2, List.map_map]
      rfl
    rw [this]
    exact hash_pairs hn fun p hp => hb p ((hmem p).mp hp)
  · obtain ⟨k1, k2⟩ := knK_all (ps := ps) ⟨hv, hk⟩ hk2
    refine ⟨_, upd_same, Nat.le_trans (putAll_len _ _) (by omega), fun a b => ?_, k2⟩
    rw [k1 a b, List.mem_append, List.mem_append, hmem]
end Nf

set_option Elab.async false
set_option linter.all false
set_option maxRecDepth 100000
set_option maxHeartbeats 4000000
namespace Nf
open PySem PySem.Spec PyProof.Rows L2
/-! ### the walk of a set's table meets each slot -/
def walkL (m : Nat) : Nat → Nat → List Nat
  | 0, _ => []
  | n + 1, x => x :: walkL m n ((x * 5 + 1) % (m + 1))
theorem walkL_at (m : Nat) : ∀ (n x k : Nat), k < n → (walkL m n x)[k]? = some (lcgI m x k)
  | 0, _, _, h => absurd h (Nat.not_lt_zero _)
  | n + 1, x, 0, _ => rfl
  | n + 1, x, k + 1, h => by
    show (walkL m n ((x * 5 + 1) % (m + 1)))[k]? = _
    rw [walkL_at m n _ k (by omega)]
    have e : ∀ k, lcgI m ((x * 5 + 1) % (m + 1)) k = lcgI m x (k + 1) := fun k => by
      induction k with
      | zero => rfl
      | succ k ih =>
        show (lcgI m ((x * 5 + 1) % (m + 1)) k * 5 + 1) % (m + 1) = (lcgI m x (k + 1) * 5 + 1) % (m + 1)
        rw [ih]
    rw [e]
theorem walkL_len (m : Nat) : ∀ (n x : Nat), (walkL m n x).length = n
  | 0, _ => rfl
  | n + 1, x => by
    show (walkL m n _).length + 1 = n + 1
    rw [walkL_len m n]
/-- the walk from 0 goes round once through all slots -/
def roundB (m : Nat) : Bool := unlikeB id (walkL m (m + 1) 0) 0 && (walkL m (m + 2) 0)[m + 1]? == some 0
structure FullM (m : Nat) : Prop where
  big : 7 ≤ m ∧ m ≤ 8191
  odd : m % 2 = 1
  rnd : roundB m = true
  one : m = 7 ∨ m = 31 ∨ m = 127 ∨ m = 511 ∨ m = 2047 ∨ m = 8191
theorem full7 : FullM 7 := ⟨by decide, rfl, by decide +kernel, by decide⟩
theorem full31 : FullM 31 := ⟨by decide, rfl, by decide +kernel, by decide⟩
theorem full127 : FullM 127 := ⟨by decide, rfl, by decide +kernel, by decide⟩
theorem full511 : FullM 511 := ⟨by decide, rfl, by decide +kernel, by decide⟩
theorem full2047 : FullM 2047 := ⟨by decide, rfl, by decide +kernel, by decide⟩
theorem full8191 : FullM 8191 := ⟨by decide, rfl, by decide +kernel, by decide⟩
theorem lcgI_le (m : Nat) {x : Nat} (hx : x ≤ m) : ∀ k, lcgI m x k ≤ m
  | 0 => hx
  | k + 1 => Nat.le_of_lt_succ (Nat.mod_lt _ (Nat.succ_pos _))
theorem lcgI_add (m x a : Nat) : ∀ k, lcgI m (lcgI m x a) k = lcgI m x (a + k)
  | 0 => rfl
  | k + 1 => by
    show (lcgI m (lcgI m x a) k * 5 + 1) % (m + 1) = (lcgI m x (a + k) * 5 + 1) % (m + 1)
    rw [lcgI_add m x a k]
theorem FullM.zero {m : Nat} (F : FullM m) : lcgI m 0 (m + 1) = 0 := by
  have h := F.rnd
  unfold roundB at h
  rw [Bool.and_eq_true, beq_iff_eq, walkL_at m (m + 2) 0 (m + 1) (by omega)] at h
  exact Option.some.inj h.2
theorem FullM.from0 {m : Nat} (F : FullM m) {j : Nat} (hj : j ≤ m) : ∃ b, b ≤ m ∧ lcgI m 0 b = j := by
  have h := F.rnd
  unfold roundB at h
  rw [Bool.and_eq_true] at h
  have nd : (walkL m (m + 1) 0).Nodup := (unlikeB_nodup _ _ _ h.1).1
  have sub : ∀ x ∈ walkL m (m + 1) 0, x ∈ List.range (m + 1) := fun x hx => by
    obtain ⟨k, hk⟩ := List.mem_iff_getElem?.mp hx
    have hlt : k < m + 1 := by
      have := (List.getElem?_eq_some_iff.mp hk).1
      rwa [walkL_len] at this
    rw [walkL_at m (m + 1) 0 k hlt] at hk
    rw [← Option.some.inj hk]
    exact List.mem_range.mpr (Nat.lt_succ_of_le (lcgI_le m (Nat.zero_le _) k))
  have all : ∀ x ∈ List.range (m + 1), x ∈ walkL m (m + 1) 0 := fun x hx => by
    rcases Classical.em (x ∈ walkL m (m + 1) 0) with c | c
    · exact c
    · have z := nat_nodup_len (x :: walkL m (m + 1) 0) (List.range (m + 1)) (List.nodup_cons.mpr ⟨c, nd⟩) fun y hy => by
        rcases List.mem_cons.mp hy with e | hy
        · rw [e]
          exact hx
        · exact sub y hy
      rw [List.length_cons, walkL_len, List.length_range] at z
      omega
  obtain ⟨b, hb⟩ := List.mem_iff_getElem?.mp (all j (List.mem_range.mpr (by omega)))
  have hlt : b < m + 1 := by
    have := (List.getElem?_eq_some_iff.mp hb).1
    rwa [walkL_len] at this
  rw [walkL_at m (m + 1) 0 b hlt] at hb
  exact ⟨b, by omega, Option.some.inj hb⟩
theorem FullM.meets {m : Nat} (F : FullM m) {i j : Nat} (hi : i ≤ m) (hj : j ≤ m) : ∃ k, k ≤ m ∧ lcgI m i k = j := by
  obtain ⟨a, ha, rfl⟩ := F.from0 hi
  obtain ⟨b, hb, rfl⟩ := F.from0 hj
  by_cases c : a ≤ b
  · refine ⟨b - a, by omega, ?_⟩
    rw [lcgI_add]
    congr 1
    omega
  · refine ⟨b + (m + 1) - a, by omega, ?_⟩
    rw [lcgI_add, show a + (b + (m + 1) - a) = m + 1 + b by omega, ← lcgI_add, F.zero]
/-- each slot begins a run of a search, early enough -/
theorem FullM.run {m : Nat} (F : FullM m) (h : Int) {j : Nat} (hj : j ≤ m) : ∃ n, n ≤ m + 12 ∧ runI m (SetTable.bits h) n = j := by
  obtain ⟨k, hk, e⟩ := F.meets (runI_le m (SetTable.bits h) 12) hj
  refine ⟨12 + k, by omega, ?_⟩
  rw [runI_tail (bits_lt h), e]
theorem FullM.slot {m : Nat} (F : FullM m) (h : Int) {j : Nat} (hj : j ≤ m) : ∃ k, k < 10 * SetTable.turns m ∧ way m h k = j := by
  obtain ⟨n, hn, e⟩ := F.run h hj
  obtain ⟨k, hk, e2⟩ := run_nth m (SetTable.bits h) n
  refine ⟨k, by unfold SetTable.turns; omega, ?_⟩
  show (nth m (runAt m (SetTable.bits h % (m + 1)) (SetTable.bits h)) k).j = j
  rw [e2, ← e]
  rfl
theorem way_in (m : Nat) (h : Int) (k : Nat) : way m h k ≤ m := by
  have e := runEnd_bd (show SetTable.bits h % (m + 1) ≤ m from Nat.le_of_lt_succ (Nat.mod_lt _ (Nat.succ_pos _)))
  have z := nth_in (m := m) k (runAt m (SetTable.bits h % (m + 1)) (SetTable.bits h)) (by unfold runAt; dsimp only; omega)
  exact Nat.le_trans (Nat.le_add_right _ _) z
end Nf

set_option Elab.async false
set_option linter.all false
set_option maxRecDepth 100000
set_option maxHeartbeats 4000000
namespace Nf
open PySem PySem.Spec PyProof.Rows L2
/-! ### a set's table of any of the six masks -/
/-- each element is found on the way that its hash begins -/
structure TabF (t : SetTable) (hs : List Int) : Prop where
  up : Ris t.place.toList
  nod : t.dummies = #[]
  cnt : t.place.toList.length = hs.length
  full : FullM t.mask
  low : ∀ x ∈ t.place.toList, x ≤ t.mask
  way : ∀ (i : Nat) (h : Int) (j : Nat), hs[i]? = some h → t.place.toList[i]? = some j → ∃ k, L2.way t.mask h k = j ∧ ∀ c, c < k → L2.way t.mask h c ∈ t.place.toList
section
variable {t : SetTable} {hs : List Int}
/-- the first empty place on a way -/
theorem TabF.gap (T : TabF t hs) (hl : hs.length ≤ t.mask) (h : Int) : ∃ K, K < 10 * SetTable.turns t.mask ∧ L2.way t.mask h K ∉ t.place.toList ∧ ∀ c, c < K → L2.way t.mask h c ∈ t.place.toList := by
  obtain ⟨j, hj, hn⟩ := st_missing t.place.toList (t.mask + 1) (by have := T.cnt; omega)
  obtain ⟨k, hk, e⟩ := T.full.slot h (show j ≤ t.mask by omega)
  obtain ⟨K, k1, k2, k3⟩ := st_least (p := fun c => L2.way t.mask h c ∉ t.place.toList) k (by rw [e]; exact hn)
  exact ⟨K, by omega, k2, fun c hc => Classical.byContradiction (k3 c hc)⟩
/-- an element's place comes ahead of the first gap on its way -/
theorem TabF.ahead (T : TabF t hs) {h : Int} {K i j : Nat} (hK : L2.way t.mask h K ∉ t.place.toList) (hi : hs[i]? = some h) (hj : t.place.toList[i]? = some j) : ∃ k, k < K ∧ L2.way t.mask h k = j := by
  obtain ⟨k, e, b⟩ := T.way i h j hi hj
  refine ⟨k, Classical.byContradiction fun c => ?_, e⟩
  by_cases z : K = k
  · exact hK (by rw [z, e]; exact List.mem_of_getElem? hj)
  · exact hK (b K (by omega))
/-- one put in at the first gap -/
theorem TabF.add (T : TabF t hs) {h : Int} {K : Nat} (hK : L2.way t.mask h K ∉ t.place.toList) (hb : ∀ c, c < K → L2.way t.mask h c ∈ t.place.toList) :
    ∃ t1 p, t.put (L2.way t.mask h K) = (t1, p) ∧ p ≤ hs.length ∧ TabF t1 (hs.take p ++ h :: hs.drop p) ∧ t1.mask = t.mask ∧ t1.led = t.led ∧ t1.plain = t.plain ∧ t1.fill = hs.length + 1 := by
  generalize hq : L2.way t.mask h K = j at hK
  obtain ⟨b1, _, _⟩ := below_cut T.up j
  have hp : SetTable.below t.place j ≤ hs.length := by
    rw [← T.cnt]
    exact b1
  have hp' : SetTable.below t.place j ≤ t.place.toList.length := b1
  have epl := put_place t j
  have edm := put_dm T.nod j
  refine ⟨(t.put j).1, SetTable.below t.place j, rfl, hp, ?_, rfl, rfl, rfl, ?_⟩
  · refine ⟨ris_insert T.up fun e => hK (List.mem_of_getElem? (by rw [Array.getElem?_toList]; exact e)), edm, ?_, T.full, fun x hx => ?_, fun i h2 j2 e1 e2 => ?_⟩
    · rw [epl, len_ins _ hp', len_ins _ hp, T.cnt]
    · rw [epl] at hx
      rcases mem_ins.mp hx with e | hx
      · rw [e, ← hq]
        exact way_in _ _ _
      · exact T.low x hx
    · have keep : ∀ {x : Nat}, x ∈ t.place.toList → x ∈ (t.put j).1.place.toList := fun {x} hx => by
        rw [epl]
        exact mem_ins.mpr (.inr hx)
      rw [tins_get _ hp] at e1
      rw [epl, tins_get _ hp'] at e2
      by_cases c1 : i < SetTable.below t.place j
      · rw [if_pos c1] at e1 e2
        obtain ⟨k, w1, w2⟩ := T.way i h2 j2 e1 e2
        exact ⟨k, w1, fun c hc => keep (w2 c hc)⟩
      · by_cases c2 : i = SetTable.below t.place j
        · rw [if_neg c1, if_pos c2] at e1 e2
          cases e1
          cases e2
          exact ⟨K, hq, fun c hc => keep (hb c hc)⟩
        · rw [if_neg c1, if_neg c2] at e1 e2
          obtain ⟨k, w1, w2⟩ := T.way (i - 1) h2 j2 e1 e2
          exact ⟨k, w1, fun c hc => keep (w2 c hc)⟩
  · have el := congrArg List.length epl
    rw [len_ins _ hp', T.cnt] at el
    unfold SetTable.fill
    rw [edm, ← Array.length_toList, el]
    rfl
end
/-! laid anew -/
theorem free_at {m : Nat} (F : FullM m) (owner : Array (Option Nat)) (h : Int) {j : Nat} (hj : j ≤ m) (hf : oAt owner j = none) :
    ∃ K, SetTable.layClean.free m owner (SetTable.turns m) (SetTable.bits h % (m + 1)) (SetTable.bits h) = some (way m h K) ∧ oAt owner (way m h K) = none ∧ ∀ c, c < K → oAt owner (way m h c) ≠ none := by
  obtain ⟨n, hn, e⟩ := F.run h hj
  have at_n : way m h (off m (SetTable.bits h % (m + 1)) (SetTable.bits h) n) = j := by
    unfold way
    rw [nth_off, itL_run, ← e]
    rfl
  obtain ⟨K, k1, k2, k3⟩ := st_least (p := fun c => oAt owner (way m h c) = none) _ (by rw [at_n]; exact hf)
  have no : ∀ {x : Option Nat}, x ≠ none → x.isNone = false := fun {x} hx => by
    cases x with
    | none => exact absurd rfl hx
    | some _ => rfl
  exact ⟨K, free_spec m owner _ n _ _ K (by unfold SetTable.turns; omega) k1 (fun c hc => no (k3 c hc)) (by rw [show oAt owner (nth m (runAt m (SetTable.bits h % (m + 1)) (SetTable.bits h)) K).j = none from k2]; rfl), k2, k3⟩
theorem own_step {m : Nat} (F : FullM m) {done : List Int} {owner : Array (Option Nat)} (W : Own m done owner) (hl : done.length ≤ m) (h : Int) :
    ∃ j, SetTable.layClean.free m owner (SetTable.turns m) (SetTable.bits h % (m + 1)) (SetTable.bits h) = some j ∧ Own m (done ++ [h]) (owner.setIfInBounds j (some done.length)) := by
  obtain ⟨ps, hps, hin⟩ := W.ps
  obtain ⟨j0, h0, hn0⟩ := st_missing ps (m + 1) (by omega)
  have hj0 : oAt owner j0 = none := Classical.byContradiction fun z => hn0 (hin j0 (by omega) z)
  obtain ⟨K, e1, e2, e3⟩ := free_at F owner h (show j0 ≤ m by omega) hj0
  have hw := way_in m h K
  have hsz : way m h K < owner.size := by
    have := W.sz
    omega
  generalize hq : way m h K = j at e1 e2 hw hsz
  have hs := oAt_set_self (some done.length) hsz
  have hn : ∀ {i : Nat}, i ≠ j → oAt (owner.setIfInBounds j (some done.length)) i = oAt owner i := fun {i} hi => oAt_set_ne _ hi
  have more : ∀ {i : Nat}, oAt owner i ≠ none → oAt (owner.setIfInBounds j (some done.length)) i ≠ none := fun {i} hi => by
    by_cases c : i = j
    · rw [c, hs]
      simp
    · rw [hn c]
      exact hi
  have pre : ∀ {k : Nat} {x : Int}, done[k]? = some x → (done ++ [h])[k]? = some x := fun {k x} hk => by
    rw [List.getElem?_append_left (List.getElem?_eq_some_iff.mp hk).1]
    exact hk
  refine ⟨j, e1, ⟨by rw [Array.size_setIfInBounds]; exact W.sz, fun i k hi e => ?_, fun k hk => ?_, j :: ps, by simp [hps], fun i hi e => ?_⟩⟩
  · by_cases c : i = j
    · rw [c, hs] at e
      have ek := Option.some.inj e
      refine ⟨h, K, ?_, hq.trans c.symm, fun c' hc' => more (e3 c' hc')⟩
      rw [← ek]
      simp
    · rw [hn c] at e
      obtain ⟨x, K', a1, a2, a3⟩ := W.at_ i k hi e
      exact ⟨x, K', pre a1, a2, fun c' hc' => more (a3 c' hc')⟩
  · by_cases c : k < done.length
    · obtain ⟨i, hi, e⟩ := W.all k c
      have ne : i ≠ j := fun z => by
        rw [z, e2] at e
        cases e
      exact ⟨i, hi, by rw [hn ne]; exact e⟩
    · have ek : k = done.length := by
        rw [List.length_append, List.length_singleton] at hk
        omega
      exact ⟨j, hw, by rw [hs, ek]⟩
  · by_cases c : i = j
    · simp [c]
    · rw [hn c] at e
      exact List.mem_cons_of_mem _ (hin i hi e)
theorem own_all {m : Nat} (F : FullM m) : ∀ (rest done : List Int) (owner : Array (Option Nat)), Own m done owner → done.length + rest.length ≤ m →
    ∃ o2, rest.foldl (stepF m) (some (owner, done.length)) = some (o2, (done ++ rest).length) ∧ Own m (done ++ rest) o2
  | [], done, owner, W, _ => ⟨owner, by simp, by simpa using W⟩
  | x :: rest, done, owner, W, hl => by
    have hl' : done.length + (rest.length + 1) ≤ m := hl
    obtain ⟨j, e, W2⟩ := own_step F W (by omega) x
    obtain ⟨o2, f, W3⟩ := own_all F rest (done ++ [x]) _ W2 (by rw [List.length_append, List.length_singleton]; omega)
    have ea : done ++ [x] ++ rest = done ++ x :: rest := by simp
    rw [ea] at f W3
    refine ⟨o2, ?_, W3⟩
    rw [List.foldl_cons, stepF_some e]
    rwa [List.length_append, List.length_singleton] at f
theorem lay_clean {m : Nat} (F : FullM m) {hs : Array Int} (hn : hs.size ≤ m) : ∃ owner, SetTable.layClean m hs = some owner ∧ Own m hs.toList owner := by
  obtain ⟨o2, f, W⟩ := own_all F hs.toList [] _ (Own.init m) (by
    have z : hs.toList.length = hs.size := rfl
    rw [List.length_nil, z]
    omega)
  rw [List.nil_append] at f W
  refine ⟨o2, ?_, W⟩
  rw [layClean_eq]
  have f : hs.toList.foldl (stepF m) (some (Array.replicate (m + 1) none, 0)) = some (o2, hs.toList.length) := f
  rw [f]
  rfl
theorem laid_anew (t : SetTable) {hs : Array Int} {wanted M : Nat} (hw : SetTable.sizeAbove wanted - 1 = M) (F : FullM M) (hn : hs.size ≤ M) :
    ∃ t2 order, t.relaid hs wanted = some (t2, order) ∧ order.toList.Perm (List.range hs.size) ∧ TabF t2 (order.toList.map fun i => hs.getD i 0) ∧ t2.mask = M ∧ t2.led = t.led ∧ t2.plain = t.plain := by
  obtain ⟨owner, e, W⟩ := lay_clean F hn
  obtain ⟨r1, r2⟩ := ris_live (fun j => owner.getD j none) (List.range (M + 1)) (show List.Pairwise _ _ from List.pairwise_lt_range)
  have r1 : Ris ((liveOf M owner).map (·.1)) := r1
  have r2 : ∀ x ∈ (liveOf M owner).map (·.1), x ∈ List.range (M + 1) := r2
  have nd : ((liveOf M owner).map (·.1)).Nodup := List.Pairwise.imp (fun z => Nat.ne_of_lt z) r1
  have live : ∀ {j k : Nat}, (j, k) ∈ liveOf M owner ↔ j ≤ M ∧ oAt owner j = some k := mem_live W.sz
  have all : ∀ k, k < hs.size → k ∈ (liveOf M owner).map (·.2) := fun k hk => by
    obtain ⟨j, b1, b2⟩ := W.all k (by rw [Array.length_toList]; exact hk)
    exact List.mem_map.mpr ⟨(j, k), live.mpr ⟨b1, b2⟩, rfl⟩
  have hlen : (liveOf M owner).length = hs.size := by
    obtain ⟨ps, p1, p2⟩ := W.ps
    have a := nat_nodup_len ((liveOf M owner).map (·.1)) ps nd fun x hx => by
      obtain ⟨⟨y, k⟩, hq, e1⟩ := List.mem_map.mp hx
      obtain ⟨b1, b2⟩ := live.mp hq
      have e1 : y = x := e1
      rw [← e1]
      exact p2 y b1 (by rw [b2]; simp)
    have b := nat_nodup_len (List.range hs.size) ((liveOf M owner).map (·.2)) List.nodup_range fun k hk => all k (List.mem_range.mp hk)
    have z : hs.toList.length = hs.size := rfl
    rw [List.length_map, p1, z] at a
    rw [List.length_map, List.length_range] at b
    omega
  refine ⟨tabOf t M owner, ((liveOf M owner).map (·.2)).toArray, by rw [relaid_eq, hw, e]; rfl, ?_, ⟨r1, rfl, ?_, F, fun x hx => ?_, fun i h j h1 h2 => ?_⟩, rfl, rfl, rfl⟩
  · exact perm_range hs.size _ (by simpa using hlen) fun k hk => by simpa using all k hk
  · show ((liveOf M owner).map (·.1)).length = _
    simp
  · have := List.mem_range.mp (r2 x hx)
    show x ≤ M
    omega
  · have h1 : (((liveOf M owner).map (·.2)).map fun i => hs.getD i 0)[i]? = some h := h1
    have h2 : ((liveOf M owner).map (·.1))[i]? = some j := h2
    rw [List.getElem?_map, List.getElem?_map] at h1
    rw [List.getElem?_map] at h2
    obtain ⟨⟨y, k⟩, q1, q2⟩ := Option.map_eq_some_iff.mp h2
    rw [q1] at h1
    have ey : y = j := q2
    have eh : hs.getD k 0 = h := Option.some.inj h1
    subst ey
    obtain ⟨b1, b2⟩ := live.mp (List.mem_of_getElem? q1)
    obtain ⟨x, K, a1, a2, a3⟩ := W.at_ y k b1 b2
    have ex : hs.getD k 0 = x := by
      rw [Array.getD_eq_getD_getElem?, ← Array.getElem?_toList, a1]
      rfl
    have ex : x = h := ex.symm.trans eh
    subst ex
    refine ⟨K, a2, fun c hc => ?_⟩
    show L2.way M x c ∈ (liveOf M owner).map (·.1)
    obtain ⟨k2, z⟩ := Option.ne_none_iff_exists'.mp (a3 c hc)
    exact List.mem_map.mpr ⟨(L2.way M x c, k2), live.mpr ⟨way_in _ _ _, z⟩, rfl⟩
end Nf

set_option Elab.async false
set_option linter.all false
set_option maxRecDepth 100000
set_option maxHeartbeats 4000000
namespace Nf
open PySem PySem.Spec PyProof.Rows L2
/-! ### sets of pairs: look, add -/
def KeyP (k : List Int) : Prop := ∃ a b : Nat, a < b ∧ b < 64 ∧ k = [((a : Nat) : Int), ((b : Nat) : Int)]
theorem thash_one {P : Program} {w : World} {k k2 : List Int} (h : KeyP k) (h2 : KeyP k2) (e : thash P w k = thash P w k2) : k = k2 := by
  obtain ⟨a, b, l1, l2, rfl⟩ := h
  obtain ⟨c, d, l3, l4, rfl⟩ := h2
  obtain ⟨rfl, rfl⟩ := hP_inj l1 l2 l3 l4 e
  rfl
structure SetF (P : Program) (w : World) (h : Heap) (a : Addr) (L : List (Addr × List Int)) (es : Array (Int × Value)) (ep : Nat) (t : SetTable) : Prop where
  obj : ∃ o, h.get? a = some o ∧ o.ExactSet ∧ o.data = .set es ep t
  ent : es.toList = rowsOf P w L
  tab : TabF t (L.map fun p => thash P w p.2)
  nod : (L.map (·.2)).Nodup
  key : ∀ p ∈ L, KeyP p.2
  pl : t.plain = true
  led : w.params.followText "set-order" = true ∨ t.led = true
  room : L.length * 5 < t.mask * 3
  few : L.length ≤ 4800
section
variable {P : Program} {w : World} {A : Around} {E : Value → Shared → Prop} {s : Shared} {a : Addr} {L : List (Addr × List Int)} {es : Array (Int × Value)} {ep : Nat} {t : SetTable}
theorem SetF.sz {h : Heap} (R : SetF P w h a L es ep t) : es.size = L.length := by
  have e := congrArg List.length R.ent
  have z : es.toList.length = es.size := rfl
  rw [z] at e
  rw [e]
  simp [rowsOf]
theorem SetF.psz {h : Heap} (R : SetF P w h a L es ep t) : t.place.size = L.length := by
  have e := R.tab.cnt
  rw [List.length_map] at e
  exact e
theorem SetF.fit {h : Heap} (R : SetF P w h a L es ep t) : t.fits es.size = true := by
  have e1 := R.sz
  have e2 := R.psz
  have e3 := R.room
  unfold SetTable.fits SetTable.fill
  rw [R.tab.nod]
  simp only [Bool.and_eq_true, beq_iff_eq, decide_eq_true_eq]
  constructor
  · omega
  · show t.place.size + 0 ≤ t.mask
    omega
theorem SetF.at_ {h : Heap} (R : SetF P w h a L es ep t) {i : Nat} {p : Addr × List Int} (e : L[i]? = some p) : es[i]? = some (thash P w p.2, Value.ref p.1) := by
  have e2 : es.toList[i]? = some (thash P w p.2, Value.ref p.1) := by
    rw [R.ent]
    unfold rowsOf
    rw [List.getElem?_map, e]
    rfl
  rwa [Array.getElem?_toList] at e2
theorem SetF.whole {h : Heap} (R : SetF P w h a L es ep t) : ¬ t.gaveWay = true := by
  unfold SetTable.gaveWay
  rw [R.tab.full.odd]
  decide
/-- a search ends at once: at the pair itself, or at the first gap -/
theorem look_for (R : SetF P w s.heap a L es ep t) (tup : ∀ p ∈ L, IsT P w s.heap p.2 p.1) {x : Addr} {k : List Int} (hx : IsT P w s.heap k x) (hk : KeyP k) (hu : A.units < cLine) (adding : Bool) {Q : SetFound → Shared → Prop}
    (hin : ∀ i, k ∈ L.map (·.2) → Q (.there (if adding = true then none else some i)) s)
    (hout : ∀ K, k ∉ L.map (·.2) → way t.mask (thash P w k) K ∉ t.place.toList → (∀ c, c < K → way t.mask (thash P w k) c ∈ t.place.toList) → Q (.free (way t.mask (thash P w k) K) false) s) :
    wpAny (model P w) A (setSearch a (.ref x) (thash P w k) adding) Q E s := by
  obtain ⟨o, ho, hex, hd⟩ := R.obj
  have hroom := R.room
  obtain ⟨K, k1, k2, k3⟩ := R.tab.gap (by rw [List.length_map]; omega) (thash P w k)
  unfold setSearch
  rw [show (100000 : Nat) = 99999 + 1 from rfl, setSearchFrom_succ]
  refine wpAny_bind (wpAny_setState_of ho hd R.fit ?_)
  dsimp only
  refine wp_if_neg R.whole ?_
  try refine wpAny_bind (wpAny_pure ?_)
  have hat : ∀ (i : Nat) (p : Addr × List Int), L[i]? = some p → (es[i]?.map (·.1)).getD 0 = thash P w p.2 := fun i p hp => by
    rw [R.at_ hp]
    rfl
  have hlen := R.psz
  have find : ∀ (i j : Nat), t.place.toList[i]? = some j → ∃ p, L[i]? = some p ∧ p ∈ L := fun i j hj => by
    have l1 := (List.getElem?_eq_some_iff.mp hj).1
    have z : t.place.toList.length = t.place.size := rfl
    have l2 : i < L.length := by omega
    exact ⟨_, List.getElem?_eq_getElem l2, List.getElem_mem l2⟩
  rcases go_spec t R.tab.up R.tab.nod (fun i => (es[i]?.map (·.1)).getD 0) (thash P w k) (10 * SetTable.turns t.mask) K (t.probeStart (thash P w k)) rfl k1 k3 k2 with ⟨q, i, hq, hi, hh, _, hpr⟩ | ⟨hno, hpr⟩
  · have hpr2 : t.probe (fun i => (es[i]?.map (·.1)).getD 0) (thash P w k) (Option.none.getD (t.probeStart (thash P w k))) = _ := hpr
    rw [hpr2]
    dsimp only
    obtain ⟨p, hp, hm⟩ := find i _ hi
    have ek : p.2 = k := by
      have := hat i p hp
      exact thash_one (R.key p hm) hk (this.symm.trans hh)
    have hmem : k ∈ L.map (·.2) := List.mem_map.mpr ⟨p, hm, ek⟩
    have rest : wpAny (model P w) A (searchRest a (.ref x) (thash P w k) adding 99999 es t (nth t.mask (t.probeStart (thash P w k)) q).j i (nth t.mask (t.probeStart (thash P w k)) (q + 1))) Q E s := by
      unfold searchRest
      rw [R.at_ hp]
      dsimp only
      refine wpAny_bind (wpAny_holding (wpAny_eqBool_tuple hu (tup p hm) hx ?_))
      refine wpAny_bind (wpAny_setState_of ho hd R.fit ?_)
      dsimp only
      rw [decide_eq_true ek]
      cases adding with
      | true =>
        refine wp_if_pos rfl ?_
        exact wpAny_pure (hin i hmem)
      | false =>
        refine wp_if_neg (by simp) ?_
        try refine wpAny_bind (wpAny_pure ?_)
        rw [sameMem]
        dsimp only
        have hsl : t.slot (nth t.mask (t.probeStart (thash P w k)) q).j = .live i := slot_live R.tab.up hi
        simp only [if_true, hsl, R.at_ hp]
        refine wpAny_bind (wpAny_isSame_ref_self (wpAny_bind (wpAny_pure ?_)))
        simp only [if_true]
        exact wpAny_pure (hin i hmem)
    by_cases hl : t.led = true
    · refine wp_if_neg (by simp [hl]) ?_
      try refine wpAny_bind (wpAny_pure ?_)
      exact rest
    · refine wp_if_pos (by simp [hl]) ?_
      refine wpAny_bind (seen_tup hx (fun y hy => ?_) ?_)
      · obtain ⟨e, he, ee⟩ := List.mem_map.mp hy
        have he1 : e ∈ es.toList := by
          have : e ∈ es ∧ e.1 = thash P w k := by simpa using he
          simpa using this.1
        rw [R.ent] at he1
        obtain ⟨p2, hp2, e2⟩ := List.mem_map.mp he1
        exact ⟨p2.2, p2.1, by rw [← ee, ← e2], tup p2 hp2⟩
      · refine wp_if_neg (by decide) ?_
        try refine wpAny_bind (wpAny_pure ?_)
        exact rest
  · have hpr2 : t.probe (fun i => (es[i]?.map (·.1)).getD 0) (thash P w k) (Option.none.getD (t.probeStart (thash P w k))) = _ := hpr
    rw [hpr2]
    dsimp only
    refine wpAny_pure (hout K (fun hm => ?_) k2 k3)
    obtain ⟨p, hp, ek⟩ := List.mem_map.mp hm
    obtain ⟨i, hi⟩ := List.mem_iff_getElem?.mp hp
    have z : t.place.toList.length = t.place.size := rfl
    have l1 := (List.getElem?_eq_some_iff.mp hi).1
    obtain ⟨j, hj⟩ : ∃ j, t.place.toList[i]? = some j := ⟨_, List.getElem?_eq_getElem (by omega)⟩
    obtain ⟨c, c1, c2⟩ := R.tab.ahead (h := thash P w k) k2 (by rw [List.getElem?_map, hi, ← ek]; rfl) hj
    exact hno c i c1 (by rw [hj, ← c2]; rfl) ((hat i p hi).trans (by rw [ek]))
end
end Nf

set_option Elab.async false
set_option linter.all false
set_option maxRecDepth 100000
set_option maxHeartbeats 4000000
namespace Nf
open PySem PySem.Spec PyProof.Rows L2
theorem grow5 : SetTable.sizeAbove (SetTable.grown 5) = 32 := by decide +kernel
theorem grow19 : SetTable.sizeAbove (SetTable.grown 19) = 128 := by decide +kernel
theorem grow77 : SetTable.sizeAbove (SetTable.grown 77) = 512 := by decide +kernel
theorem grow307 : SetTable.sizeAbove (SetTable.grown 307) = 2048 := by decide +kernel
theorem grow1229 : SetTable.sizeAbove (SetTable.grown 1229) = 8192 := by decide +kernel
section
variable {P : Program} {w : World} {A : Around} {E : Value → Shared → Prop} {s : Shared} {a : Addr} {L : List (Addr × List Int)} {es : Array (Int × Value)} {ep : Nat} {t : SetTable}
/-- laid anew in a larger table -/
theorem relay_one {o : Obj} (ho : s.heap.get? a = some o) (hex : o.ExactSet) (hd : o.data = .set es ep t) (ent : es.toList = rowsOf P w L) (hp : t.place.toList.length = L.length) (hdm : t.dummies = #[]) (hfl : L.length ≤ t.mask)
    (nod : (L.map (·.2)).Nodup) (key : ∀ p ∈ L, KeyP p.2) (pl : t.plain = true) (led : w.params.followText "set-order" = true ∨ t.led = true) (few : L.length ≤ 4800) {wanted M : Nat} (hw : SetTable.sizeAbove wanted - 1 = M) (F : FullM M) (hw2 : SetTable.sizeAbove wanted ≤ 8192) (room : L.length * 5 < M * 3) {Q : Unit → Shared → Prop}
    (hQ : ∀ h2 L2 es2 ep2 t2, Heap.SameBut a s.heap h2 → SetF P w h2 a L2 es2 ep2 t2 → L2.Perm L → Q () { s with heap := h2 }) : wpAny (model P w) A (setRelay a wanted) Q E s := by
  have esz : es.size = L.length := by
    have e := congrArg List.length ent
    have z : es.toList.length = es.size := rfl
    rw [z] at e
    rw [e]
    simp [rowsOf]
  have psz : t.place.size = L.length := hp
  have big : (100000 : Nat) < sizeLine := by decide
  have fit : t.fits es.size = true := by
    unfold SetTable.fits SetTable.fill
    rw [hdm]
    simp only [Bool.and_eq_true, beq_iff_eq, decide_eq_true_eq]
    refine ⟨by omega, ?_⟩
    show t.place.size + 0 ≤ t.mask
    omega
  obtain ⟨t2, order, e, pm, T, em, el, epl⟩ := laid_anew t (hs := es.map (·.1)) hw F (by rw [Array.size_map]; omega)
  rw [Array.size_map, esz] at pm
  obtain ⟨L2, r1, r2, r3⟩ := order_rows L es order ent pm
  rw [← r3] at T
  have osz : (order.filterMap (es[·]?)).size = es.size := by
    have e := congrArg List.length r1
    have z : (order.filterMap (es[·]?)).toList.length = (order.filterMap (es[·]?)).size := rfl
    rw [z] at e
    rw [e, esz, ← r2.length_eq]
    simp [rowsOf]
  rw [setRelay_eq]
  refine wpAny_bind (wpAny_setState_of ho hd fit ?_)
  dsimp only
  refine wp_if_neg (by omega) ?_
  try refine wpAny_bind (wpAny_pure ?_)
  rw [e]
  dsimp only
  refine wpAny_bind ?_
  refine wp_if_neg (by rw [osz]; simp) ?_
  try refine wpAny_bind (wpAny_pure ?_)
  refine wpAny_pure ?_
  dsimp only
  refine wpAny_storeSet_of ho hd ?_ (by rw [osz, esz]; omega)
  refine hQ _ L2 _ (ep + 1) t2 (Heap.SameBut.update ..) ⟨⟨_, store_at ho hd, ⟨hex.1, hex.2.1, hex.2.2⟩, rfl⟩, r1, T, (r2.map (·.2)).nodup_iff.mpr nod, fun p hm => key p (r2.mem_iff.mp hm), epl.trans pl, by rw [el]; exact led, ?_, by rw [r2.length_eq]; exact few⟩ r2
  rw [r2.length_eq, em]
  exact room
theorem add_one (R : SetF P w s.heap a L es ep t) (tup : ∀ p ∈ L, IsT P w s.heap p.2 p.1) {x : Addr} {k : List Int} (hx : IsT P w s.heap k x) (hk : KeyP k) (hu : A.units < cLine) (hfew : L.length + 1 ≤ 4800) {Q : Bool → Shared → Prop}
    (hQ : ∀ b h2 L2 es2 ep2 t2, Heap.SameBut a s.heap h2 → SetF P w h2 a L2 es2 ep2 t2 → (k ∈ L.map (·.2) → L2 = L) → (k ∉ L.map (·.2) → L2.Perm ((x, k) :: L)) → Q b { s with heap := h2 }) :
    wpAny (model P w) A (setAddHashed a (.ref x) (thash P w k)) Q E s := by
  obtain ⟨o, ho, hex, hd⟩ := R.obj
  have big : (100000 : Nat) < sizeLine := by decide
  unfold setAddHashed
  refine wpAny_holding ?_
  rw [show (100000 : Nat) = 99999 + 1 from rfl, setAddHashedIn_succ]
  refine wpAny_bind (wpAny_setState_of ho hd R.fit ?_)
  dsimp only
  refine wp_if_neg (by simp [byScan, Value.scannable]) ?_
  try refine wpAny_bind (wpAny_pure ?_)
  refine wpAny_bind (look_for R tup hx hk hu true (fun i hm => ?_) fun K hm hK hb => ?_)
  · exact wpAny_pure (hQ false s.heap L es ep t (Heap.SameBut.refl a s.heap) R (fun _ => rfl) fun z => absurd hm z)
  dsimp only
  refine wpAny_bind (wpAny_setState_of ho hd R.fit ?_)
  dsimp only
  obtain ⟨t1, p, ep1, hp, T1, em, el, epl, ef⟩ := R.tab.add hK hb
  rw [ep1]
  dsimp only
  have pl1 : t1.plain = true := epl.trans R.pl
  first
    | (refine wpAny_bind ?_; refine wp_if_pos pl1 ?_; refine hashBy_tup hx ?_)
    | refine wp_if_pos pl1 (wpAny_bind (hashBy_tup hx ?_))
  simp only [if_true]
  have epos : p = SetTable.below t.place (way t.mask (thash P w k) K) := (congrArg Prod.snd ep1).symm
  have pm := put_perm L p (x, k)
  have ent1 : (SetTable.insertAt es p (thash P w k, Value.ref x)).toList = rowsOf P w (L.take p ++ (x, k) :: L.drop p) := by
    rw [SetTable.toList_insertAt, rows_put, R.ent]
  have T2 : TabF t1 ((L.take p ++ (x, k) :: L.drop p).map fun p => thash P w p.2) := by
    rw [List.map_append, List.map_cons, List.map_take, List.map_drop]
    exact T1
  rw [List.length_map] at ef
  generalize SetTable.insertAt es p (thash P w k, Value.ref x) = es1 at ent1 ⊢
  generalize L.take p ++ (x, k) :: L.drop p = L1 at pm ent1 T2
  have l1 : L1.length = L.length + 1 := pm.length_eq
  have nod1 : (L1.map (·.2)).Nodup := (pm.map (·.2)).nodup_iff.mpr (List.nodup_cons.mpr ⟨hm, R.nod⟩)
  have key1 : ∀ q ∈ L1, KeyP q.2 := fun q hq => by
    rcases List.mem_cons.mp (pm.mem_iff.mp hq) with e | hq
    · rw [e]
      exact hk
    · exact R.key q hq
  have esz1 : es1.size = L1.length := by
    have e := congrArg List.length ent1
    have z : es1.toList.length = es1.size := rfl
    rw [z] at e
    rw [e]
    simp [rowsOf]
  refine wpAny_bind (wpAny_storeSet_of ho hd ?_ (by rw [esz1]; omega))
  have sb : Heap.SameBut a s.heap (s.heap.update a (Obj.putSet es1 t1)) := Heap.SameBut.update ..
  have ho1 := store_at (es' := es1) (t' := t1) ho hd
  generalize s.heap.update a (Obj.putSet es1 t1) = h1 at sb ho1 ⊢
  have led1 : w.params.followText "set-order" = true ∨ t1.led = true := by
    rw [el]
    exact R.led
  have hroom := R.room
  have esz := R.sz
  by_cases hf : t1.tooFull = true
  · have full : (L.length + 1) * 5 ≥ t.mask * 3 := by
      have z := hf
      unfold SetTable.tooFull at z
      rw [decide_eq_true_eq, ef, em] at z
      exact z
    have go : ∀ M, SetTable.sizeAbove (SetTable.grown (es.size + 1)) - 1 = M → FullM M → SetTable.sizeAbove (SetTable.grown (es.size + 1)) ≤ 8192 → (L.length + 1) * 5 < M * 3 →
        wpAny (model P w) A (setRelay a (SetTable.grown (es.size + 1))) (fun _ s' => wpAny (model P w) A (pure true) Q E s') E { s with heap := h1 } := fun M g1 g2 g3 g4 => by
      refine relay_one (s := { s with heap := h1 }) ho1 ⟨hex.1, hex.2.1, hex.2.2⟩ rfl ent1 (by rw [T2.cnt, List.length_map]) T2.nod (by rw [em]; omega) nod1 key1 pl1 led1 (by omega) g1 g2 g3 (by rw [l1]; exact g4) ?_
      intro h2 L2 es2 ep2 t2 sb2 R2 pm2
      exact wpAny_pure (hQ true h2 L2 es2 ep2 t2 (sb.trans sb2) R2 (fun z => absurd z hm) fun _ => pm2.trans pm)
    have main : wpAny (model P w) A (setRelay a (SetTable.grown (es.size + 1))) (fun _ s' => wpAny (model P w) A (pure true) Q E s') E { s with heap := h1 } := by
      rcases R.tab.full.one with e | e | e | e | e | e
      · rw [e] at full hroom
        have e2 : es.size + 1 = 5 := by omega
        exact go 31 (by rw [e2, grow5]) full31 (by rw [e2, grow5]; decide) (by omega)
      · rw [e] at full hroom
        have e2 : es.size + 1 = 19 := by omega
        exact go 127 (by rw [e2, grow19]) full127 (by rw [e2, grow19]; decide) (by omega)
      · rw [e] at full hroom
        have e2 : es.size + 1 = 77 := by omega
        exact go 511 (by rw [e2, grow77]) full511 (by rw [e2, grow77]; decide) (by omega)
      · rw [e] at full hroom
        have e2 : es.size + 1 = 307 := by omega
        exact go 2047 (by rw [e2, grow307]) full2047 (by rw [e2, grow307]; decide) (by omega)
      · rw [e] at full hroom
        have e2 : es.size + 1 = 1229 := by omega
        exact go 8191 (by rw [e2, grow1229]) full8191 (by rw [e2, grow1229]; decide) (by omega)
      · rw [e] at full
        omega
    first
      | (refine wpAny_bind ?_; refine wp_if_pos (by simp [hf]) ?_; exact main)
      | (refine wp_if_pos (by simp [hf]) ?_; exact wpAny_bind main)
  · have hroom1 : L1.length * 5 < t1.mask * 3 := by
      have z := hf
      unfold SetTable.tooFull at z
      rw [decide_eq_true_eq, ef] at z
      omega
    have fin : wpAny (model P w) A (pure true) Q E { s with heap := h1 } :=
      wpAny_pure (hQ true h1 L1 es1 (ep + 1) t1 sb ⟨⟨_, ho1, ⟨hex.1, hex.2.1, hex.2.2⟩, rfl⟩, ent1, T2, nod1, key1, pl1, led1, hroom1, by omega⟩ (fun z => absurd z hm) fun _ => pm)
    first
      | (refine wp_if_neg (by simp [hf]) ?_; exact fin)
      | (refine wpAny_bind ?_; refine wp_if_neg (by simp [hf]) ?_; exact wpAny_pure fin)
/-- whether it is there -/
theorem there_one (R : SetF P w s.heap a L es ep t) (tup : ∀ p ∈ L, IsT P w s.heap p.2 p.1) {x : Addr} {k : List Int} (hx : IsT P w s.heap k x) (hk : KeyP k) (hu : A.units < cLine) {Q : Option Nat → Shared → Prop}
    (hQ : ∀ r : Option Nat, (r.isSome = true ↔ k ∈ L.map (·.2)) → Q r s) : wpAny (model P w) A (setFind a (.ref x) (thash P w k)) Q E s := by
  obtain ⟨o, ho, hex, hd⟩ := R.obj
  unfold setFind
  rw [show (100000 : Nat) = 99999 + 1 from rfl]
  unfold setFindIn
  refine wpAny_bind (wpAny_setState_of ho hd R.fit ?_)
  dsimp only
  refine wp_if_neg (by simp [byScan, Value.scannable]) ?_
  try refine wpAny_bind (wpAny_pure ?_)
  refine wpAny_bind (look_for R tup hx hk hu false (fun i hm => ?_) fun K hm hK hb => ?_)
  · exact wpAny_pure (hQ _ ⟨fun _ => hm, fun _ => rfl⟩)
  · exact wpAny_pure (hQ none ⟨fun e => (nomatch e), fun e => absurd e hm⟩)
end
end Nf

set_option Elab.async false
set_option linter.all false
set_option maxRecDepth 100000
set_option maxHeartbeats 4000000
namespace Nf
open PySem PySem.Spec PyProof.Rows L2
/-! ### sets of pairs, as things of the layer -/
def SetPO (P : Program) (w : World) (a : Addr) (L : List (Addr × List Int)) : HO := .ext fun h => ∃ es ep t, SetF P w h a L es ep t
theorem SetF.move {P : Program} {w : World} {h h2 : Heap} {a : Addr} {L : List (Addr × List Int)} {es : Array (Int × Value)} {ep : Nat} {t : SetTable} (R : SetF P w h a L es ep t) (k : ∀ o, h.get? a = some o → h2.get? a = some o) : SetF P w h2 a L es ep t := by
  obtain ⟨o, ho, q⟩ := R.obj
  exact ⟨⟨o, k o ho, q⟩, R.ent, R.tab, R.nod, R.key, R.pl, R.led, R.room, R.few⟩
theorem setPO_ok {P : Program} {w : World} {H : Hp} {h : Heap} {a : Addr} {L : List (Addr × List Int)} (R : ∃ es ep t, SetF P w h a L es ep t) : ObjOk P w H h a (SetPO P w a L) := by
  refine ⟨R, ?_, fun h1 h2 ⟨es, ep, t, p⟩ k => ⟨es, ep, t, p.move k⟩⟩
  obtain ⟨es, ep, t, R⟩ := R
  obtain ⟨o, ho, _⟩ := R.obj
  exact ⟨o, ho⟩
section
variable {X : Cx}
theorem setPO_get {pins : List (Addr × Obj)} {σ : L2.St} {H : Hp} {s : Shared} {a : Addr} {L : List (Addr × List Int)} (I : Inv X pins σ H s) (ha : H a = some (SetPO X.prog X.w a L)) : ∃ es ep t, SetF X.prog X.w s.heap a L es ep t := (I.hok a _ ha).1
/-- set() -/
def rSet0P (P : Program) (w : World) : List V → Hp → VK → Prop := fun xs H Q => xs = [] ∧ ∀ p, H p = none → Q (.ref p) (upd H p (SetPO P w p []))
theorem cr_set0P : CallR X (.type "set") (rSet0P X.prog X.w) := by
  intro pins s σ H xs us Q I r h
  obtain ⟨rfl, q⟩ := h
  cases r
  refine setR_new fun _ => ?_
  have hobj : (s.heap.push { cls := .type "set", dict := none, data := .set #[] 0 (.fresh 0 0 (!X.w.params.followText "set-order")) }).get? s.heap.objs.size = some { cls := .type "set", dict := none, data := .set #[] 0 (.fresh 0 0 (!X.w.params.followText "set-order")) } := Heap.get?_push_size _ rfl
  have R : SetF X.prog X.w (s.heap.push { cls := .type "set", dict := none, data := .set #[] 0 (.fresh 0 0 (!X.w.params.followText "set-order")) }) s.heap.objs.size [] #[] 0 (.fresh 0 0 (!X.w.params.followText "set-order")) := by
    refine ⟨⟨_, hobj, ⟨rfl, rfl, rfl⟩, rfl⟩, rfl, ⟨List.Pairwise.nil, rfl, rfl, full7, fun x hx => (by cases hx), fun i h j hi => (by simp at hi)⟩, List.nodup_nil, fun p hp => (by cases hp), rfl, ?_, (by show 0 * 5 < 7 * 3; decide), Nat.zero_le _⟩
    cases z : X.w.params.followText "set-order" with
    | true => exact .inl rfl
    | false => exact .inr rfl
  exact ⟨.ref _, upd H s.heap.objs.size (SetPO X.prog X.w s.heap.objs.size []), I.laid (t' := s.toks) (fun b u e => Heap.get?_push_of_some _ e) (Nat.le_refl _) (setPO_ok ⟨_, _, _, R⟩), rfl, q _ (I.hok.fresh (Nat.le_refl _))⟩
/-- d.add(pair) -/
def rAddP (K : PySem.W.Frag) (P : Program) (w : World) : V → List V → Hp → VK → Prop := fun x xs H Q => ∃ (d T : Addr) (k : List Int) (L : List (Addr × List Int)), x = .ref d ∧ xs = [.ref T] ∧ H d = some (SetPO P w d L) ∧ (∀ p ∈ L, SqT K H p.1 (p.2.map V.int)) ∧ SqT K H T (k.map V.int) ∧ KeyP k ∧ L.length + 1 ≤ 4800 ∧
  ∀ L2, (k ∈ L.map (·.2) → L2 = L) → (k ∉ L.map (·.2) → L2.Perm ((T, k) :: L)) → Q .non (upd H d (SetPO P w d L2))
theorem mt_addP (hu : X.A.units + 64 < cLine) : MtR X "set.add" (rAddP X.K X.prog X.w) := by
  intro pins s σ H x xs v us Q I rx rxs h
  obtain ⟨d, T, k, L, rfl, rfl, hd, hL, hT, hk, hf, q⟩ := h
  cases rx
  rw [Vals.ref1 rxs]
  obtain ⟨es, ep, t, R⟩ := setPO_get I hd
  have hx := I.isT hT
  obtain ⟨o, ho, hex, hdat⟩ := R.obj
  refine wpAny_call_entry F.slot_set_add ⟨o, ho, hex.1⟩ F.entry_set_add ?_ (F.args_set_add_2 _ _)
  unfold Builtin.«set.add» Builtin.Frozenset.oneOther
  simp only [List.isEmpty_nil, bind_assoc]
  unfold Builtin.Frozenset.addrOf setAdd
  refine wpAny_bind (wpAny_pure ?_)
  try dsimp only
  refine wpAny_bind (wpAny_pure ?_)
  try dsimp only
  refine wpAny_bind (wpAny_holding (wpAny_bind (wpAny_pyHash_tuple (by show _ < _; first | exact Nat.lt_of_le_of_lt (Nat.le_add_right _ _) hu | (show X.A.units + 1 < cLine; omega)) hx ?_)))
  refine add_one (s := { s with toks := s.toks + (k.length + 1) }) R (fun p hp => I.isT (hL p hp)) hx hk (by show _ < _; first | exact Nat.lt_of_le_of_lt (Nat.le_add_right _ _) hu | (show X.A.units + 1 < cLine; omega)) hf fun b h2 L2 es2 ep2 t2 sb R2 e1 e2 => ?_
  show wpAny _ _ (ret Value.none) _ _ _
  have he : ∃ u, h2.get? d = some u := let ⟨o2, ho2, _⟩ := R2.obj; ⟨o2, ho2⟩
  exact wpAny_pure ⟨_, rfl, .non, upd H d (SetPO X.prog X.w d L2), I.write (e := d) (t' := s.toks + (k.length + 1)) (by rw [hd]; trivial) (.inl rfl) (fun b u hb hu => (sb.2 b hb).trans hu) he (setPO_ok ⟨_, _, _, R2⟩), rfl, q L2 e1 e2⟩
def tAddP (K : PySem.W.Frag) (P : Program) (w : World) (to : TE) (t : TA) : TE := fun σ H Q => to σ H fun x H1 => (∃ d L, x = V.ref d ∧ H1 d = some (SetPO P w d L)) ∧ t σ H1 fun xs H2 => rAddP K P w x xs H2 Q
variable {o e : Expr} {es : List Expr} {to : TE} {t : TA} {apos cpos : Pos}
theorem pe_addP (hu : X.A.units + 64 < cLine) (ho : PE X o to) (ha : PA X (e :: es) t) (hb : attributeBase o "add" X.env (eval o X.env) = eval o X.env := by rfl)
    (hf : ((backTo cpos (starEach (e :: es) X.env)).all (fun x => !x.1) && (backToKw cpos (keywordEach [] X.env)).all (fun x => x.1.isSome) && decide ((e :: es).length + ([] : List Keyword).length + (if ([] : List Keyword).isEmpty then 0 else 1) < 30)) = true := by rfl)
    (hl : (apos.endLine == cpos.line) = true := by rfl) (hs : starEach (e :: es) X.env = (false, eval e X.env) :: starEach es X.env := by rfl) (hp : (backTo cpos (starEach es X.env)).any (·.1) = false := by rfl) :
    PE X (.Call (.Attribute o "add" apos) (e :: es) [] cpos) (tAddP X.K X.prog X.w to t) := by
  refine ⟨fun pins s σ H Q I h => wpAny_Call_method_late hb hf hl rfl (thn (ho.run pins s σ H _ I h) fun v s1 z => ?_)⟩
  obtain ⟨x, H1, I1, r1, ⟨d, L, ex, hd⟩, q1⟩ := z
  subst ex
  cases r1
  obtain ⟨es1, ep1, t1, R⟩ := setPO_get I1 hd
  obtain ⟨ob, hob, hex, _⟩ := R.obj
  have nd : ∀ b, Value.ref d = .ref b → ∃ ob, s1.heap.get? b = some ob ∧ ob.dict = none := fun b e => by
    cases e
    exact ⟨ob, hob, hex.2.1⟩
  have hA := ha.run cpos pins s1 σ H1 _ I1 q1
  rw [hs] at hA
  refine ⟨"set", "set.add", F.plainAttrs_set, F.slot_set_add, F.type_set_add, ⟨ob, hob, hex.1⟩, nd, ?_⟩
  rw [hs]
  refine Calls.callWith_builtin (by
    show (false || (backTo cpos (starEach es X.env)).any (·.1)) = false
    rw [hp]
    rfl) (Calls.evalArgs_plain (thn hA fun us s2 z => ?_))
  obtain ⟨vs, H2, I2, r2, q2⟩ := z
  exact mt_addP hu pins s2 σ H2 (.ref d) vs (.ref d) us Q I2 rfl r2 q2
/-- pair in d -/
def rInP (K : PySem.W.Frag) (P : Program) (w : World) : R2 := fun x y H Q => ∃ (d T : Addr) (k : List Int) (L : List (Addr × List Int)), x = .ref T ∧ y = .ref d ∧ H d = some (SetPO P w d L) ∧ (∀ p ∈ L, SqT K H p.1 (p.2.map V.int)) ∧ SqT K H T (k.map V.int) ∧ KeyP k ∧ ∀ b : Bool, (b = true ↔ k ∈ L.map (·.2)) → Q (.bl b) H
theorem op_inP (hu : X.A.units + 64 < cLine) : OpR X (compareOp .In) (rInP X.K X.prog X.w) := by
  intro pins s σ H x y v u Q I rx ry h
  obtain ⟨d, T, k, L, rfl, rfl, hd, hL, hT, hk, q⟩ := h
  cases rx
  cases ry
  obtain ⟨es, ep, t, R⟩ := setPO_get I hd
  have hx := I.isT hT
  obtain ⟨o, ho, hex, hdat⟩ := R.obj
  have ty : s.TypeIs (.ref d) "set" := ⟨o, ho, hex.1⟩
  show wpAny _ _ (do return Value.bool (← contains (.ref d) (.ref T))) _ _ s
  refine wpAny_bind ?_
  unfold contains
  try with_reducible refine wpAny_holding ?_
  refine wpAny_bind (wpAny_specialOf ty F.slot_set_contains.lookup ?_)
  show wpAny _ _ (if (some (Value.builtin "set.__contains__") == some Value.none) = true then _ else _) _ _ s
  rw [if_neg (by rw [beq_builtin_none]; exact Bool.false_ne_true)]
  refine wpAny_bind (wpAny_callSpecialUnlessNone?_slot (name := Str.ofString "__contains__") ty F.slot_set_contains (wpAny_call_entry F.slot_set_contains ty entry_set_contains ?_ (F.args_set_contains_2 _ _)))
  unfold Builtin.«frozenset.__contains__» Builtin.Frozenset.oneOther
  simp only [List.isEmpty_nil, bind_assoc]
  unfold Builtin.Frozenset.addrOf Builtin.Frozenset.withSetAsKey setContains
  refine wpAny_bind (wpAny_pure ?_)
  try dsimp only
  refine wpAny_bind (wpAny_pure ?_)
  try dsimp only
  refine wpAny_bind (wpAny_tryCatch (wpAny_holding (wpAny_bind (wpAny_pyHash_tuple (by show _ < _; first | exact Nat.lt_of_le_of_lt (Nat.le_add_right _ _) hu | (show X.A.units + 1 < cLine; omega)) hx ?_))))
  refine wpAny_bind (there_one (s := { s with toks := s.toks + (k.length + 1) }) R (fun p hp => I.isT (hL p hp)) hx hk (by show _ < _; first | exact Nat.lt_of_le_of_lt (Nat.le_add_right _ _) hu | (show X.A.units + 1 < cLine; omega)) fun r hr => ?_)
  refine wpAny_pure ?_
  show wpAny _ _ (ret (Value.bool r.isSome)) _ _ _
  exact wpAny_pure ⟨_, rfl, wpAny_truthy_bool (wpAny_pure ⟨.bl r.isSome, H, I.tok _, rfl, q _ hr⟩)⟩
end
end Nf

set_option Elab.async false
set_option linter.all false
set_option maxRecDepth 100000
set_option maxHeartbeats 4000000
namespace Nf
open PySem PySem.Spec PyProof.Rows L2
variable {P : Program} {w : World} {K : PySem.W.Frag} {mg : Str → Option Value} {base : Heap}
/-! ### how many rounds a turning tells: the mathematics -/
def oldM (tn : List Int) (r : Rnd) (k : Nat) : List (Int × Int) := (List.range k).flatMap fun i => pairsR (powM tn r i)
theorem oldM_succ (tn : List Int) (r : Rnd) (k : Nat) : oldM tn r (k + 1) = oldM tn r k ++ pairsR (powM tn r k) := by
  unfold oldM
  rw [List.range_succ, List.flatMap_append]
  simp
def FreshM (tn : List Int) (r : Rnd) (k : Nat) : Prop := ∀ p ∈ pairsR (powM tn r k), p ∉ oldM tn r k
def IsTurns (tn : List Int) (r : Rnd) (n : Nat) : Prop := (pairsR r = [] ∧ n = 0) ∨ (pairsR r ≠ [] ∧ (∀ k, k < n → FreshM tn r k) ∧ ¬ FreshM tn r n)
theorem IsTurns.unique {tn : List Int} {r : Rnd} {n m : Nat} (h : IsTurns tn r n) (h' : IsTurns tn r m) : n = m := by
  rcases h with ⟨a, b⟩ | ⟨a, b, c⟩
  · rcases h' with ⟨a', b'⟩ | ⟨a', _⟩
    · rw [b, b']
    · exact absurd a a'
  · rcases h' with ⟨a', _⟩ | ⟨a', b', c'⟩
    · exact absurd a' a
    · rcases Nat.lt_trichotomy n m with z | z | z
      · exact absurd (b' n z) c
      · exact z
      · exact absurd (b m z) c'
theorem pow_round {g : Nat} {s : Int} {r : Rnd} {tn : List Int} (hR : IsRound g s r) (hp : tn.Perm (rangeI g)) : ∀ k, IsRound g s (powM tn r k)
  | 0 => hR
  | k + 1 => moved_round (pow_round hR hp k) hp
theorem pairsT_nil {t : Tbl} : pairsT t = [] ↔ t.length ≤ 1 := by
  cases t with
  | nil => simp [pairsT]
  | cons x t =>
    cases t with
    | nil => simp [pairsT]
    | cons y t => simp [pairsT]
theorem pairsR_nil {r : Rnd} : pairsR r = [] ↔ ∀ t ∈ r, t.length ≤ 1 := by
  unfold pairsR
  rw [List.flatMap_eq_nil_iff]
  exact ⟨fun h t ht => pairsT_nil.mp (h t ht), fun h t ht => pairsT_nil.mpr (h t ht)⟩
theorem moved_nil {tn : List Int} {r : Rnd} (h : pairsR r ≠ []) : pairsR (movedM tn r) ≠ [] := fun e => h (pairsR_nil.mpr fun t ht => by
  have := pairsR_nil.mp e (movedT tn t) (mem_moved.mpr ⟨t, ht, rfl⟩)
  rwa [movedT_len] at this)
theorem pow_nil {tn : List Int} {r : Rnd} (h : pairsR r ≠ []) : ∀ k, pairsR (powM tn r k) ≠ []
  | 0 => h
  | k + 1 => moved_nil (pow_nil h k)
theorem moved_none {tn : List Int} {r : Rnd} (h : pairsR r = []) : pairsR (movedM tn r) = [] := pairsR_nil.mpr fun t ht => by
  obtain ⟨u, hu, rfl⟩ := mem_moved.mp ht
  rw [movedT_len]
  exact pairsR_nil.mp h u hu
theorem pow_none {tn : List Int} {r : Rnd} (h : pairsR r = []) : ∀ k, pairsR (powM tn r k) = []
  | 0 => h
  | k + 1 => moved_none (pow_none h k)
theorem pairL_len : pairL.length = 2016 := by decide +kernel
def pairLI : List (Int × Int) := pairL.map fun p => ((p.1 : Int), (p.2 : Int))
theorem mem_pairLI {p : Int × Int} (h : PairOk p) : p ∈ pairLI := by
  obtain ⟨h1, h2, h3⟩ := h
  obtain ⟨a, b⟩ := p
  simp only at h1 h2 h3
  refine List.mem_map.mpr ⟨(a.toNat, b.toNat), mem_pairL (by omega) (by omega), ?_⟩
  simp only [Prod.mk.injEq]
  omega
theorem nodup_le {α : Type} [DecidableEq α] : ∀ {l m : List α}, l.Nodup → (∀ x ∈ l, x ∈ m) → l.length ≤ m.length
  | [], _, _, _ => Nat.zero_le _
  | a :: l, m, hn, hs => by
    obtain ⟨h1, h2⟩ := List.nodup_cons.mp hn
    have ha : a ∈ m := hs a (by simp)
    have ih := nodup_le (l := l) (m := m.erase a) h2 fun y hy => (List.mem_erase_of_ne (fun z => h1 (by rw [← z]; exact hy))).mpr (hs y (by simp [hy]))
    rw [List.length_erase_of_mem ha] at ih
    have : 0 < m.length := List.length_pos_of_mem ha
    rw [List.length_cons]
    omega
theorem knS_fit {H : Hp} {d : Addr} {ps : List (Int × Int)} {N : Nat} (h : KnS H d ps N) : KnS H d ps ps.length := by
  obtain ⟨kvs, hd, hl, hv, ks, hk, hn⟩ := h
  refine ⟨kvs, hd, ?_, hv, ks, hk, hn⟩
  have e : kvs.length = ks.length := by
    have := congrArg List.length hk
    rwa [List.length_map, List.length_map] at this
  rw [e]
  refine nodup_le hn fun p hp => ?_
  rw [← hv p.1 p.2]
  have m : key2 p ∈ kvs.map (·.1) := by
    rw [hk]
    exact mem_key2.mpr hp
  have e2 := (anyKey kvs (key2 p)).mpr m
  rw [valV_any] at e2
  exact e2
theorem old_nodup {g : Nat} {s : Int} {r : Rnd} {tn : List Int} (hR : IsRound g s r) (hp : tn.Perm (rangeI g)) : ∀ k, (∀ i, i < k → FreshM tn r i) → (oldM tn r k).Nodup
  | 0, _ => by simp [oldM]
  | k + 1, h => by
    rw [oldM_succ]
    refine List.nodup_append.mpr ⟨old_nodup hR hp k fun i hi => h i (by omega), pairsR_nodup (pow_round hR hp k), fun a ha b hb e => ?_⟩
    subst e
    exact h k (Nat.lt_succ_self k) a hb ha
theorem old_ok {g : Nat} {s : Int} {r : Rnd} {tn : List Int} (hR : IsRound g s r) (hp : tn.Perm (rangeI g)) (hg : g ≤ 64) {k : Nat} : ∀ p ∈ oldM tn r k, PairOk p := fun p h => by
  obtain ⟨i, _, hi⟩ := List.mem_flatMap.mp h
  have := (pow_round hR hp i).pair p hi
  exact ⟨this.1, this.2.1, by omega⟩
theorem old_len {g : Nat} {s : Int} {r : Rnd} {tn : List Int} (hR : IsRound g s r) (hp : tn.Perm (rangeI g)) (hg : g ≤ 64) (hn : pairsR r ≠ []) {k : Nat} (h : ∀ i, i < k → FreshM tn r i) : k ≤ (oldM tn r k).length ∧ (oldM tn r k).length ≤ 2016 := by
  refine ⟨?_, ?_⟩
  · have : ∀ k, k ≤ (oldM tn r k).length := fun k => by
      induction k with
      | zero => exact Nat.zero_le _
      | succ k ih =>
        have := List.length_pos_iff.mpr (pow_nil (tn := tn) hn k)
        rw [oldM_succ, List.length_append]
        omega
    exact this k
  · have := nodup_le (m := pairLI) (old_nodup hR hp k h) fun p hq => mem_pairLI (old_ok hR hp hg p hq)
    have e : pairLI.length = 2016 := by
      unfold pairLI
      rw [List.length_map, pairL_len]
    omega
/-! the law's own count -/
theorem scManyTurns : FnScope ["_law_tables", "_law_turning_here", "_law_known_here", "_law_found", "_law_pair"] ["_law_tables", "_law_turning_here"] (defScope lManyTurns) := ⟨rfl, rfl, rfl, by decide +kernel, rfl, by decide +kernel, by decide +kernel⟩
def spManyTurns (K : PySem.W.Frag) : Sp := fun vs H Q _ => ∃ (x : V) (l : Addr) (g : Nat) (s : Int) (r : Rnd) (tn : List Int), vs = [x, .ref l] ∧ IsParty g s ∧ RndV H x r ∧ IsRound g s r ∧ SqL K H l (tn.map V.int) ∧ tn.Perm (rangeI g) ∧
  ∀ n H', Same H H' → IsTurns tn r n → Q (.int (n : Nat)) H'
def ManyW (H : Hp) (d l : Addr) (tn : List Int) (r : Rnd) (m : Nat) (σ : L2.St) (H2 : Hp) : Prop := ∃ (k : Nat) (x : V) (y : Option V), m + k = 3000 ∧ σ = [some x, some (.ref l), some (.ref d), some (.int (k : Nat)), y] ∧ Same H H2 ∧ RndV H2 x (powM tn r k) ∧ KnS H2 d (oldM tn r k) (oldM tn r k).length ∧ (∀ i, i < k → FreshM tn r i) ∧ (0 < k → pairsR r ≠ [])
theorem ok_manyTurns {f fP fK fM : Addr} {fd fdP fdK fdM : FuncData} (F : Fun K "_law_many_turns" "_law_many_turns" lManyTurns f fd) (B : Blt mg)
    (FP : Fun K "_law_pairs" "_law_pairs" lPairs fP fdP) (bP : Binds K fdP ["_law_tables"] []) (gP : mg "_law_pairs" = some (.ref fP))
    (FK : Fun K "_law_known" "_law_known" lKnown fK fdK) (bK : Binds K fdK ["_law_plan"] []) (gK : mg "_law_known" = some (.ref fK))
    (FM : Fun K "_law_moved" "_law_moved" lMoved fM fdM) (bM : Binds K fdM ["_law_tables", "_law_turning_here"] []) (gM : mg "_law_moved" = some (.ref fM)) :
    FnOk P w K mg base CX0 3 f fd ["_law_tables", "_law_turning_here"] (spManyTurns K) := by
  have GP : FnOk P w K mg base CX0 1 fP fdP ["_law_tables"] spLPairs := ok_lpairs FP B
  have GK : FnOk P w K mg base CX0 2 fK fdK ["_law_plan"] (spLKnown K) := ok_lknown FK B FP bP gP
  have GM : FnOk P w K mg base CX0 1 fM fdM ["_law_tables", "_law_turning_here"] (spMoved K) := ok_moved FM B
  refine F.ok scManyTurns (fun vs H Q E h => ?_) (fun cdv A outer s H vs Q E hr h => ?_)
  · obtain ⟨x, l, g, s, r, tn, rfl, _⟩ := h
    rfl
  · obtain ⟨x0, l, g, z, r, tn, rfl, hI, hx0, hR, hl, hperm, q⟩ := h
    have hr1 : Room 1 _ := hr.mono (by decide)
    have hu := hu_of hr
    refine ⟨_, pss_cons (ps_set (i := 2) scManyTurns.nd rfl (by first | exact .inl rfl | exact .inr rfl) pe_dnewT)
      (pss_cons (ps_set (i := 3) scManyTurns.nd rfl (by first | exact .inl rfl | exact .inr rfl) pe_int)
      (pss_cons (ps_while PassesOwn.never (PW.pt (pw_and (pt_cmpR (op_neD hr.units) (pe_call GP hr1 (by rfl) gP FP.kp bP .nil pass0 (pa_cons (pv 0) pa_nil)) (pe_lst pa_nil) (nomark _))
          (pw_and1 (pt_cmpR (op_eqD hr.units) (pe_lc (own := [("_law_pair", 4)]) (g := gName 4) (tt := tB (tDIn (tVar 4) (tVar 2))) (te := tVar 4) (by rfl) scManyTurns.nd (pi_list (pe_call GP hr1 (by rfl) gP FP.kp bP .nil pass0 (pa_cons (pv 0) pa_nil)))
            (blkOk_by (N := ["_law_tables", "_law_turning_here", "_law_known_here", "_law_found", "_law_pair"]) (sc := defScope lManyTurns) (by decide +kernel)) (fun _ _ _ _ _ => pg_name (i := 4) (x := "_law_pair") scManyTurns.nd rfl (.inl rfl) (.inr rfl))
            (fun _ _ _ _ _ => pts_one (pt_cmp (pc_din hu (pv 4) (pv 2)))) (fun _ _ _ _ _ => pv 4)) (pe_lst pa_nil) (nomark _)))))
        (pss_cons (ps_expr (pe_bm PySem.F.plainAttrs_dict PySem.F.slot_dict_update PySem.F.type_dict_update (mt_updT hu) (pv 2) (pa_cons (pe_call GK hr (by rfl) gK FK.kp bK .nil pass0 (pa_cons (pe_lst (pa_cons (pv 0) pa_nil)) pa_nil)) pa_nil)))
        (pss_cons (ps_set (i := 3) scManyTurns.nd rfl (by first | exact .inl rfl | exact .inr rfl) (pe_op op_add (pv 3) pe_int))
        (pss_one (ps_set (i := 0) scManyTurns.nd rfl (by first | exact .inl rfl | exact .inr rfl) (pe_call GM hr1 (by rfl) gM FM.kp bM .nil pass0 (pa_cons (pv 0) (pa_cons (pv 1) pa_nil))))))))
      (pss_one (ps_ret (pv 3))))), ?_⟩
    have big : (5000000 : Nat) < sizeLine := by decide
    intro d nd
    have s0 : Same H (upd H d (.dT [])) := same_new nd
    refine ⟨ManyW H d l tn r, ⟨3000, 0, x0, none, rfl, rfl, s0, hx0.mono (same_toT s0), ⟨[], upd_same, Nat.zero_le _, fun a b => by simp [valV, oldM], [], rfl, .nil⟩, fun i hi => by omega, fun h => by omega⟩, fun m σ H2 hW => ?_⟩
    obtain ⟨k, x, y, hmk, rfl, sm, hx, hK, hfr, hne⟩ := hW
    have hRk := pow_round hR hperm k
    obtain ⟨hp1, hp2, hp3⟩ := good_small hI hRk
    have hg64 : g ≤ 64 := by have := hI.g64; omega
    refine ⟨x, rfl, x, _, rfl, hx, by omega, hp3, fun H3 u ys s3 nu hu3 hys => ?_⟩
    refine ⟨Nat.zero_le _, fun e ne => ?_⟩
    have s4 : Same H3 (upd H3 e (.lst [])) := same_new ne
    refine ⟨.list ((pairsR (powM tn r k)).map dP), .list [], .lst (SqL.of (s4 _ _ hu3)) (dpAll_of (fun _ _ z => dp_pair z) (paired_mono (fun _ _ z => z.mono (same_toT s4)) hys)), .lst (SqL.of upd_same) .nil, shPairs _, shNil, _, rfl, ?_⟩
    rw [eqv_nilP]
    have sm4 := sm.trans (s3.trans s4)
    have s24 := s3.trans s4
    generalize (upd H3 e (.lst [])) = H4 at s4 sm4 s24 ⊢
    by_cases hpe : pairsR (powM tn r k) = []
    · rw [hpe]
      refine iteF (iteF ?_)
      have hr : pairsR r = [] := Classical.byContradiction fun z => pow_nil z k hpe
      have ek : k = 0 := Classical.byContradiction fun z => hne (by omega) hr
      exact ⟨.int (k : Nat), rfl, q k H4 sm4 (.inl ⟨hr, ek⟩)⟩
    have hpe2 : (pairsR (powM tn r k)).isEmpty = false := by
      cases h : pairsR (powM tn r k) with
      | nil => exact absurd h hpe
      | cons _ _ => rfl
    rw [hpe2]
    have hr : pairsR r ≠ [] := fun z => hpe (pow_none z k)
    refine iteT ?_
    -- no pair of this round is known yet
    refine ⟨x, rfl, x, _, rfl, hx.mono (same_toT s24), by omega, hp3, fun H5 u2 ys2 s5 nu2 hu5 hys2 => ?_⟩
    have sm5 := sm4.trans s5
    have hK5 := knS_same hK (s24.trans s5)
    refine ⟨u2, rfl, ⟨_, SqL.of hu5⟩, fun D nD => ?_⟩
    have s6 : Same H5 (upd H5 D (.lst [])) := same_new nD
    have hyl := paired_len hys2
    refine lc_it (walk_list (xs := ys2)) (fun i H6 => Same H5 H6 ∧ ∃ acc ps, H6 D = some (.lst acc) ∧ Paired (PairV H6) acc ps ∧ ps.length ≤ i ∧ (ps = [] ↔ ∀ p ∈ (pairsR (powM tn r k)).take i, p ∉ oldM tn r k)) ⟨s6, [], [], upd_same, .nil, Nat.le_refl _, by simp⟩ (fun i H6 _ p => SqL.of (p.1 _ _ hu5)) (fun i v H6 H7 hi hI2 y => ?_) (fun H6 hI2 => ?_)
    · obtain ⟨rfl, hv⟩ := y
      obtain ⟨sm6, acc, ps, hD, hps, hle, he⟩ := hI2
      obtain ⟨⟨a, b⟩, hab, T, rfl, hT⟩ := paired_getL hys2 hv
      have hT6 := sm6 _ _ hT
      obtain ⟨kvs, hd, hkl, hkv, _⟩ := knS_same hK5 sm6
      have etake := takeSucc hab
      refine ⟨wipe_put (by decide), ?_⟩
      refine ⟨.ref T, rfl, .ref d, rfl, d, _, rfl, DGet.t (k := [Sum.inl a, Sum.inl b]) hd hT6, _, rfl, ite2 (fun hc => ?_) (fun hc => ?_)⟩
      · refine ⟨.ref T, rfl, acc, hD, ?_, same_put sm6 nD, acc ++ [.ref T], ps ++ [(a, b)], upd_same, ?_, ?_, ?_⟩
        · have := paired_len hps
          omega
        · have keepP : ∀ {v : V} {pr : Int × Int}, PairV H7 v pr → PairV (upd H7 D (.lst (acc ++ [.ref T]))) v pr := fun {v pr} h => by
            obtain ⟨c, rfl, hc⟩ := h
            exact ⟨c, rfl, by rw [upd_ne (ne_of hc hD (by intro e; cases e))]; exact hc⟩
          exact paired_snoc (paired_mono (fun _ _ h => keepP h) hps) (keepP ⟨T, rfl, hT6⟩)
        · rw [List.length_append, List.length_singleton]
          omega
        · refine ⟨fun e => by simp at e, fun e => ?_⟩
          rw [hkv] at hc
          exact absurd hc (e (a, b) (by rw [etake]; simp))
      · refine ⟨sm6, acc, ps, hD, hps, by omega, ?_⟩
        rw [hkv] at hc
        rw [he, etake]
        constructor
        · intro h p hp
          rcases List.mem_append.mp hp with hp | hp
          · exact h p hp
          · rw [List.mem_singleton.mp hp]
            exact hc
        · exact fun h p hp => h p (List.mem_append_left _ hp)
    · obtain ⟨sm6, acc, ps, hD, hps, hle, he⟩ := hI2
      rw [hyl, List.take_of_length_le (Nat.le_refl _)] at he
      refine ⟨Nat.zero_le _, fun e2 ne2 => ?_⟩
      have s7 : Same H6 (upd H6 e2 (.lst [])) := same_new ne2
      refine ⟨.list (ps.map dP), .list [], .lst (SqL.of (s7 _ _ hD)) (dpAll_of (fun _ _ z => dp_pair z) (paired_mono (fun _ _ z => z.mono (same_toT s7)) hps)), .lst (SqL.of upd_same) .nil, shPairs _, shNil, _, rfl, ?_⟩
      rw [eqv_nilP]
      have sm7 := sm5.trans (sm6.trans s7)
      have s57 := sm6.trans s7
      generalize (upd H6 e2 (.lst [])) = H7 at s7 sm7 s57 ⊢
      by_cases hps0 : ps = []
      · rw [hps0]
        refine iteT ?_
        have hF : FreshM tn r k := he.mp hps0
        have hlen := old_len hR hperm hg64 hr (k := k + 1) (fun i hi => by
          by_cases e : i = k
          · rw [e]
            exact hF
          · exact hfr i (by omega))
        refine ⟨ManyW H d l tn r (m - 1), fun σ' H' h => ⟨m - 1, by omega, h⟩, ?_⟩
        have hx7 := hx.mono (same_toT (s24.trans (s5.trans s57)))
        have hK7 := knS_same hK5 s57
        obtain ⟨kv0, hd0, _⟩ := id hK7
        refine ⟨.ref d, rfl, .inr (.inr (.inl ⟨rfl, .inr ⟨_, hd0⟩⟩)), x, rfl, (by show 1 ≤ sizeLine; decide), fun e3 ne3 => ?_⟩
        have s8 : Same H7 (upd H7 e3 (.lst [x])) := same_new ne3
        refine ⟨e3, [powM tn r k], rfl, ⟨[x], SqL.of upd_same, .cons (hx7.mono (same_toT s8)) .nil⟩, by simp, fun r' hr' => ?_, fun H9 d2 s9 nd2 hK2 => ?_⟩
        · rw [List.mem_singleton.mp hr']
          exact ⟨hp1, hp3⟩
        have hK9 := knS_same hK7 (s8.trans s9)
        have ndd : d ≠ d2 := by
          rintro rfl
          rw [s8 _ _ hd0] at nd2
          cases nd2
        have eps : [powM tn r k].flatMap pairsR = pairsR (powM tn r k) := by simp
        rw [eps] at hK2
        dsimp only [tNil]
        refine knS_update hK9 (knS_fit hK2) ndd (fun pp hpp => ?_) (by rw [← List.length_append, ← oldM_succ]; omega) fun o hK10 => ?_
        · have := hRk.pair pp hpp
          exact ⟨this.1, this.2.1, by omega⟩
        · have sm10 : Same H (upd H9 d o) := same_put (sm7.trans (s8.trans s9)) nd
          obtain ⟨kv9, hd9, _⟩ := id hK9
          have T10 : SameT H7 (upd H9 d o) := fun a us e => by
            rw [upd_ne (ne_of ((s8.trans s9) _ _ e) hd9 (by intro z; cases z))]
            exact (s8.trans s9) _ _ e
          have hx10 := hx7.mono T10
          rw [← oldM_succ] at hK10
          have hK11 := knS_fit hK10
          generalize (upd H9 d o) = H10 at sm10 T10 hx10 hK10 hK11 ⊢
          refine ⟨.int (k : Nat), rfl, _, _, rfl, rfl, ?_⟩
          obtain ⟨d1, d2⟩ : (powM tn r k).length ≤ 1000 ∧ ∀ t ∈ powM tn r k, t ≠ [] ∧ t.length ≤ 1000 ∧ ∀ x ∈ t, 0 ≤ x ∧ x < tn.length := by
            have hln : tn.length = g := by rw [hperm.length_eq, rangeI_len]
            obtain ⟨b1, b2⟩ := round_bd hI hRk
            refine ⟨by omega, fun t ht => ⟨fun e => ?_, by have := b2 t ht; omega, fun y hy => ?_⟩⟩
            · have := (hRk.sz t ht).1
              rw [e] at this
              simp at this
            · rw [hln]
              exact hRk.lo y (List.mem_flatten.mpr ⟨t, ht, hy⟩)
          refine ⟨x, rfl, .ref l, rfl, x, l, powM tn r k, tn, rfl, hx10, sm10.seq hl, d1, d2, fun x' H11 s11 hx11 => ?_⟩
          refine ⟨k + 1, x', y, by omega, rfl, sm10.trans s11, hx11, knS_same hK11 s11, fun i hi => ?_, fun _ => hr⟩
          by_cases e : i = k
          · rw [e]
            exact hF
          · exact hfr i (by omega)
      · have hps1 : ps.isEmpty = false := by
          cases ps with
          | nil => exact absurd rfl hps0
          | cons _ _ => rfl
        rw [hps1]
        refine iteF ?_
        refine ⟨.int (k : Nat), rfl, q k H7 sm7 (.inr ⟨hr, hfr, fun hF => hps0 (he.mpr hF)⟩)⟩
end Nf

set_option Elab.async false
set_option linter.all false
set_option maxRecDepth 100000
set_option maxHeartbeats 4000000
namespace Nf
open PySem PySem.Spec PyProof.Rows L2
variable {P : Program} {w : World} {K : PySem.W.Frag} {mg : Str → Option Value} {base : Heap}
/-! ### what a set of pairs holds -/
def keyI (q : Int × Int) : List Int := [q.1, q.2]
theorem keyI_inj {p q : Int × Int} (h : keyI p = keyI q) : p = q := by
  unfold keyI at h
  injection h with h1 h2
  injection h2 with h2 _
  exact Prod.ext h1 h2
theorem keyP_of {q : Int × Int} (h : PairOk q) : KeyP (keyI q) := by
  obtain ⟨h1, h2, h3⟩ := h
  refine ⟨q.1.toNat, q.2.toNat, by omega, by omega, ?_⟩
  unfold keyI
  rw [Int.toNat_of_nonneg h1, Int.toNat_of_nonneg (by omega)]
theorem sqT_upd {H : Hp} {a d : Addr} {xs : List V} {o : HO} {φ : Heap → Prop} (h : SqT K H a xs) (hd : H d = some (.ext φ)) : SqT K (upd H d o) a xs := by
  rcases h with (h | ⟨ob, h⟩) | h
  · exact .inl (.inl (by rw [upd_ne (ne_of h hd (by intro e; cases e))]; exact h))
  · exact .inl (.inr ⟨ob, by rw [upd_ne (ne_of h hd (by intro e; cases e))]; exact h⟩)
  · exact .inr h
def SeenS (P : Program) (w : World) (K : PySem.W.Frag) (H : Hp) (d : Addr) (ps : List (Int × Int)) : Prop := ∃ L, H d = some (SetPO P w d L) ∧ (∀ p ∈ L, SqT K H p.1 (p.2.map V.int)) ∧ (L.map (·.2)).Nodup ∧ (∀ q ∈ ps, PairOk q) ∧ ∀ k, k ∈ L.map (·.2) ↔ ∃ q ∈ ps, k = keyI q
theorem SeenS.same {H H' : Hp} {d : Addr} {ps : List (Int × Int)} (h : SeenS P w K H d ps) (s : Same H H') : SeenS P w K H' d ps := by
  obtain ⟨L, hd, hL, q⟩ := h
  exact ⟨L, s _ _ hd, fun p hp => sqt_same (hL p hp) s, q⟩
theorem SeenS.ext {H : Hp} {d : Addr} {ps qs : List (Int × Int)} (h : SeenS P w K H d ps) (e : ps = qs) : SeenS P w K H d qs := e ▸ h
theorem SeenS.look {H : Hp} {d T : Addr} {ps : List (Int × Int)} {a b : Int} {Q : VK} (h : SeenS P w K H d ps) (hT : H T = some (.tup [.int a, .int b])) (ok : PairOk (a, b)) (q : ∀ c : Bool, (c = true ↔ (a, b) ∈ ps) → Q (.bl c) H) : rInP K P w (.ref T) (.ref d) H Q := by
  obtain ⟨L, hd, hL, hn, hok, hk⟩ := h
  refine ⟨d, T, keyI (a, b), L, rfl, rfl, hd, hL, SqT.of hT, keyP_of ok, fun c hc => q c ?_⟩
  rw [hc, hk]
  constructor
  · rintro ⟨x, hx, e⟩
    rw [keyI_inj e]
    exact hx
  · exact fun hm => ⟨_, hm, rfl⟩
theorem SeenS.add {H : Hp} {d T : Addr} {ps : List (Int × Int)} {a b : Int} {Q : VK} (h : SeenS P w K H d ps) (hT : H T = some (.tup [.int a, .int b])) (ok : PairOk (a, b)) (q : ∀ o, (∃ φ, H d = some (.ext φ)) → SeenS P w K (upd H d o) d (ps ++ [(a, b)]) → Q .non (upd H d o)) : rAddP K P w (.ref d) [.ref T] H Q := by
  obtain ⟨L, hd, hL, hn, hok, hk⟩ := h
  have hlen : L.length ≤ 2016 := by
    have e := nodup_le (m := pairLI.map keyI) hn fun k hm => by
      obtain ⟨x, hx, rfl⟩ := (hk k).mp hm
      exact List.mem_map.mpr ⟨x, mem_pairLI (hok x hx), rfl⟩
    have e2 : (pairLI.map keyI).length = 2016 := by
      unfold pairLI
      rw [List.length_map, List.length_map, pairL_len]
    rw [List.length_map, e2] at e
    exact e
  have hok2 : ∀ x ∈ ps ++ [(a, b)], PairOk x := fun x hx => by
    rcases List.mem_append.mp hx with hx | hx
    · exact hok x hx
    · rw [List.mem_singleton.mp hx]
      exact ok
  refine ⟨d, T, keyI (a, b), L, rfl, rfl, hd, hL, SqT.of hT, keyP_of ok, by omega, fun L2 e1 e2 => q _ ⟨_, hd⟩ ?_⟩
  by_cases hm : keyI (a, b) ∈ L.map (·.2)
  · have e := e1 hm
    subst e
    refine ⟨L2, upd_same, fun p hp => sqT_upd (hL p hp) hd, hn, hok2, fun k => ?_⟩
    rw [hk]
    constructor
    · rintro ⟨x, hx, e⟩
      exact ⟨x, List.mem_append_left _ hx, e⟩
    · rintro ⟨x, hx, e⟩
      rcases List.mem_append.mp hx with hx | hx
      · exact ⟨x, hx, e⟩
      · rw [List.mem_singleton.mp hx] at e
        rw [e]
        exact (hk _).mp hm
  · have pm := e2 hm
    refine ⟨L2, upd_same, fun p hp => ?_, (pm.map (·.2)).nodup_iff.mpr (List.nodup_cons.mpr ⟨hm, hn⟩), hok2, fun k => ?_⟩
    · rcases List.mem_cons.mp (pm.mem_iff.mp hp) with e | hp
      · rw [e]
        exact sqT_upd (SqT.of hT) hd
      · exact sqT_upd (hL p hp) hd
    · rw [(pm.map (·.2)).mem_iff, List.map_cons, List.mem_cons, hk]
      constructor
      · rintro (e | ⟨x, hx, e⟩)
        · exact ⟨(a, b), by simp, e⟩
        · exact ⟨x, List.mem_append_left _ hx, e⟩
      · rintro ⟨x, hx, e⟩
        rcases List.mem_append.mp hx with hx | hx
        · exact .inr ⟨x, hx, e⟩
        · rw [List.mem_singleton.mp hx] at e
          exact .inl e
/-! ### the program's turns -/
theorem scTurns : FnScope ["party", "tables", "turning", "together", "seen", "count", "pair"] ["party", "tables", "turning"] (defScope sTurns) := ⟨rfl, rfl, rfl, by decide +kernel, rfl, by decide +kernel, by decide +kernel⟩
def spTurnsOk (K : PySem.W.Frag) (C : Addr) : Sp := fun vs H Q _ => ∃ (p l : Addr) (x : V) (g : Nat) (s : Int) (r : Rnd) (tn : List Int), vs = [.ref p, x, .ref l] ∧ PartyV C H p g s ∧ IsParty g s ∧ RndV H x r ∧ Small [r] ∧ IsRound g s r ∧ SqL K H l (tn.map V.int) ∧ tn.Perm (rangeI g) ∧ ∀ n H', Same H H' → IsTurns tn r n → Q (.int (n : Nat)) H'
def TurnsW (P : Program) (w : World) (K : PySem.W.Frag) (H : Hp) (d p l : Addr) (tn : List Int) (r : Rnd) (m : Nat) (σ : L2.St) (H2 : Hp) : Prop := ∃ (k : Nat) (x : V) (u : Addr) (ys : List V) (y : Option V), m + k = 3000 ∧ σ = [some (.ref p), some x, some (.ref l), some (.ref u), some (.ref d), some (.int (k : Nat)), y] ∧ Same H H2 ∧ RndV H2 x (powM tn r k) ∧ H2 u = some (.lst ys) ∧ Paired (PairV H2) ys (sortP (pairsR (powM tn r k))) ∧ SeenS P w K H2 d (oldM tn r k) ∧ ∀ i, i < k → FreshM tn r i
theorem ok_turnsOk {f fC fR fP C : Addr} {fd fdC fdR fdP : FuncData} (F : Fun K "turns" "turns" sTurns f fd) (B : Blt mg) (hany : mg "any" = none) (GC : FnOk P w K mg base CX0 5 fC fdC ["party", "tables", "turning"] (spTurnOk K C)) (FC : Fun K "check_turn" "check_turn" sCheckTurn fC fdC) (bC : Binds K fdC ["party", "tables", "turning"] []) (gC : mg "check_turn" = some (.ref fC))
    (FR : Fun K "replaced" "replaced" sReplaced fR fdR) (bR : Binds K fdR ["tables", "turning"] []) (gR : mg "replaced" = some (.ref fR)) (FP : Fun K "pairs" "pairs" sPairs fP fdP) (bP : Binds K fdP ["tables"] []) (gP : mg "pairs" = some (.ref fP)) :
    FnOk P w K mg base CX0 6 f fd ["party", "tables", "turning"] (spTurnsOk K C) := by
  have GR : FnOk P w K mg base CX0 1 fR fdR ["tables", "turning"] (spMoved K) := ok_replaced FR B
  have GP : FnOk P w K mg base CX0 1 fP fdP ["tables"] spPairs := ok_pairs FP B
  refine F.ok scTurns (fun vs H Q E h => ?_) (fun cdv A outer s H vs Q E hr h => ?_)
  · obtain ⟨p, l, x, g, s, r, tn, rfl, _⟩ := h
    rfl
  · obtain ⟨p, l, x0, g, z, r, tn, rfl, hP, hI, hx0, hS, hR, hl, hperm, q⟩ := h
    have hr1 : Room 1 _ := hr.mono (by decide)
    refine ⟨_, pss_cons (ps_expr (pe_call GC hr (by rfl) gC FC.kp bC .nil pass0 (pa_cons (pv 0) (pa_cons (pv 1) (pa_cons (pv 2) pa_nil)))))
      (pss_cons (ps_set (i := 3) scTurns.nd rfl (by first | exact .inl rfl | exact .inr rfl) (pe_call GP hr1 (by rfl) gP FP.kp bP .nil pass0 (pa_cons (pv 1) pa_nil)))
      (pss_cons (ps_if (pt_not (pt_truth (pv 3) (by intro _; rfl))) (pss_one (ps_ret pe_int)) pss_nil)
      (pss_cons (ps_set (i := 4) scTurns.nd rfl (by first | exact .inl rfl | exact .inr rfl) (pe_callTy0 cr_set0P (by rfl) B.set (by decide +kernel)))
      (pss_cons (ps_set (i := 5) scTurns.nd rfl (by first | exact .inl rfl | exact .inr rfl) pe_int)
      (pss_cons (ps_while PassesOwn.never (pt_not (pt_val (pe_callB (cr_any rfl) (by rfl) hany (by decide +kernel) (pa_cons (pe_lc (own := [("pair", 6)]) (g := gName 6) (tt := tYes) (te := tOp (rInP K P w) (tVar 6) (tVar 4)) (by rfl) scTurns.nd (pi_list (pv 3))
          (blkOk_by (N := ["party", "tables", "turning", "together", "seen", "count", "pair"]) (sc := defScope sTurns) (by decide +kernel)) (fun _ _ _ _ _ => pg_name (i := 6) (x := "pair") scTurns.nd rfl (.inl rfl) (.inr rfl)) (fun _ _ _ _ _ => pts_nil)
          (fun _ _ _ _ _ => pe_cmpR (op_inP hr.units) (pv 6) (pv 4) (by rfl))) pa_nil))))
        (pss_cons (ps_for PassesOwn.never rfl (pi_list (pv 3)) (pg_name (i := 6) scTurns.nd rfl (.inl rfl))
          (pss_one (ps_expr (pe_addP hr.units (pv 4) (pa_cons (pv 6) pa_nil)))))
        (pss_cons (ps_aug (i := 5) scTurns.nd rfl (.inl rfl) pe_int ip_add)
        (pss_cons (ps_set (i := 1) scTurns.nd rfl (by first | exact .inl rfl | exact .inr rfl) (pe_call GR hr1 (by rfl) gR FR.kp bR .nil pass0 (pa_cons (pv 1) (pa_cons (pv 2) pa_nil))))
        (pss_one (ps_set (i := 3) scTurns.nd rfl (by first | exact .inl rfl | exact .inr rfl) (pe_call GP hr1 (by rfl) gP FP.kp bP .nil pass0 (pa_cons (pv 1) pa_nil))))))))
      (pss_one (ps_ret (pv 5)))))))), ?_⟩
    have big : (100000 : Nat) < sizeLine := by decide
    have hg64 : g ≤ 64 := by have := hI.g64; omega
    refine ⟨.ref p, rfl, x0, rfl, .ref l, rfl, p, l, x0, g, z, r, tn, rfl, hP, hI, hx0, hS, hR, hl, hperm, fun H2 s2 => ?_⟩
    obtain ⟨hp1, hp2, hp3⟩ := good_small hI hR
    refine ⟨x0, rfl, x0, r, rfl, hx0.mono (same_toT s2), by omega, fun H3 u ys s3 nu hu hys => ?_⟩
    have sm3 := s2.trans s3
    have hyl := paired_len hys
    refine ⟨.ref u, rfl, !ys.isEmpty, .inl ⟨_, SqL.of hu, rfl⟩, ?_⟩
    by_cases hr0 : pairsR r = []
    · have hy0 : ys = [] := by
        rw [(sortP_perm _).length_eq, hr0] at hyl
        exact List.eq_nil_of_length_eq_zero hyl
      subst hy0
      exact iteT (q 0 H3 sm3 (.inl ⟨hr0, rfl⟩))
    have hy1 : ys.isEmpty = false := by
      cases ys with
      | nil =>
        refine absurd ?_ hr0
        have e : (pairsR r).length = 0 := by
          rw [← (sortP_perm _).length_eq, ← hyl]
          rfl
        exact List.eq_nil_of_length_eq_zero e
      | cons _ _ => rfl
    rw [hy1]
    refine iteF ?_
    refine ⟨rfl, fun d nd => ?_⟩
    have s4 : Same H3 (upd H3 d (SetPO P w d [])) := same_new nd
    have hsn : SeenS P w K (upd H3 d (SetPO P w d [])) d (oldM tn r 0) := ⟨[], upd_same, fun p hp => by simp at hp, List.nodup_nil, fun q hq => by simp [oldM] at hq, fun k => by simp [oldM]⟩
    have sm4 := sm3.trans s4
    have nd0 : H d = none := sm3.free nd
    have hx4 := hx0.mono (same_toT sm4)
    have hu4 := s4 _ _ hu
    have hys4 := paired_mono (fun _ _ z => PairV.mono z (same_toT s4)) hys
    refine ⟨TurnsW P w K H d p l tn r, ⟨3000, 0, x0, u, ys, none, rfl, rfl, sm4, hx4, hu4, hys4, hsn, fun i hi => by omega⟩, fun m σ H5 hW => ?_⟩
    obtain ⟨k, x, u, ys, y, hmk, rfl, sm, hx, hu, hys, hsn, hfr⟩ := hW
    have hRk := pow_round hR hperm k
    obtain ⟨kp1, kp2, kp3⟩ := good_small hI hRk
    have hyl := paired_len hys
    have hspl : (sortP (pairsR (powM tn r k))).length ≤ 4096 := by
      rw [(sortP_perm _).length_eq]
      exact kp1
    have okp : ∀ {i : Nat} {pr : Int × Int}, (sortP (pairsR (powM tn r k)))[i]? = some pr → PairOk pr := fun {i pr} h => by
      have := hRk.pair pr ((sortP_perm _).mem_iff.mp (List.mem_of_getElem? h))
      exact ⟨this.1, this.2.1, by omega⟩
    -- any([pair in seen for pair in together])
    refine ⟨.ref u, rfl, u, rfl, ⟨_, SqL.of hu⟩, fun D nD => ?_⟩
    have s6 : Same H5 (upd H5 D (.lst [])) := same_new nD
    refine lc_it (walk_list (xs := ys)) (fun i H6 => Same H5 H6 ∧ ∃ bs : List Bool, H6 D = some (.lst (bs.map V.bl)) ∧ bs.length = i ∧ (bs.any id = false ↔ ∀ pr ∈ (sortP (pairsR (powM tn r k))).take i, pr ∉ oldM tn r k)) ⟨s6, [], upd_same, rfl, by simp⟩ (fun i H6 _ h => SqL.of (h.1 _ _ hu)) (fun i v H6 H7 hi hI2 y2 => ?_) (fun H6 hI2 => ?_)
    · obtain ⟨rfl, hv⟩ := y2
      obtain ⟨sm6, bs, hD, hbl, hbs⟩ := hI2
      obtain ⟨⟨a, b⟩, hab, T, rfl, hT⟩ := paired_getL hys hv
      have hT6 := sm6 _ _ hT
      refine ⟨wipe_put (by decide), yesT ?_⟩
      refine ⟨.ref T, rfl, .ref d, rfl, (hsn.same sm6).look hT6 (okp hab) fun c hc => ?_⟩
      refine ⟨_, hD, by rw [List.length_map]; omega, same_put sm6 nD, bs ++ [c], by rw [upd_same, List.map_append]; rfl, by rw [List.length_append, hbl]; rfl, ?_⟩
      rw [List.any_append, Bool.or_eq_false_iff, hbs, takeSucc hab]
      constructor
      · rintro ⟨h1, h2⟩ pr hpr
        rcases List.mem_append.mp hpr with hpr | hpr
        · exact h1 pr hpr
        · rw [List.mem_singleton.mp hpr]
          intro hm
          rw [hc.mpr hm] at h2
          simp at h2
      · intro h
        refine ⟨fun pr hpr => h pr (List.mem_append_left _ hpr), ?_⟩
        have hno := h (a, b) (by simp)
        have : c = false := by
          cases c with
          | false => rfl
          | true => exact absurd (hc.mp rfl) hno
        rw [this]
        rfl
    · obtain ⟨sm6, bs, hD, hbl, hbs⟩ := hI2
      rw [hyl, List.take_of_length_le (Nat.le_refl _)] at hbs
      dsimp only [tNil]
      refine ⟨D, bs, rfl, SqL.of hD, _, rfl, ?_⟩
      have sm7 := sm.trans sm6
      by_cases hF : FreshM tn r k
      · have hb : bs.any id = false := hbs.mpr fun pr hpr => hF pr ((sortP_perm _).mem_iff.mp hpr)
        rw [hb]
        refine iteT ?_
        have hfr2 : ∀ i, i < k + 1 → FreshM tn r i := fun i hi => by
          by_cases e : i = k
          · rw [e]
            exact hF
          · exact hfr i (by omega)
        have hlen := old_len hR hperm hg64 hr0 hfr2
        refine ⟨TurnsW P w K H d p l tn r (m - 1), fun σ' H' h => ⟨m - 1, by omega, h⟩, ?_⟩
        -- for pair in together: seen.add(pair)
        refine ⟨.ref u, rfl, u, rfl, ⟨_, SqL.of (sm6 _ _ hu)⟩, ?_⟩
        refine for_it (walk_list (xs := ys)) (fun i σ H7 => ∃ y6 : Option V, σ = [some (.ref p), some x, some (.ref l), some (.ref u), some (.ref d), some (.int (k : Nat)), y6] ∧ Same H H7 ∧ RndV H7 x (powM tn r k) ∧ H7 u = some (.lst ys) ∧ Paired (PairV H7) ys (sortP (pairsR (powM tn r k))) ∧ SeenS P w K H7 d (oldM tn r k ++ (sortP (pairsR (powM tn r k))).take i))
          ⟨y, rfl, sm7, hx.mono (same_toT sm6), sm6 _ _ hu, paired_mono (fun _ _ z => PairV.mono z (same_toT sm6)) hys, (hsn.same sm6).ext (by simp)⟩ (fun i σ H7 _ h => ?_) (fun i v σ H7 H8 hi h y2 => ?_) (fun σ H7 h => ?_)
        · obtain ⟨_, _, _, _, h, _⟩ := h
          exact SqL.of h
        · obtain ⟨y6, rfl, sm8, hx8, hu8, hys8, hsn8⟩ := h
          obtain ⟨rfl, hv⟩ := y2
          obtain ⟨⟨a, b⟩, hab, T, rfl, hT⟩ := paired_getL hys8 hv
          obtain ⟨L8, hd8, _⟩ := id hsn8
          refine ⟨.ref d, rfl, ⟨d, L8, rfl, hd8⟩, .ref T, rfl, ?_⟩
          dsimp only [tNil]
          refine hsn8.add hT (okp hab) fun o hφ hs9 => ?_
          obtain ⟨φ, hφ⟩ := hφ
          have T9 : SameT H8 (upd H8 d o) := fun a us e => by
            rw [upd_ne (ne_of e hφ (by intro z; cases z))]
            exact e
          refine ⟨_, rfl, same_put sm8 nd0, hx8.mono T9, by rw [upd_ne (ne_of hu8 hφ (by intro z; cases z))]; exact hu8, paired_mono (fun _ _ z => PairV.mono z T9) hys8, hs9.ext ?_⟩
          rw [takeSucc hab, List.append_assoc]
        · obtain ⟨y6, rfl, sm8, hx8, hu8, hys8, hsn8⟩ := h
          rw [hyl, List.take_of_length_le (Nat.le_refl _)] at hsn8
          have hsn9 : SeenS P w K H7 d (oldM tn r (k + 1)) := by
            obtain ⟨L, g1, g2, g3, g4, g5⟩ := hsn8
            have mem : ∀ x, x ∈ oldM tn r k ++ sortP (pairsR (powM tn r k)) ↔ x ∈ oldM tn r (k + 1) := fun x => by
              rw [oldM_succ, List.mem_append, List.mem_append, (sortP_perm _).mem_iff]
            refine ⟨L, g1, g2, g3, fun x hx => g4 x ((mem x).mpr hx), fun kk => ?_⟩
            rw [g5]
            exact ⟨fun ⟨x, hx, e⟩ => ⟨x, (mem x).mp hx, e⟩, fun ⟨x, hx, e⟩ => ⟨x, (mem x).mpr hx, e⟩⟩
          refine ⟨.int (k : Nat), rfl, (k : Nat), 1, rfl, rfl, ?_⟩
          obtain ⟨d1, d2⟩ := moved_dom hI hRk hperm
          refine ⟨x, rfl, .ref l, rfl, x, l, powM tn r k, tn, rfl, hx8, sm8.seq hl, d1, d2, fun x' H11 s11 hx11 => ?_⟩
          have hRk2 := pow_round hR hperm (k + 1)
          obtain ⟨j1, j2, j3⟩ := good_small hI hRk2
          refine ⟨x', rfl, x', powM tn r (k + 1), rfl, hx11, by omega, fun H12 u2 ys2 s12 nu2 hu2 hys2 => ?_⟩
          refine ⟨k + 1, x', u2, ys2, y6, by omega, rfl, sm8.trans (s11.trans s12), hx11.mono (same_toT s12), hu2, hys2, hsn9.same (s11.trans s12), hfr2⟩
      · have hb : bs.any id = true := by
          cases h : bs.any id with
          | true => rfl
          | false => exact absurd (fun pr hpr => hbs.mp h pr ((sortP_perm _).mem_iff.mpr hpr)) hF
        rw [hb]
        exact iteF ⟨.int (k : Nat), rfl, q k H6 sm7 (.inr ⟨hr0, hfr, hF⟩)⟩
end Nf

set_option Elab.async false
set_option linter.all false
set_option maxRecDepth 100000
set_option maxHeartbeats 4000000
namespace Nf
open PySem PySem.Spec PyProof.Rows L2
variable {P : Program} {w : World} {K : PySem.W.Frag} {mg : Str → Option Value} {base : Heap}
/-! ### check_turn, turned, turns refuse -/
/-- what is known of BadTurning, so that it is raised -/
structure BtTxt (K : PySem.W.Frag) (mg : Str → Option Value) (CT : Addr) : Prop where
  g : mg "BadTurning" = some (.ref CT)
  x : PySem.W.excIn K CT [.type "ValueError", .type "Exception", .type "BaseException", .type "object"] "ValueError.__new__" = true
  k : PySem.W.keepIn K (.ref CT) = true
  b : PySem.W.subIn K (.ref CT) (.type "BaseException") = some true
  t : PySem.W.typeIn K (.ref CT) = some (.type "type")
def spTurnBadR (K : PySem.W.Frag) (C CB : Addr) : Sp := fun vs H _ E => ∃ (p l : Addr) (x : V) (g : Nat) (s : Int) (r : Rnd), vs = [.ref p, x, .ref l] ∧ PartyV C H p g s ∧ IsParty g s ∧ RndV H x r ∧ Small [r] ∧ ¬ IsRound g s r ∧
  ∀ H' d, Same H H' → H d = none → H' d = some (.xd [(("number" : Str), .int 0)]) → E (.ref CB) (some d) H'
theorem ok_turnBadR {f fC C CB : Addr} {fd fdC : FuncData} (F : Fun K "check_turn" "check_turn" sCheckTurn f fd) (GC : FnOk P w K mg base (L2.CX P w) 4 fC fdC ["party", "plan"] (spCheckBad K C CB)) (FC : Fun K "check_plan" "check_plan" sCheck fC fdC) (bC : Binds K fdC ["party", "plan"] []) (gC : mg "check_plan" = some (.ref fC)) :
    FnOk P w K mg base (L2.CX P w) 5 f fd ["party", "tables", "turning"] (spTurnBadR K C CB) := by
  refine F.okX scCheckTurn (fun vs H Q E h => ?_) (fun cdv A outer s H vs Q E hr h => ?_)
  · obtain ⟨p, l, x, g, s, r, rfl, _⟩ := h
    rfl
  · obtain ⟨p, l, x, g, z, r, rfl, hP, hI, hx, hS, hR, q⟩ := h
    refine ⟨_, pss_cons (ps_expr (pe_call GC hr (by rfl) gC FC.kp bC .nil (passes_call (takes_of rfl rfl rfl rfl) (fun _ _ _ _ h => h)) (pa_cons (pv 0) (pa_cons (pe_lst (pa_cons (pv 1) pa_nil)) pa_nil)))) pss_never, ?_⟩
    refine ⟨.ref p, rfl, x, rfl, (by show 1 ≤ sizeLine; decide), fun lp nlp => ?_⟩
    have s1 : Same H (upd H lp (.lst [x])) := same_new nlp
    exact ⟨p, lp, (g : Nat), z, [r], 0, rfl, hP.same s1, hI, ⟨[x], SqL.of upd_same, .cons (hx.mono (same_toT s1)) .nil⟩, hS, ⟨r, rfl, hR, fun i hi => by omega⟩, fun H' d sm nd hd => q H' d (s1.trans sm) (s1.free nd) hd⟩
def spTurnBadT (K : PySem.W.Frag) (C CT : Addr) : Sp := fun vs H _ E => ∃ (p l : Addr) (x : V) (g : Nat) (s : Int) (r : Rnd) (tn : List Int), vs = [.ref p, x, .ref l] ∧ PartyV C H p g s ∧ IsParty g s ∧ RndV H x r ∧ Small [r] ∧ IsRound g s r ∧ SqL K H l (tn.map V.int) ∧ ¬ tn.Perm (rangeI g) ∧ ∀ H', Same H H' → E (.ref CT) none H'
theorem text_len {n : Int} (hz : n.natAbs.log2 < 1920) {a b : Str} (ha : a.length ≤ 1000) (hb : b.length ≤ 1000) : (Str.empty ++ a).length ≤ sizeLine ∧ (Str.empty ++ a ++ Str.ofString (toString n)).length ≤ sizeLine ∧ (Str.empty ++ a ++ Str.ofString (toString n) ++ b).length ≤ sizeLine := by
  have e := int_text_length_le (k := 1920) (by decide) hz
  have e3 : Str.empty.length = 0 := rfl
  have big : (100000 : Nat) < sizeLine := by decide
  simp only [Str.length_append, PySem.ofString_length]
  omega
theorem ok_turnBadT {f fC fG C CT : Addr} {fd fdC fdG : FuncData} (F : Fun K "check_turn" "check_turn" sCheckTurn f fd) (B : Blt mg) (T : Txt K mg C) (BT : BtTxt K mg CT) (GC : FnOk P w K mg base CX0 4 fC fdC ["party", "plan"] (spCheckOk K C)) (FC : Fun K "check_plan" "check_plan" sCheck fC fdC) (bC : Binds K fdC ["party", "plan"] []) (gC : mg "check_plan" = some (.ref fC))
    (FG : Fun K "guests" "Party.guests" sGuests fG fdG) (bG : Binds K fdG ["self"] []) (mG : Meth K C "guests" fG) :
    FnOk P w K mg base (L2.CX P w) 5 f fd ["party", "tables", "turning"] (spTurnBadT K C CT) := by
  have GG : FnOk P w K mg base CX0 1 fG fdG ["self"] (spGuests C) := ok_guests FG T
  have ng : ∀ g s, (pf g s).lookup ("guests" : Str) = none := fun g s => pf_no _ _ (by decide +kernel) (by decide +kernel)
  refine F.okX scCheckTurn (fun vs H Q E h => ?_) (fun cdv A outer s H vs Q E hr h => ?_)
  · obtain ⟨p, l, x, g, s, r, tn, rfl, _⟩ := h
    rfl
  · obtain ⟨p, l, x, g, z, r, tn, rfl, hP, hI, hx, hS, hR, hl, hperm, q⟩ := h
    have hr1 : Room 1 _ := hr.mono (by decide)
    refine ⟨_, pss_cons (ps_expr (pe_call GC hr (by rfl) gC FC.kp bC .nil pass0 (pa_cons (pv 0) (pa_cons (pe_lst (pa_cons (pv 1) pa_nil)) pa_nil))))
      (pss_one (ps_if (pt_cmpR (op_neD hr.units) (pe_callB (cr_sortD (fun i : Int => PyData.int i) hr.units) (by rfl) B.sorted (by decide +kernel) (pa_cons (pv 2) pa_nil)) (pe_listRg rfl (by rfl) B.list (prg_1 (by rfl) B.range (pe_meth0 (pv 0) T.cl mG GG hr1 bG .nil pass0))) (nomark _))
        (pss_one (ps_raise rfl (takes_of rfl rfl rfl rfl) (SkE.pmk_own1 PySem.F.excBase_ValueError BT.x BT.g BT.k (raises_own BT.b BT.t) rfl (pe_joined (.cons pe_str (.cons (pe_fmt (pe_meth0 (pv 0) T.cl mG GG hr1 bG .nil pass0)) (.cons pe_str .nil))))))) pss_nil)), ?_⟩
    refine ⟨.ref p, rfl, x, rfl, (by show 1 ≤ sizeLine; decide), fun lp nlp => ?_⟩
    have s1 : Same H (upd H lp (.lst [x])) := same_new nlp
    refine ⟨p, lp, g, z, [r], rfl, hP.same s1, hI, ⟨[x], SqL.of upd_same, .cons (hx.mono (same_toT s1)) .nil⟩, hS, fun r' h => by rw [List.mem_singleton.mp h]; exact hR, fun H2 s2 => ?_⟩
    have sm2 := s1.trans s2
    refine ⟨.ref l, rfl, ?_⟩
    dsimp only [tNil]
    refine sort_ints (.inl (sm2.seq hl)) fun p2 np2 => ?_
    have s3 : Same H2 (upd H2 p2 (.lst ((sortI tn).map V.int))) := same_new np2
    have hp2 : (upd H2 p2 (.lst ((sortI tn).map V.int))) p2 = some (.lst ((sortI tn).map V.int)) := upd_same
    generalize (upd H2 p2 (.lst ((sortI tn).map V.int))) = H3 at s3 hp2 ⊢
    have sm3 := sm2.trans s3
    obtain ⟨dx, hp⟩ := id (hP.same sm3)
    refine ⟨.ref p, rfl, p, dx, _, rfl, hp, ng _ _, p, g, z, rfl, hP.same sm3, g, rfl, ?_, fun ev nev => ?_⟩
    · exact RgOk.of_le (by decide) (by have := hI.g64; omega) (by decide) (by have := hI.g2; omega)
    have er : rgV 0 (g : Int) = (rangeI g).map V.int := rgV_range _
    rw [er]
    have s4 : Same H3 (upd H3 ev (.lst ((rangeI g).map V.int))) := same_new nev
    refine ⟨.list ((sortI tn).map .int), .list ((rangeI g).map .int), .lst (SqL.of (s4 _ _ hp2)) (dpAll_ints _), .lst (SqL.of upd_same) (dpAll_ints _), shInts _, shInts _, _, rfl, ?_⟩
    have e : PyData.eqv (.list ((sortI tn).map .int)) (.list ((rangeI g).map .int)) = false := by
      unfold PyData.eqv
      exact Bool.eq_false_iff.mpr fun h => hperm (perm_sortI.mpr (eqvInts.mp h))
    rw [e]
    refine iteT ?_
    have sm4 := sm3.trans s4
    obtain ⟨dx, hp⟩ := id (hP.same sm4)
    have hz : ((g : Nat) : Int).natAbs.log2 < 1920 := by
      rw [Int.natAbs_natCast]
      exact Nat.lt_of_le_of_lt (Nat.log2_le_self g) (by have := hI.g64; omega)
    obtain ⟨l1, l2, l3⟩ := text_len hz (a := "this is no list of all ") (b := " guests, each once") (by decide) (by decide)
    exact ⟨_, rfl, l1, .ref p, rfl, p, dx, _, rfl, hp, ng _ _, p, g, z, rfl, hP.same sm4, .inr ⟨(g : Int), rfl, hz, _, rfl, l2, _, rfl, l3, q _ sm4⟩⟩
end Nf

set_option Elab.async false
set_option linter.all false
set_option maxRecDepth 100000
set_option maxHeartbeats 4000000
namespace Nf
open PySem PySem.Spec PyProof.Rows L2
/-! ### list.count of truth values; isinstance of an error without a dict -/
def rCntB (K : PySem.W.Frag) : V → List V → Hp → VK → Prop := fun x xs H Q => ∃ (p : Addr) (bs : List Bool) (k : Bool), x = .ref p ∧ xs = [.bl k] ∧ SqL K H p (bs.map V.bl) ∧ Q (.int (bs.count k : Nat)) H
theorem dpAll_bls {K : PySem.W.Frag} {H : Hp} : ∀ bs : List Bool, DpAll K H (bs.map V.bl) (bs.map PyData.bool)
  | [] => .nil
  | b :: bs => .cons (.bl b) (dpAll_bls bs)
theorem cnt_bools (k : Bool) : ∀ bs : List Bool, (bs.map PyData.bool).countP (fun y => PyData.eqv y (.bool k)) = bs.count k
  | [] => rfl
  | b :: bs => by
    have ih := cnt_bools k bs
    have e : PyData.eqv (.bool b) (.bool k) = (b == k) := by simp only [PyData.eqv]
    rw [List.map_cons, List.countP_cons, List.count_cons, ih, e]
theorem bools_plain : ∀ bs : List Bool, PyData.plainAll (bs.map PyData.bool) = true
  | [] => rfl
  | b :: bs => by simp [PyData.plainAll, PyData.plain, bools_plain bs]
theorem bools_depth : ∀ bs : List Bool, PyData.depthAll (bs.map PyData.bool) = 0
  | [] => rfl
  | b :: bs => by simp [PyData.depthAll, PyData.depth, bools_depth bs]
theorem mt_cntB {X : Cx} (hu : X.A.units + 64 < cLine) : MtR X "list.count" (rCntB X.K) := by
  intro pins s σ H x xs v us Q I rx rxs h
  obtain ⟨p, bs, k, rfl, rfl, hl, q⟩ := h
  cases rx
  obtain ⟨u, rfl, ru⟩ := rxs.one
  obtain rfl : u = Value.bool k := ru
  obtain ⟨its, rv, pl, hz⟩ := I.list hl
  obtain ⟨as, hr⟩ := Dp.readsAll I (bs.map PyData.bool) _ its (dpAll_bls bs) rv
  refine SeqAt.count_list_data (xs := bs.map PyData.bool) (d := .bool k) pl.isList (by simpa using hr) (show Reads s.heap (.bool k) (.bool k) [] from .bool k) (bools_plain bs) rfl ?_ ?_
  · rw [bools_depth]
    have : min 0 (PyData.bool k).depth = 0 := Nat.zero_min _
    omega
  · rw [cnt_bools]
    exact ⟨.int _, H, I.tok _, ⟨_, rfl⟩, q⟩
end Nf
namespace L2
open PySem PySem.Spec PyProof.Rows
def rIsN (K : PySem.W.Frag) (D a : Addr) (cls : Value) (d : Option Addr) : List V → Hp → VK → Prop := fun xs H Q => ∃ (c : V) (cv : Value) (b : Bool), cls = .ref D ∧ d = none ∧ xs = [.ref a, c] ∧ (∀ u, RelV c u → u = cv) ∧ PySem.W.kitOne K (.ref D) cv = some b ∧ Q (.bl b) H
theorem call_isN {X : Cx} {a D : Addr} {cls : Value} {d : Option Addr} {oe : Obj} {pn : List (Addr × Obj)} (C : ExcC X.K D) (hz : Zc cls d oe) (hf : ∃ vs, oe.data = .fields vs) : CallR (X.suite a ((a, oe) :: pn)) (.builtin "isinstance") (rIsN X.K D a cls d) := by
  intro pins s σ H xs us Q I r h
  obtain ⟨c, cv, b, rfl, rfl, h⟩ := h
  exact call_isE C hz hf pins s σ H xs us Q I r ⟨c, cv, b, h⟩
end L2

set_option Elab.async false
set_option linter.all false
set_option maxRecDepth 100000
set_option maxHeartbeats 4000000
namespace Nf
open PySem PySem.Spec PyProof.Rows L2
variable {P : Program} {w : World} {K : PySem.W.Frag} {mg : Str → Option Value} {base : Heap}
/-! ### turned and turns refuse; the law's word of it -/
theorem ok_turnedX {sp : Sp} (hn : ∀ vs H Q E, sp vs H Q E → ∃ a b c, vs = [a, b, c]) (hq : ∀ vs H Q Q' E, sp vs H Q E → sp vs H Q' E) {f fC : Addr} {fd fdC : FuncData} (F : Fun K "turned" "turned" sTurned f fd) (GC : FnOk P w K mg base (L2.CX P w) 5 fC fdC ["party", "tables", "turning"] sp) (FC : Fun K "check_turn" "check_turn" sCheckTurn fC fdC) (bC : Binds K fdC ["party", "tables", "turning"] []) (gC : mg "check_turn" = some (.ref fC)) :
    FnOk P w K mg base (L2.CX P w) 6 f fd ["party", "tables", "turning"] sp := by
  refine F.okX scTurned (fun vs H Q E h => ?_) (fun cdv A outer s H vs Q E hr h => ?_)
  · obtain ⟨a, b, c, rfl⟩ := hn vs H Q E h
    rfl
  · obtain ⟨a, b, c, rfl⟩ := hn vs H Q E h
    refine ⟨_, pss_cons (ps_expr (pe_call GC hr (by rfl) gC FC.kp bC .nil (passes_call (takes_of rfl rfl rfl rfl) (fun _ _ _ _ h => h)) (pa_cons (pv 0) (pa_cons (pv 1) (pa_cons (pv 2) pa_nil))))) pss_never, ?_⟩
    exact ⟨a, rfl, b, rfl, c, rfl, hq _ _ _ _ _ h⟩
theorem ok_turnsX {sp : Sp} (hn : ∀ vs H Q E, sp vs H Q E → ∃ a b c, vs = [a, b, c]) (hq : ∀ vs H Q Q' E, sp vs H Q E → sp vs H Q' E) {f fC : Addr} {fd fdC : FuncData} (F : Fun K "turns" "turns" sTurns f fd) (GC : FnOk P w K mg base (L2.CX P w) 5 fC fdC ["party", "tables", "turning"] sp) (FC : Fun K "check_turn" "check_turn" sCheckTurn fC fdC) (bC : Binds K fdC ["party", "tables", "turning"] []) (gC : mg "check_turn" = some (.ref fC)) :
    FnOk P w K mg base (L2.CX P w) 6 f fd ["party", "tables", "turning"] sp := by
  refine F.okX scTurns (fun vs H Q E h => ?_) (fun cdv A outer s H vs Q E hr h => ?_)
  · obtain ⟨a, b, c, rfl⟩ := hn vs H Q E h
    rfl
  · obtain ⟨a, b, c, rfl⟩ := hn vs H Q E h
    refine ⟨_, pss_cons (ps_expr (pe_call GC hr (by rfl) gC FC.kp bC .nil (passes_call (takes_of rfl rfl rfl rfl) (fun _ _ _ _ h => h)) (pa_cons (pv 0) (pa_cons (pv 1) (pa_cons (pv 2) pa_nil))))) pss_never, ?_⟩
    exact ⟨a, rfl, b, rfl, c, rfl, hq _ _ _ _ _ h⟩
/-- the same classes, asked of a BadTurning -/
structure KindsT (K : PySem.W.Frag) (CB PE CP CT CX : Addr) : Prop where
  te : PySem.W.exmOne K (.ref CX) (.ref PE) = some true
  kP : PySem.W.kitOne K (.ref CX) (.ref CP) = some false
  kB : PySem.W.kitOne K (.ref CX) (.ref CB) = some false
  kT : PySem.W.kitOne K (.ref CX) (.ref CT) = some false
  kX : PySem.W.kitOne K (.ref CX) (.ref CX) = some true
  kV : PySem.W.kitOne K (.ref CX) (.type "ValueError") = some true
  ed : ExcC K CX
theorem scWord : FnScope ["_law_party", "_law_tables", "_law_turning_here", "_law_way", "e", "_law_kinds"] ["_law_party", "_law_tables", "_law_turning_here", "_law_way"] (defScope lWord) := ⟨rfl, rfl, rfl, by decide +kernel, rfl, by decide +kernel, by decide +kernel⟩
def spWordR (K : PySem.W.Frag) (C : Addr) : Sp := fun vs H Q _ => ∃ (p l : Addr) (x : V) (g : Nat) (s : Int) (r : Rnd) (way : Int), vs = [.ref p, x, .ref l, .int way] ∧ PartyV C H p g s ∧ IsParty g s ∧ RndV H x r ∧ Small [r] ∧ ¬ IsRound g s r ∧ ∀ q H', Same H H' → H' q = some (.tup [.str "round", .int 0]) → Q (.ref q) H'
theorem ok_wordR {f fTd fTs fB C CB PE CP CT CX : Addr} {fd fdTd fdTs : FuncData} (F : Fun K "_law_word" "_law_word" lWord f fd) (B : Blt mg) (TB : PySem.BrX.BrTxt P K mg CB fB) (TK : Kinds K mg CB PE CP CT CX)
    (GTd : FnOk P w K mg base (L2.CX P w) 6 fTd fdTd ["party", "tables", "turning"] (spTurnBadR K C CB)) (FTd : Fun K "turned" "turned" sTurned fTd fdTd) (bTd : Binds K fdTd ["party", "tables", "turning"] []) (gTd : mg "turned" = some (.ref fTd))
    (GTs : FnOk P w K mg base (L2.CX P w) 6 fTs fdTs ["party", "tables", "turning"] (spTurnBadR K C CB)) (FTs : Fun K "turns" "turns" sTurns fTs fdTs) (bTs : Binds K fdTs ["party", "tables", "turning"] []) (gTs : mg "turns" = some (.ref fTs)) :
    FnOk P w K mg base CX0 7 f fd ["_law_party", "_law_tables", "_law_turning_here", "_law_way"] (spWordR K C) := by
  refine F.ok scWord (fun vs H Q E h => ?_) (fun cdv A outer s H vs Q E hr h => ?_)
  · obtain ⟨p, l, x, g, z, r, way, rfl, hP, hI, hx, hS, hR, q⟩ := h
    rfl
  · obtain ⟨p, l, x, g, z, r, way, rfl, hP, hI, hx, hS, hR, q⟩ := h
    have HU := hr.units
    refine ⟨_, pss_cons (ps_try_as (i := 4) (Wout := fun _ _ _ _ => False) (ts := fun a cls d => tSeq (tAsg (tLst (tCons (tCB (rIsD K CB a cls d) (tCons (tVar 4) (tCons (tC (.ref CP)) tNil))) (tCons (tCB (rIsD K CB a cls d) (tCons (tVar 4) (tCons (tC (.ref CB)) tNil))) (tCons (tCB (rIsD K CB a cls d) (tCons (tVar 4) (tCons (tC (.ref CT)) tNil))) (tCons (tCB (rIsD K CB a cls d) (tCons (tVar 4) (tCons (tC (.ref CX)) tNil))) tNil))))) (gName 5))
        (tSeq (tIfS (tOr (tNot (tB (tCB (rIsD K CB a cls d) (tCons (tVar 4) (tCons (tC (.ty "ValueError")) tNil))))) (tTest (tOp rNe (tBM K "list" (rCntB K) (tVar 5) (tCons (tC (.bl true)) tNil)) (tC (.int 1))))) tNever tNext)
        (tRet (tIf (tB (tOp (rIxL K) (tVar 5) (tC (.int 1)))) (tTup (tCons (tC (.str "round")) (tCons (tByBr CB a cls d (tVar 4)) tNil))) (tTup (tCons (tC (.str "turning")) (tCons (tCB (fun xs H Q => (∃ i, xs = [V.int i] ∧ Q (.int i) H) ∨ ∃ k, xs = [V.bl k] ∧ Q (.int (if k then 1 else 0)) H) (tCons (tOp (rIxL K) (tVar 5) (tC (.int 3))) tNil)) tNil))))))) (tb := fun W => tIfS (tTest (tOp rEq (tVar 3) (tC (.int 0)))) (tDrop (tCallS (spTurnBadR K C CB) (WE W) (tCons (tVar 0) (tCons (tVar 1) (tCons (tVar 2) tNil))))) (tDrop (tCallS (spTurnBadR K C CB) (WE W) (tCons (tVar 0) (tCons (tVar 1) (tCons (tVar 2) tNil)))))) rfl rfl scWord.nd rfl rfl ⟨rfl, by decide, .inl TK.gE⟩ takes0
        (fun W pn xe tk _ => pss_one (ps_if (pt_cmpR op_eq (pv 3) pe_int (nomark _)) (pss_one (ps_expr (by exact (pe_callS GTd hr (by rfl) gTd FTd.kp bTd (fun σ => passAt tk σ) (by exact (pa_cons (pv 0) (pa_cons (pv 1) (pa_cons (pv 2) pa_nil))))))))
          (pss_one (ps_expr (by exact (pe_callS GTs hr (by rfl) gTs FTs.kp bTs (fun σ => passAt tk σ) (by exact (pa_cons (pv 0) (pa_cons (pv 1) (pa_cons (pv 2) pa_nil))))))))))
        (fun a oe cls d pn hz hf => pss_cons (ps_set (i := 5) scWord.nd rfl (.inl rfl) (by exact (pe_lst (pa_cons (pe_callB (call_isD TK.ed hz hf) (by rfl) B.isinstance (by decide +kernel) (by exact (pa_cons (pv 4) (pa_cons (pe_glob rfl TK.gP rfl) pa_nil)))) (pa_cons (pe_callB (call_isD TK.ed hz hf) (by rfl) B.isinstance (by decide +kernel) (by exact (pa_cons (pv 4) (pa_cons (pe_glob rfl TB.gC rfl) pa_nil)))) (pa_cons (pe_callB (call_isD TK.ed hz hf) (by rfl) B.isinstance (by decide +kernel) (by exact (pa_cons (pv 4) (pa_cons (pe_glob rfl TK.gT rfl) pa_nil)))) (pa_cons (pe_callB (call_isD TK.ed hz hf) (by rfl) B.isinstance (by decide +kernel) (by exact (pa_cons (pv 4) (pa_cons (pe_glob rfl TK.gX rfl) pa_nil)))) pa_nil)))))))
          (pss_cons (ps_if (by exact (PW.pt (pw_or (pt_not (pt_val (pe_callB (call_isD TK.ed hz hf) (by rfl) B.isinstance (by decide +kernel) (by exact (pa_cons (pv 4) (pa_cons (pe_bltn (v := .ty "ValueError") (by rfl) TK.gV (by decide +kernel) rfl) pa_nil)))))) (pw_or1 (pt_cmpR op_ne (pe_bm PySem.F.plainAttrs_list PySem.F.slot_list_count PySem.F.type_list_count (mt_cntB HU) (pv 5) (by exact (pa_cons pe_bl pa_nil))) pe_int (nomark _)))))) pss_never pss_nil)
          (pss_one (ps_ret (by exact (pe_ifExp (pt_val (pe_ix ix_list (pv 5) pe_int (fun _ _ => rfl))) (pe_tup (pa_cons pe_str (pa_cons (pe_byBr TB hz hf (pv 4)) pa_nil))) (pe_tup (pa_cons pe_str (pa_cons (pe_callTy call_int1 (by rfl) B.int (by decide +kernel) (by exact (pa_cons (pe_ix ix_list (pv 5) pe_int (fun _ _ => rfl)) pa_nil))) pa_nil)))))))))) (pss_one (ps_ret pe_non)), ?_⟩
    refine ⟨.int way, rfl, rfl, _, rfl, ite2 (fun h1 => ?_) (fun h1 => ?_)⟩
    · refine ⟨.ref p, rfl, x, rfl, .ref l, rfl, p, l, x, g, z, r, rfl, hP, hI, hx, hS, hR, fun H' d sm nd hd => ⟨true, TK.te, fun _ a na => ?_, fun q => Bool.noConfusion q⟩⟩
      refine ⟨.ref a, rfl, .ref CP, .ref CP, false, _, d, rfl, rfl, rfl, fun u r => r, TK.kP, hd, .ref a, rfl, .ref CB, .ref CB, true, _, d, rfl, rfl, rfl, fun u r => r, TK.kB, hd, .ref a, rfl, .ref CT, .ref CT, false, _, d, rfl, rfl, rfl, fun u r => r, TK.kT, hd, .ref a, rfl, .ref CX, .ref CX, false, _, d, rfl, rfl, rfl, fun u r => r, TK.kX, hd, four_le, fun L nL => ?_⟩
      have s1 : Same H' (upd H' L (.lst [.bl false, .bl true, .bl false, .bl false])) := same_new nL
      have hL : (upd H' L (.lst [.bl false, .bl true, .bl false, .bl false])) L = some (.lst [.bl false, .bl true, .bl false, .bl false]) := upd_same
      have hd1 := s1 _ _ hd
      generalize (upd H' L (.lst [.bl false, .bl true, .bl false, .bl false])) = H1 at s1 hL hd1 ⊢
      refine ⟨.ref a, rfl, .ty "ValueError", .type "ValueError", true, _, d, rfl, rfl, rfl, fun u r => r, TK.kV, hd1, ⟨_, rfl, iteF ?_⟩⟩
      refine ⟨.ref L, rfl, .inl ⟨rfl, _, SqL.of hL⟩, ?_⟩
      refine ⟨L, [false, true, false, false], true, rfl, rfl, SqL.of hL, rfl, _, rfl, iteF ?_⟩
      refine ⟨.ref L, rfl, L, _, 1, .bl true, rfl, rfl, SqL.of hL, rfl, ⟨_, rfl, iteT ?_⟩⟩
      exact ⟨.ref a, rfl, rfl, rfl, d, _, rfl, hd1, two_le, fun q1 nq1 => q q1 _ ((sm.trans s1).trans (same_new nq1)) upd_same⟩
    · refine ⟨.ref p, rfl, x, rfl, .ref l, rfl, p, l, x, g, z, r, rfl, hP, hI, hx, hS, hR, fun H' d sm nd hd => ⟨true, TK.te, fun _ a na => ?_, fun q => Bool.noConfusion q⟩⟩
      refine ⟨.ref a, rfl, .ref CP, .ref CP, false, _, d, rfl, rfl, rfl, fun u r => r, TK.kP, hd, .ref a, rfl, .ref CB, .ref CB, true, _, d, rfl, rfl, rfl, fun u r => r, TK.kB, hd, .ref a, rfl, .ref CT, .ref CT, false, _, d, rfl, rfl, rfl, fun u r => r, TK.kT, hd, .ref a, rfl, .ref CX, .ref CX, false, _, d, rfl, rfl, rfl, fun u r => r, TK.kX, hd, four_le, fun L nL => ?_⟩
      have s1 : Same H' (upd H' L (.lst [.bl false, .bl true, .bl false, .bl false])) := same_new nL
      have hL : (upd H' L (.lst [.bl false, .bl true, .bl false, .bl false])) L = some (.lst [.bl false, .bl true, .bl false, .bl false]) := upd_same
      have hd1 := s1 _ _ hd
      generalize (upd H' L (.lst [.bl false, .bl true, .bl false, .bl false])) = H1 at s1 hL hd1 ⊢
      refine ⟨.ref a, rfl, .ty "ValueError", .type "ValueError", true, _, d, rfl, rfl, rfl, fun u r => r, TK.kV, hd1, ⟨_, rfl, iteF ?_⟩⟩
      refine ⟨.ref L, rfl, .inl ⟨rfl, _, SqL.of hL⟩, ?_⟩
      refine ⟨L, [false, true, false, false], true, rfl, rfl, SqL.of hL, rfl, _, rfl, iteF ?_⟩
      refine ⟨.ref L, rfl, L, _, 1, .bl true, rfl, rfl, SqL.of hL, rfl, ⟨_, rfl, iteT ?_⟩⟩
      exact ⟨.ref a, rfl, rfl, rfl, d, _, rfl, hd1, two_le, fun q1 nq1 => q q1 _ ((sm.trans s1).trans (same_new nq1)) upd_same⟩
def spWordT (K : PySem.W.Frag) (C : Addr) : Sp := fun vs H Q _ => ∃ (p l : Addr) (x : V) (g : Nat) (s : Int) (r : Rnd) (tn : List Int) (way : Int), vs = [.ref p, x, .ref l, .int way] ∧ PartyV C H p g s ∧ IsParty g s ∧ RndV H x r ∧ Small [r] ∧ IsRound g s r ∧ SqL K H l (tn.map V.int) ∧ ¬ tn.Perm (rangeI g) ∧ ∀ q H', Same H H' → H' q = some (.tup [.str "turning", .int 1]) → Q (.ref q) H'
theorem ok_wordT {f fTd fTs fB C CB PE CP CT CX : Addr} {fd fdTd fdTs : FuncData} (F : Fun K "_law_word" "_law_word" lWord f fd) (B : Blt mg) (TB : PySem.BrX.BrTxt P K mg CB fB) (TK : Kinds K mg CB PE CP CT CX) (TT : KindsT K CB PE CP CT CX)
    (GTd : FnOk P w K mg base (L2.CX P w) 6 fTd fdTd ["party", "tables", "turning"] (spTurnBadT K C CX)) (FTd : Fun K "turned" "turned" sTurned fTd fdTd) (bTd : Binds K fdTd ["party", "tables", "turning"] []) (gTd : mg "turned" = some (.ref fTd))
    (GTs : FnOk P w K mg base (L2.CX P w) 6 fTs fdTs ["party", "tables", "turning"] (spTurnBadT K C CX)) (FTs : Fun K "turns" "turns" sTurns fTs fdTs) (bTs : Binds K fdTs ["party", "tables", "turning"] []) (gTs : mg "turns" = some (.ref fTs)) :
    FnOk P w K mg base CX0 7 f fd ["_law_party", "_law_tables", "_law_turning_here", "_law_way"] (spWordT K C) := by
  refine F.ok scWord (fun vs H Q E h => ?_) (fun cdv A outer s H vs Q E hr h => ?_)
  · obtain ⟨p, l, x, g, z, r, tn, way, rfl, hP, hI, hx, hS, hR, hl, hperm, q⟩ := h
    rfl
  · obtain ⟨p, l, x, g, z, r, tn, way, rfl, hP, hI, hx, hS, hR, hl, hperm, q⟩ := h
    have HU := hr.units
    refine ⟨_, pss_cons (ps_try_as (i := 4) (Wout := fun _ _ _ _ => False) (ts := fun a cls d => tSeq (tAsg (tLst (tCons (tCB (rIsN K CX a cls d) (tCons (tVar 4) (tCons (tC (.ref CP)) tNil))) (tCons (tCB (rIsN K CX a cls d) (tCons (tVar 4) (tCons (tC (.ref CB)) tNil))) (tCons (tCB (rIsN K CX a cls d) (tCons (tVar 4) (tCons (tC (.ref CT)) tNil))) (tCons (tCB (rIsN K CX a cls d) (tCons (tVar 4) (tCons (tC (.ref CX)) tNil))) tNil))))) (gName 5))
        (tSeq (tIfS (tOr (tNot (tB (tCB (rIsN K CX a cls d) (tCons (tVar 4) (tCons (tC (.ty "ValueError")) tNil))))) (tTest (tOp rNe (tBM K "list" (rCntB K) (tVar 5) (tCons (tC (.bl true)) tNil)) (tC (.int 1))))) tNever tNext)
        (tRet (tIf (tB (tOp (rIxL K) (tVar 5) (tC (.int 1)))) (tTup (tCons (tC (.str "round")) (tCons (tByBr CB a cls d (tVar 4)) tNil))) (tTup (tCons (tC (.str "turning")) (tCons (tCB (fun xs H Q => (∃ i, xs = [V.int i] ∧ Q (.int i) H) ∨ ∃ k, xs = [V.bl k] ∧ Q (.int (if k then 1 else 0)) H) (tCons (tOp (rIxL K) (tVar 5) (tC (.int 3))) tNil)) tNil))))))) (tb := fun W => tIfS (tTest (tOp rEq (tVar 3) (tC (.int 0)))) (tDrop (tCallS (spTurnBadT K C CX) (WE W) (tCons (tVar 0) (tCons (tVar 1) (tCons (tVar 2) tNil))))) (tDrop (tCallS (spTurnBadT K C CX) (WE W) (tCons (tVar 0) (tCons (tVar 1) (tCons (tVar 2) tNil)))))) rfl rfl scWord.nd rfl rfl ⟨rfl, by decide, .inl TK.gE⟩ takes0
        (fun W pn xe tk _ => pss_one (ps_if (pt_cmpR op_eq (pv 3) pe_int (nomark _)) (pss_one (ps_expr (by exact (pe_callS GTd hr (by rfl) gTd FTd.kp bTd (fun σ => passAt tk σ) (by exact (pa_cons (pv 0) (pa_cons (pv 1) (pa_cons (pv 2) pa_nil))))))))
          (pss_one (ps_expr (by exact (pe_callS GTs hr (by rfl) gTs FTs.kp bTs (fun σ => passAt tk σ) (by exact (pa_cons (pv 0) (pa_cons (pv 1) (pa_cons (pv 2) pa_nil))))))))))
        (fun a oe cls d pn hz hf => pss_cons (ps_set (i := 5) scWord.nd rfl (.inl rfl) (by exact (pe_lst (pa_cons (pe_callB (call_isN TT.ed hz hf) (by rfl) B.isinstance (by decide +kernel) (by exact (pa_cons (pv 4) (pa_cons (pe_glob rfl TK.gP rfl) pa_nil)))) (pa_cons (pe_callB (call_isN TT.ed hz hf) (by rfl) B.isinstance (by decide +kernel) (by exact (pa_cons (pv 4) (pa_cons (pe_glob rfl TB.gC rfl) pa_nil)))) (pa_cons (pe_callB (call_isN TT.ed hz hf) (by rfl) B.isinstance (by decide +kernel) (by exact (pa_cons (pv 4) (pa_cons (pe_glob rfl TK.gT rfl) pa_nil)))) (pa_cons (pe_callB (call_isN TT.ed hz hf) (by rfl) B.isinstance (by decide +kernel) (by exact (pa_cons (pv 4) (pa_cons (pe_glob rfl TK.gX rfl) pa_nil)))) pa_nil)))))))
          (pss_cons (ps_if (by exact (PW.pt (pw_or (pt_not (pt_val (pe_callB (call_isN TT.ed hz hf) (by rfl) B.isinstance (by decide +kernel) (by exact (pa_cons (pv 4) (pa_cons (pe_bltn (v := .ty "ValueError") (by rfl) TK.gV (by decide +kernel) rfl) pa_nil)))))) (pw_or1 (pt_cmpR op_ne (pe_bm PySem.F.plainAttrs_list PySem.F.slot_list_count PySem.F.type_list_count (mt_cntB HU) (pv 5) (by exact (pa_cons pe_bl pa_nil))) pe_int (nomark _)))))) pss_never pss_nil)
          (pss_one (ps_ret (by exact (pe_ifExp (pt_val (pe_ix ix_list (pv 5) pe_int (fun _ _ => rfl))) (pe_tup (pa_cons pe_str (pa_cons (pe_byBr TB hz hf (pv 4)) pa_nil))) (pe_tup (pa_cons pe_str (pa_cons (pe_callTy call_int1 (by rfl) B.int (by decide +kernel) (by exact (pa_cons (pe_ix ix_list (pv 5) pe_int (fun _ _ => rfl)) pa_nil))) pa_nil)))))))))) (pss_one (ps_ret pe_non)), ?_⟩
    refine ⟨.int way, rfl, rfl, _, rfl, ite2 (fun h1 => ?_) (fun h1 => ?_)⟩
    · refine ⟨.ref p, rfl, x, rfl, .ref l, rfl, p, l, x, g, z, r, tn, rfl, hP, hI, hx, hS, hR, hl, hperm, fun H' sm => ⟨true, TT.te, fun _ a na => ?_, fun q => Bool.noConfusion q⟩⟩
      refine ⟨.ref a, rfl, .ref CP, .ref CP, false, rfl, rfl, rfl, fun u r => r, TT.kP, .ref a, rfl, .ref CB, .ref CB, false, rfl, rfl, rfl, fun u r => r, TT.kB, .ref a, rfl, .ref CT, .ref CT, false, rfl, rfl, rfl, fun u r => r, TT.kT, .ref a, rfl, .ref CX, .ref CX, true, rfl, rfl, rfl, fun u r => r, TT.kX, four_le, fun L nL => ?_⟩
      have s1 : Same H' (upd H' L (.lst [.bl false, .bl false, .bl false, .bl true])) := same_new nL
      have hL : (upd H' L (.lst [.bl false, .bl false, .bl false, .bl true])) L = some (.lst [.bl false, .bl false, .bl false, .bl true]) := upd_same
      generalize (upd H' L (.lst [.bl false, .bl false, .bl false, .bl true])) = H1 at s1 hL ⊢
      refine ⟨.ref a, rfl, .ty "ValueError", .type "ValueError", true, rfl, rfl, rfl, fun u r => r, TT.kV, ⟨_, rfl, iteF ?_⟩⟩
      refine ⟨.ref L, rfl, .inl ⟨rfl, _, SqL.of hL⟩, ?_⟩
      refine ⟨L, [false, false, false, true], true, rfl, rfl, SqL.of hL, rfl, _, rfl, iteF ?_⟩
      refine ⟨.ref L, rfl, L, _, 1, .bl false, rfl, rfl, SqL.of hL, rfl, ⟨_, rfl, iteF ?_⟩⟩
      exact ⟨.ref L, rfl, L, _, 3, .bl true, rfl, rfl, SqL.of hL, rfl, .inr ⟨true, rfl, two_le, fun q1 nq1 => q q1 _ ((sm.trans s1).trans (same_new nq1)) upd_same⟩⟩
    · refine ⟨.ref p, rfl, x, rfl, .ref l, rfl, p, l, x, g, z, r, tn, rfl, hP, hI, hx, hS, hR, hl, hperm, fun H' sm => ⟨true, TT.te, fun _ a na => ?_, fun q => Bool.noConfusion q⟩⟩
      refine ⟨.ref a, rfl, .ref CP, .ref CP, false, rfl, rfl, rfl, fun u r => r, TT.kP, .ref a, rfl, .ref CB, .ref CB, false, rfl, rfl, rfl, fun u r => r, TT.kB, .ref a, rfl, .ref CT, .ref CT, false, rfl, rfl, rfl, fun u r => r, TT.kT, .ref a, rfl, .ref CX, .ref CX, true, rfl, rfl, rfl, fun u r => r, TT.kX, four_le, fun L nL => ?_⟩
      have s1 : Same H' (upd H' L (.lst [.bl false, .bl false, .bl false, .bl true])) := same_new nL
      have hL : (upd H' L (.lst [.bl false, .bl false, .bl false, .bl true])) L = some (.lst [.bl false, .bl false, .bl false, .bl true]) := upd_same
      generalize (upd H' L (.lst [.bl false, .bl false, .bl false, .bl true])) = H1 at s1 hL ⊢
      refine ⟨.ref a, rfl, .ty "ValueError", .type "ValueError", true, rfl, rfl, rfl, fun u r => r, TT.kV, ⟨_, rfl, iteF ?_⟩⟩
      refine ⟨.ref L, rfl, .inl ⟨rfl, _, SqL.of hL⟩, ?_⟩
      refine ⟨L, [false, false, false, true], true, rfl, rfl, SqL.of hL, rfl, _, rfl, iteF ?_⟩
      refine ⟨.ref L, rfl, L, _, 1, .bl false, rfl, rfl, SqL.of hL, rfl, ⟨_, rfl, iteF ?_⟩⟩
      exact ⟨.ref L, rfl, L, _, 3, .bl true, rfl, rfl, SqL.of hL, rfl, .inr ⟨true, rfl, two_le, fun q1 nq1 => q q1 _ ((sm.trans s1).trans (same_new nq1)) upd_same⟩⟩
end Nf

set_option Elab.async false
set_option linter.all false
set_option maxRecDepth 100000
set_option maxHeartbeats 4000000
namespace Nf
open PySem PySem.Spec PyProof.Rows L2
/-! ### for all laws: rounds as trees; what follows an if, met once -/
theorem intsT {H : Hp} : ∀ ns : List Int, Paired (Tree H 0) (ns.map V.int) (ns.map V.int)
  | [] => .nil
  | n :: ns => .cons ⟨rfl, .inr (.inr (.inl ⟨n, rfl⟩))⟩ (intsT ns)
theorem tabT {H : Hp} {x y : V} {t : Tbl} (h1 : TabV H x t) (h2 : TabV H y t) (hl : t.length ≤ 100000) : Tree H 1 x y := by
  obtain ⟨p, rfl, hp⟩ := h1
  obtain ⟨q, rfl, hq⟩ := h2
  exact .inr ⟨p, q, _, _, rfl, rfl, .inl ⟨hp, hq⟩, by rw [List.length_map]; exact hl, intsT t⟩
theorem tabsT {H : Hp} : ∀ {r : Rnd} {xs ys : List V}, Paired (TabV H) xs r → Paired (TabV H) ys r → (∀ t ∈ r, t.length ≤ 100000) → Paired (Tree H 1) xs ys
  | _, _, _, .nil, .nil, _ => .nil
  | _, _, _, .cons r t, .cons r' t', h => .cons (tabT r r' (h _ (by simp))) (tabsT t t' fun row hr => h row (by simp [hr]))
theorem rndT {H : Hp} {x y : V} {r : Rnd} (h1 : RndV H x r) (h2 : RndV H y r) (hl : r.length ≤ 100000) (ht : ∀ t ∈ r, t.length ≤ 100000) : Tree H 2 x y := by
  obtain ⟨p, xs, rfl, hp, px⟩ := h1
  obtain ⟨q, ys, rfl, hq, py⟩ := h2
  exact .inr ⟨p, q, _, _, rfl, rfl, .inl ⟨hp, hq⟩, by rw [paired_len px]; exact hl, tabsT px py ht⟩
theorem rndsT {H : Hp} : ∀ {rs : List Rnd} {xs ys : List V}, Paired (RndV H) xs rs → Paired (RndV H) ys rs → (∀ r ∈ rs, r.length ≤ 100000 ∧ ∀ t ∈ r, t.length ≤ 100000) → Paired (Tree H 2) xs ys
  | _, _, _, .nil, .nil, _ => .nil
  | _, _, _, .cons r t, .cons r' t', h => .cons (rndT r r' (h _ (by simp)).1 (h _ (by simp)).2) (rndsT t t' fun row hr => h row (by simp [hr]))
theorem joinS {c : Bool} {t : TS} {D : Ends} {σ : L2.St} {H : Hp} {Ok : L2.St → Hp → Prop} (hN : ∀ σ' H', Ok σ' H' → D.nx σ' H') (hA : c = true → (∀ σ' H', Ok σ' H' → D.nx σ' H') → t D σ H) (h : c = false → Ok σ H) : if c = true then t D σ H else D.nx σ H := by
  cases c with
  | true => exact iteT (hA rfl hN)
  | false => exact iteF (hN _ _ (h rfl))
theorem ifTrue {tt : TT} {t u k : TS} {D : Ends} {σ : L2.St} {H : Hp} (Ok : Hp → Prop) (h : ∀ F' : Bool → Hp → Prop, (∀ H', Ok H' → F' true H') → tt σ H F') (hF : ∀ H', Ok H' → t { D with nx := k D } σ H') : tSeq (tIfS tt t u) k D σ H := h _ fun H' o => iteT (hF H' o)
theorem ifFalse {tt : TT} {t u k : TS} {D : Ends} {σ : L2.St} {H : Hp} (Ok : Hp → Prop) (h : ∀ F' : Bool → Hp → Prop, (∀ H', Ok H' → F' false H') → tt σ H F') (hF : ∀ H', Ok H' → u { D with nx := k D } σ H') : tSeq (tIfS tt t u) k D σ H := h _ fun H' o => iteF (hF H' o)
end Nf

set_option Elab.async false
set_option linter.all false
set_option maxRecDepth 100000
set_option maxHeartbeats 4000000
namespace Nf
open PySem PySem.Spec PyProof.Rows L2
variable {P : Program} {w : World} {K : PySem.W.Frag} {mg : Str → Option Value} {base : Heap}
/-! ### law_k06 -/
theorem turns_some {g : Nat} {s : Int} {r : Rnd} {tn : List Int} (hR : IsRound g s r) (hp : tn.Perm (rangeI g)) (hg : g ≤ 64) : ∃ n, IsTurns tn r n := by
  by_cases h : pairsR r = []
  · exact ⟨0, .inl ⟨h, rfl⟩⟩
  · have key : ∃ n, ¬ FreshM tn r n := Classical.byContradiction fun z => by
      have all : ∀ i, FreshM tn r i := fun i => Classical.byContradiction fun y => z ⟨i, y⟩
      have := old_len hR hp hg h (k := 2017) fun i _ => all i
      omega
    obtain ⟨n, hn⟩ := key
    obtain ⟨k, _, h1, h2⟩ := st_least (p := fun n => ¬ FreshM tn r n) n hn
    exact ⟨k, .inr ⟨h, fun i hi => Classical.byContradiction fun y => h2 i hi y, h1⟩⟩
theorem cat_one {H : Hp} {px t1 t2 : Addr} {pxs : List V} {rd : Rnd} {g : Int} {Q : VK} (hpx : H px = some (.tup pxs)) (hp : Paired (TabV H) pxs rd) (h1 : H t1 = some (.tup ([g].map V.int))) (h2 : H t2 = some (.tup [.ref t1])) (hl : pxs.length + 1 ≤ sizeLine) (q : ∀ y H', Same H H' → RndV H' y (rd ++ [[g]]) → Q y H') : rCatA K (.ref px) (.ref t2) H Q := by
  refine ⟨px, t2, pxs, [.ref t1], rfl, rfl, SqT.of hpx, SqT.of h2, hl, fun e => ?_, (fun _ e => by cases e), fun _ _ bq nb => ?_⟩
  · subst e
    cases hp
    exact q _ H (Same.refl _) ⟨t2, _, rfl, h2, .cons ⟨t1, rfl, h1⟩ .nil⟩
  · have s : Same H (upd H bq (.tup (pxs ++ [.ref t1]))) := same_new nb
    exact q _ _ s ⟨bq, _, rfl, upd_same, paired_snoc (paired_mono (fun _ _ h => h.mono (same_toT s)) hp) ⟨t1, rfl, s _ _ h1⟩⟩
theorem scLaw : FnScope ["_law_script", "_law_row", "_law_turn", "_law_guests", "_law_size", "_law_party", "_law_tables", "_law_turning_here", "_law_handed", "_law_found", "_law_odd_here", "_law_bad", "_law_way"] ["_law_script"] (defScope lLaw) := ⟨rfl, rfl, rfl, by decide +kernel, rfl, by decide +kernel, by decide +kernel⟩
def spLaw (K : PySem.W.Frag) : Sp := fun vs H Q _ => ∃ (a : Addr) (ns : List Int), vs = [.ref a] ∧ SqL K H a (ns.map V.int) ∧ ns.length ≤ 63 ∧ ∀ H', Q (.bl true) H'
theorem ok_law {f C fi fT fA fMy fM fS fH fTn fMv fMt fO fTd fTs fW : Addr} {fd fdi fdT fdA fdMy fdM fdS fdH fdTn fdMv fdMt fdO fdTd fdTs fdW : FuncData} (F : Fun K "law" "law" lLaw f fd) (B : Blt mg) (T : Txt K mg C) (M : Mk K C fi) (GI : FnOk P w K mg base CX0 2 fi fdi ["self", "guests", "size"] (spInit C)) (bi : Binds K fdi ["self", "guests", "size"] [])
    (HT : Has P w K mg base 1 "_law_taken" fT fdT ["_law_row", "_law_many_here"] (spTaken K)) (HA : Has P w K mg base 3 "_law_alike" fA fdA ["_law_found", "_law_due"] (spTree 2)) (HMy : Has P w K mg base 3 "_law_many" fMy fdMy ["_law_row"] (spMany K)) (HM : Has P w K mg base 2 "_law_mixed" fM fdM ["_law_row", "_law_some"] (spMixed K))
    (HS : Has P w K mg base 1 "_law_seated" fS fdS ["_law_guests", "_law_size"] (spSeated K)) (HH : Has P w K mg base 2 "_law_thin" fH fdH ["_law_row", "_law_tables"] (spThin K)) (HTn : Has P w K mg base 3 "_law_turning" fTn fdTn ["_law_row", "_law_guests"] (spTurning K))
    (HMv : Has P w K mg base 1 "_law_moved" fMv fdMv ["_law_tables", "_law_turning_here"] (spMoved K)) (HMt : Has P w K mg base 3 "_law_many_turns" fMt fdMt ["_law_tables", "_law_turning_here"] (spManyTurns K)) (HO : Has P w K mg base 2 "_law_odd" fO fdO ["_law_row", "_law_turning_here"] (spOdd K))
    (HTd : Has P w K mg base 6 "turned" fTd fdTd ["party", "tables", "turning"] (spTurnedOk K C)) (HTs : Has P w K mg base 6 "turns" fTs fdTs ["party", "tables", "turning"] (spTurnsOk K C))
    (HWT : Has P w K mg base 7 "_law_word" fW fdW ["_law_party", "_law_tables", "_law_turning_here", "_law_way"] (spWordT K C)) (HWR : Has P w K mg base 7 "_law_word" fW fdW ["_law_party", "_law_tables", "_law_turning_here", "_law_way"] (spWordR K C)) :
    FnOk P w K mg base CX0 8 f fd ["_law_script"] (spLaw K) := by
  refine F.ok scLaw (fun vs H Q E h => ?_) (fun cdv A outer s H vs Q E hr h => ?_)
  · obtain ⟨a, ns, rfl, _⟩ := h
    rfl
  · obtain ⟨a, ns, rfl, hS, hlen, q⟩ := h
    have hr1 : Room 1 _ := hr.mono (by decide)
    have hr2 : Room 2 _ := hr.mono (by decide)
    have hr3 : Room 3 _ := hr.mono (by decide)
    have hr6 : Room 6 _ := hr.mono (by decide)
    refine ⟨_, pss_cons (ps_set (i := 1) scLaw.nd rfl (.inl rfl) (pe_lst (pa_cons (pv 0) (pa_cons pe_int (pa_cons pe_int (pa_cons pe_int pa_nil))))))
      (pss_cons (ps_for PassesOwn.never rfl (pi_range1 (by rfl) B.range (pa_cons pe_int pa_nil)) (pg_name (i := 2) scLaw.nd rfl (.inl rfl))
        (pss_cons (ps_asg (pe_call HMy.ok hr3 (by rfl) HMy.g HMy.kp HMy.b .nil pass0 (pa_cons (pv 1) pa_nil)) (pg_tup rfl (pgs_cons (pg_name (i := 3) scLaw.nd rfl (.inl rfl)) (pgs_cons (pg_name (i := 4) scLaw.nd rfl (.inl rfl)) pgs_nil))))
        (pss_cons (ps_set (i := 5) scLaw.nd rfl (.inl rfl) (pe_make M GI hr3 (by rfl) T.mgC bi .nil pass0 (pa_cons (pv 3) (pa_cons (pv 4) pa_nil))))
        (pss_cons (ps_set (i := 6) scLaw.nd rfl (.inl rfl) (pe_call HS.ok hr1 (by rfl) HS.g HS.kp HS.b .nil pass0 (pa_cons (pe_call HM.ok hr2 (by rfl) HM.g HM.kp HM.b .nil pass0 (pa_cons (pv 1) (pa_cons (pe_listRg rfl (by rfl) B.list (prg_1 (by rfl) B.range (pv 3))) pa_nil))) (pa_cons (pv 4) pa_nil))))
        (pss_cons (ps_if (pt_cmpR op_eq (pe_call HT.ok hr1 (by rfl) HT.g HT.kp HT.b .nil pass0 (pa_cons (pv 1) (pa_cons pe_int pa_nil))) pe_int (nomark _)) (pss_one (ps_set (i := 6) scLaw.nd rfl (.inl rfl) (pe_call HH.ok hr2 (by rfl) HH.g HH.kp HH.b .nil pass0 (pa_cons (pv 1) (pa_cons (pv 6) pa_nil))))) pss_nil)
        (pss_cons (ps_set (i := 7) scLaw.nd rfl (.inl rfl) (pe_call HTn.ok hr3 (by rfl) HTn.g HTn.kp HTn.b .nil pass0 (pa_cons (pv 1) (pa_cons (pv 3) pa_nil))))
        (pss_cons (ps_set (i := 8) scLaw.nd rfl (.inl rfl) (pe_callTy call_list_of (by rfl) B.list (by decide +kernel) (pa_cons (pv 7) pa_nil)))
        (pss_cons (ps_if (pt_not (pt_val (pe_call HA.ok hr3 (by rfl) HA.g HA.kp HA.b .nil pass0 (pa_cons (pe_call HTd.ok hr6 (by rfl) HTd.g HTd.kp HTd.b .nil pass0 (pa_cons (pv 5) (pa_cons (pv 6) (pa_cons (pv 8) pa_nil)))) (pa_cons (pe_call HMv.ok hr1 (by rfl) HMv.g HMv.kp HMv.b .nil pass0 (pa_cons (pv 6) (pa_cons (pv 7) pa_nil))) pa_nil))))) pss_never pss_nil)
        (pss_cons (ps_set (i := 9) scLaw.nd rfl (.inl rfl) (pe_call HTs.ok hr6 (by rfl) HTs.g HTs.kp HTs.b .nil pass0 (pa_cons (pv 5) (pa_cons (pv 6) (pa_cons (pv 8) pa_nil)))))
        (pss_cons (ps_if (PW.pt (pw_or (pt_not (pt_val (pe_call HA.ok hr3 (by rfl) HA.g HA.kp HA.b .nil pass0 (pa_cons (pv 9) (pa_cons (pe_call HMt.ok hr3 (by rfl) HMt.g HMt.kp HMt.b .nil pass0 (pa_cons (pv 6) (pa_cons (pv 7) pa_nil))) pa_nil))))) (pw_or1 (pt_cmpR (op_neD hr.units) (pv 8) (pv 7) (nomark _))))) pss_never pss_nil)
        (pss_cons (ps_set (i := 10) scLaw.nd rfl (.inl rfl) (pe_call HO.ok hr2 (by rfl) HO.g HO.kp HO.b .nil pass0 (pa_cons (pv 1) (pa_cons (pv 7) pa_nil))))
        (pss_cons (ps_set (i := 11) scLaw.nd rfl (.inl rfl) (pe_op op_catA (pv 6) (pe_tup (pa_cons (pe_tup (pa_cons (pv 3) pa_nil)) pa_nil))))
        (pss_one (ps_for PassesOwn.never rfl (pi_range1 (by rfl) B.range (pa_cons pe_int pa_nil)) (pg_name (i := 12) scLaw.nd rfl (.inl rfl))
          (pss_cons (ps_if (pt_cmpR (op_neD hr.units) (pe_call HWT.ok hr (by rfl) HWT.g HWT.kp HWT.b .nil pass0 (pa_cons (pv 5) (pa_cons (pv 6) (pa_cons (pv 10) (pa_cons (pv 12) pa_nil))))) (pe_tup (pa_cons pe_str (pa_cons pe_int pa_nil))) (nomark _)) pss_never pss_nil)
          (pss_one (ps_if (pt_cmpR (op_neD hr.units) (pe_call HWR.ok hr (by rfl) HWR.g HWR.kp HWR.b .nil pass0 (pa_cons (pv 5) (pa_cons (pv 11) (pa_cons (pe_ix ix_list (pe_lst (pa_cons (pv 10) (pa_cons (pv 7) pa_nil))) (pv 12) (fun _ _ => rfl)) (pa_cons (pv 12) pa_nil))))) (pe_tup (pa_cons pe_str (pa_cons pe_int pa_nil))) (nomark _)) pss_never pss_nil)))))))))))))))))
      (pss_one (ps_ret pe_bl))), ?_⟩
    have big : (100000 : Nat) < sizeLine := by decide
    refine ⟨.ref a, rfl, four_le, fun r nr => ?_⟩
    have R0 : RowAt K (upd H r (.lst [.ref a, .int 0, .int 0, .int 0])) r a ns := RowAt.new hS nr
    refine ⟨4, rfl, by decide, by decide, ?_⟩
    refine for_it walk_range (fun i σ H2 => ∃ (y2 y3 y4 y5 y6 y7 y8 y9 y10 y11 y12 : Option V), σ = [some (.ref a), some (.ref r), y2, y3, y4, y5, y6, y7, y8, y9, y10, y11, y12] ∧ RowAt K H2 r a ns)
      ⟨none, none, none, none, none, none, none, none, none, none, none, rfl, R0⟩ (fun _ _ _ _ _ => trivial) (fun i x σ H2 H3 hi hI2 y => ?_) (fun σ H2 hI2 => ?_)
    · obtain ⟨y2, y3, y4, y5, y6, y7, y8, y9, y10, y11, y12, rfl, R2⟩ := hI2
      obtain ⟨rfl, rfl⟩ := y
      -- guests, size = many(row)
      refine ⟨.ref r, rfl, r, a, ns, rfl, R2, fun x H4 g z R4 s4 hx hI => ?_⟩
      obtain ⟨T1, rfl, hT1⟩ := hx
      refine ⟨T1, _, rfl, SqT.of hT1, rfl, _, _, rfl, _, _, rfl, rfl, ?_⟩
      -- Party(guests, size)
      refine ⟨.int g, rfl, .int z, rfl, fun p dx np ndx nex => ?_⟩
      refine ⟨p, dx, g, z, rfl, upd_same, hI, rfl, ?_⟩
      rw [upd_upd]
      have s5 : Same H4 (upd (upd H4 dx (.own p)) p (.ins C dx (pf g z))) := (same_new (o := .own p) ndx).trans (same_new (by rw [upd_ne nex.symm]; exact np))
      have hp5 : (upd (upd H4 dx (.own p)) p (.ins C dx (pf g z))) p = some (.ins C dx (pf g z)) := upd_same
      have R5 := R4.keep s5
      generalize (upd (upd H4 dx (.own p)) p (.ins C dx (pf g z))) = H5 at s5 hp5 R5 ⊢
      obtain ⟨xr5, hxr5⟩ := R5.lst
      have npr : p ≠ r := ne_of hp5 hxr5 (by intro e; cases e)
      obtain ⟨n, zn, ez, eg, hz1, hz8, hn64⟩ := party_nat hI
      -- seated(mixed(row, list(range(guests))), size)
      refine ⟨.ref r, rfl, .int g, rfl, g, rfl, RgOk.of_le (by decide) (by have := hI.g64; omega) (by decide) (by have := hI.g2; omega), fun b1 nb1 => ?_⟩
      have er : rgV 0 g = (rangeI (n * zn)).map V.int := by
        rw [eg]
        exact rgV_range _
      rw [er]
      have sb1 : Same H5 (upd H5 b1 (.lst ((rangeI (n * zn)).map V.int))) := same_new nb1
      refine ⟨r, a, b1, ns, rangeI (n * zn), rfl, R5.keep sb1, SqL.of upd_same, by rw [rangeI_len]; omega, fun c H6 l' R6 s6 nc hc hp => ?_⟩
      refine ⟨.int z, rfl, c, l', zn, n, by rw [ez]; rfl, SqL.of hc, hz1, by omega, by rw [hp.length_eq, rangeI_len], by omega, fun x H7 s7 hx => ?_⟩
      have hRd : IsRound g z (seatedM l' zn n) := drawn_round hI ez eg hz1 hp
      have hp7 : H7 p = some (.ins C dx (pf g z)) := s7 _ _ (s6 _ _ npr (sb1 _ _ hp5))
      have R7 := R6.keep s7
      generalize seatedM l' zn n = rd at hx hRd
      obtain ⟨hb1, hb2⟩ := round_bd hI hRd
      -- some away
      refine ⟨.ref r, rfl, r, a, ns, 2, rfl, R7, by decide, by decide, fun v H8 v0 v2 R8 s8 => ?_⟩
      obtain ⟨xr7, hxr7⟩ := R7.lst
      have hx8 := hx.mono (s8.toT hxr7)
      have hp8 := s8 _ _ npr hp7
      refine ⟨rfl, _, rfl, joinS (Ok := fun σ' H' => ∃ (x : V) (rd : Rnd), σ' = [some (.ref a), some (.ref r), some (.int (0 + (i : Nat))), some (.int g), some (.int z), some (.ref p), some x, y7, y8, y9, y10, y11, y12] ∧ RowAt K H' r a ns ∧ H' p = some (.ins C dx (pf g z)) ∧ RndV H' x rd ∧ IsRound g z rd) (fun σ' H9 hOk => ?rest) (fun hc hN => ?thin) (fun hc => ⟨x, rd, rfl, R8, hp8, hx8, hRd⟩)⟩
      case thin =>
        refine ⟨.ref r, rfl, x, rfl, r, a, ns, x, rd, rfl, R8, hx8, by omega, fun t ht => by have := hb2 t ht; omega, fun y H9 ff R9 s9 hy hT => ?_⟩
        exact hN _ _ ⟨y, sortT ff, rfl, R9, s9 _ _ npr hp8, hy, hT.round hRd⟩
      obtain ⟨x, rd, rfl, R9, hp9, hx9, hRd⟩ := hOk
      have egN : g = ((g.toNat : Nat) : Int) := by
        have := hI.g2
        omega
      have g1 : 1 ≤ g.toNat := by have := hI.g2; omega
      have g64 : g.toNat ≤ 64 := by have := hI.g64; omega
      have hI' : IsParty ((g.toNat : Nat) : Int) z := egN ▸ hI
      have hRd' : IsRound ((g.toNat : Nat) : Int) z rd := egN ▸ hRd
      obtain ⟨hb1, hb2⟩ := round_bd hI hRd
      -- turning
      refine ⟨.ref r, rfl, .int g, rfl, r, a, ns, g.toNat, congrArg (fun i => [V.ref r, V.int i]) egN, R9, g1, g64, fun tq H10 tn R10 s10 ntq htq hperm => ?_⟩
      obtain ⟨xr9, hxr9⟩ := R9.lst
      have hx10 := hx9.mono (s10.toT hxr9)
      have hp10 := s10 _ _ npr hp9
      have ntr : tq ≠ r := fun e => by
        rw [e, hxr9] at ntq
        cases ntq
      -- handed
      refine ⟨.ref tq, rfl, tq, _, rfl, .inl (SqL.of htq), fun hq nhq => ?_⟩
      have s11 : Same H10 (upd H10 hq (.lst (tn.map V.int))) := same_new nhq
      have hhq : (upd H10 hq (.lst (tn.map V.int))) hq = some (.lst (tn.map V.int)) := upd_same
      have htq11 := s11 _ _ htq
      have hx11 := hx10.mono (same_toT s11)
      have hp11 := s11 _ _ hp10
      have R11 := R10.keep s11
      generalize (upd H10 hq (.lst (tn.map V.int))) = H11 at s11 hhq htq11 hx11 hp11 R11 ⊢
      have hsm : Small [rd] := ⟨by simp, fun r' h => by rw [List.mem_singleton.mp h]; omega, fun r' h t ht => by rw [List.mem_singleton.mp h] at ht; have := hb2 t ht; omega⟩
      have hP11 : PartyV C H11 p ((g.toNat : Nat) : Int) z := ⟨dx, by rw [← egN]; exact hp11⟩
      -- alike(turned(..), moved(..))
      refine ⟨.ref p, rfl, x, rfl, .ref hq, rfl, p, hq, x, g.toNat, z, rd, tn, rfl, hP11, hI', hx11, hsm, hRd', SqL.of hhq, hperm, fun v1 H12 s12 hv1 => ?_⟩
      obtain ⟨d1, d2⟩ := moved_dom hI' hRd' hperm
      refine ⟨x, rfl, .ref tq, rfl, x, tq, rd, tn, rfl, hx11.mono (same_toT s12), SqL.of (s12 _ _ htq11), d1, d2, fun v2 H13 s13 hv2 => ?_⟩
      have hRm := moved_round hRd' hperm
      obtain ⟨m1, m2⟩ := round_bd hI' hRm
      refine ⟨v1, v2, rfl, rndT (hv1.mono (same_toT s13)) hv2 (by omega) (fun t ht => by have := m2 t ht; omega), fun H14 s14 => ⟨_, rfl, iteF ?_⟩⟩
      have sm14 := (s12.trans s13).trans s14
      -- found = turns(..)
      obtain ⟨nn, hnn⟩ : ∃ n, IsTurns tn rd n := turns_some hRd' hperm g64
      refine ⟨.ref p, rfl, x, rfl, .ref hq, rfl, p, hq, x, g.toNat, z, rd, tn, rfl, hP11.same sm14, hI', hx11.mono (same_toT sm14), hsm, hRd', SqL.of (sm14 _ _ hhq), hperm, fun n1 H15 s15 hn1 => ?_⟩
      have e1 := hn1.unique hnn
      subst e1
      have sm15 := sm14.trans s15
      refine ⟨.int _, rfl, x, rfl, .ref tq, rfl, x, tq, g.toNat, z, rd, tn, rfl, hI', hx11.mono (same_toT sm15), hRd', SqL.of (sm15 _ _ htq11), hperm, fun n2 H16 s16 hn2 => ?_⟩
      have e2 := hn2.unique hn1
      subst e2
      refine ⟨_, _, rfl, .inl ⟨rfl, .inr (.inr (.inl ⟨_, rfl⟩))⟩, fun H17 s17 => ⟨_, rfl, iteF ?_⟩⟩
      have sm17 := sm15.trans (s16.trans s17)
      refine ⟨.ref hq, rfl, .ref tq, rfl, .list (tn.map .int), .list (tn.map .int), .lst (SqL.of (sm17 _ _ hhq)) (dpAll_ints _), .lst (SqL.of (sm17 _ _ htq11)) (dpAll_ints _), shInts _, shInts _, ?_⟩
      have een : PyData.eqv (.list (tn.map .int)) (.list (tn.map .int)) = true := by
        unfold PyData.eqv
        exact eqvInts.mpr rfl
      rw [een]
      refine ⟨_, rfl, iteF ?_⟩
      -- odd
      have R17 := R11.keep sm17
      refine ⟨.ref r, rfl, .ref tq, rfl, r, a, tq, ns, tn, g.toNat, rfl, R17, ntr, sm17 _ _ htq11, g1, g64, hperm, fun oq H18 od R18 s18 noq hoq hol hnot => ?_⟩
      obtain ⟨xr17, hxr17⟩ := R17.lst
      have hx18 := (hx11.mono (same_toT sm17)).mono (s18.toT hxr17)
      have hp18 := s18 _ _ npr (sm17 _ _ hp11)
      have htq18 := s18 _ _ ntr (sm17 _ _ htq11)
      -- bad = tables + ((guests,),)
      obtain ⟨px, pxs, rfl, hpx, hpxs⟩ := id hx18
      refine ⟨.ref px, rfl, .int g, rfl, (by show 1 ≤ sizeLine; decide), fun t1 nt1 => ⟨(by show 1 ≤ sizeLine; decide), fun t2 nt2 => ?_⟩⟩
      have s19 : Same H18 (upd H18 t1 (.tup [.int g])) := same_new nt1
      have s20 := s19.trans (same_new (o := .tup [.ref t1]) nt2)
      have ht1 : (upd (upd H18 t1 (.tup [.int g])) t2 (.tup [.ref t1])) t1 = some (.tup ([g].map V.int)) := by
        rw [upd_ne (ne_of_none upd_same nt2)]
        exact upd_same
      have ht2 : (upd (upd H18 t1 (.tup [.int g])) t2 (.tup [.ref t1])) t2 = some (.tup [.ref t1]) := upd_same
      generalize (upd (upd H18 t1 (.tup [.int g])) t2 (.tup [.ref t1])) = H20 at s20 ht1 ht2 ⊢
      have hpxl := paired_len hpxs
      refine cat_one (s20 _ _ hpx) (paired_mono (fun _ _ h => h.mono (same_toT s20)) hpxs) ht1 ht2 (by omega) fun bv H21 s21 hbv => ?_
      have sm21 := s20.trans s21
      have R21 := R18.keep sm21
      have hx21 := hx18.mono (same_toT sm21)
      have hP21 : PartyV C H21 p ((g.toNat : Nat) : Int) z := ⟨dx, by rw [← egN]; exact sm21 _ _ hp18⟩
      have hnr : ¬ IsRound ((g.toNat : Nat) : Int) z (rd ++ [[g]]) := fun h => by
        have := (h.lo g (by simp)).2
        omega
      have hsb : Small [rd ++ [[g]]] := ⟨by simp, fun r' h => by
        rw [List.mem_singleton.mp h, List.length_append, List.length_singleton]
        omega, fun r' h t ht => by
        rw [List.mem_singleton.mp h] at ht
        rcases List.mem_append.mp ht with ht | ht
        · have := hb2 t ht
          omega
        · rw [List.mem_singleton.mp ht]
          simp⟩
      have hoq21 := sm21 _ _ hoq
      have htq21 := sm21 _ _ htq18
      -- for way in range(2)
      refine ⟨2, rfl, by decide, by decide, ?_⟩
      refine for_it walk_range (fun j σ H22 => ∃ (y12 : Option V), σ = [some (.ref a), some (.ref r), some (.int (0 + (i : Nat))), some (.int g), some (.int z), some (.ref p), some (.ref px), some (.ref tq), some (.ref hq), some (.int (n2 : Nat)), some (.ref oq), some bv, y12] ∧ Same H21 H22)
        ⟨y12, rfl, Same.refl _⟩ (fun _ _ _ _ _ => trivial) (fun j v σ H22 H23 hj hJ y => ?_) (fun σ H22 hJ => ?_)
      · obtain ⟨y12, rfl, s22⟩ := hJ
        obtain ⟨rfl, rfl⟩ := y
        refine ⟨.ref p, rfl, .ref px, rfl, .ref oq, rfl, .int (0 + (j : Nat)), rfl, p, oq, .ref px, g.toNat, z, rd, od, _, rfl, hP21.same s22, hI', hx21.mono (same_toT s22), hsm, hRd', SqL.of (s22 _ _ hoq21), hnot, fun w1 H24 s24 hw1 => ?_⟩
        refine ⟨two_le, fun t3 nt3 => ?_⟩
        have s25 : Same H24 (upd H24 t3 (.tup [.str "turning", .int 1])) := same_new nt3
        refine ⟨_, _, .tup (SqT.of (s25 _ _ hw1)) (.cons (.str _) (.cons (.int _) .nil)), .tup (SqT.of upd_same) (.cons (.str _) (.cons (.int _) .nil)), by decide +kernel, by decide +kernel, _, rfl, ?_⟩
        rw [show PyData.eqv (.tuple [.str "turning", .int 1]) (.tuple [.str "turning", .int 1]) = true from by decide +kernel]
        refine iteF ?_
        have sm25 := s22.trans (s24.trans s25)
        generalize (upd H24 t3 (.tup [.str "turning", .int 1])) = H25 at s25 sm25 ⊢
        obtain ⟨u, hu, hat⟩ : ∃ u : Addr, (u = oq ∨ u = tq) ∧ atI [V.ref oq, V.ref tq] (0 + (j : Nat)) = some (.ref u) := by
          have : j = 0 ∨ j = 1 := by omega
          rcases this with rfl | rfl
          · exact ⟨oq, .inl rfl, rfl⟩
          · exact ⟨tq, .inr rfl, rfl⟩
        refine ⟨.ref p, rfl, bv, rfl, .ref oq, rfl, .ref tq, rfl, two_le, fun l4 nl4 => ?_⟩
        have s26 : Same H25 (upd H25 l4 (.lst [.ref oq, .ref tq])) := same_new nl4
        have sm26 := sm25.trans s26
        refine ⟨.int (0 + (j : Nat)), rfl, l4, _, _, .ref u, rfl, rfl, SqL.of upd_same, hat, .int (0 + (j : Nat)), rfl, p, u, bv, g.toNat, z, rd ++ [[g]], _, rfl, hP21.same sm26, hI', hbv.mono (same_toT sm26), hsb, hnr, fun w2 H27 s27 hw2 => ?_⟩
        refine ⟨two_le, fun t5 nt5 => ?_⟩
        have s28 : Same H27 (upd H27 t5 (.tup [.str "round", .int 0])) := same_new nt5
        refine ⟨_, _, .tup (SqT.of (s28 _ _ hw2)) (.cons (.str _) (.cons (.int _) .nil)), .tup (SqT.of upd_same) (.cons (.str _) (.cons (.int _) .nil)), by decide +kernel, by decide +kernel, _, rfl, ?_⟩
        rw [show PyData.eqv (.tuple [.str "round", .int 0]) (.tuple [.str "round", .int 0]) = true from by decide +kernel]
        exact iteF ⟨_, rfl, sm26.trans (s27.trans s28)⟩
      · obtain ⟨y12, rfl, s22⟩ := hJ
        exact ⟨_, _, _, _, _, _, _, _, _, _, _, rfl, R21.keep s22⟩
    · obtain ⟨y2, y3, y4, y5, y6, y7, y8, y9, y10, y11, y12, rfl, R2⟩ := hI2
      exact q _
end Nf

set_option Elab.async false
set_option linter.all false
set_option maxRecDepth 100000
set_option maxHeartbeats 4000000
namespace Nf
open PySem L2
/-! ### what the top has laid, the end -/
theorem all_mk {l : PySem.W.OpenLaw} {w : World} {K : PySem.W.Frag} {h : Heap} {mg : Str → Option Value} {fa C f_check_plan f_is_round f_is_table f_rises f_pairs f_turned f_turns f_check_turn f_replaced f_is_party f_L_taken f_L_alike f_L_few f_L_many f_L_mixed f_L_seated f_L_pairs f_L_known f_L_thin f_L_moved f_L_turning f_L_odd f_L_many_turns f_L_word f_M_init f_M_guests f_M_size f_M_tables f_law : Addr} (X : K.In h) (G : h.Ns mainGlobals mg) (hfa : mg "law" = some (.ref fa))
    {od_check_plan an_check_plan od_is_round an_is_round od_is_table an_is_table od_rises an_rises od_pairs an_pairs od_turned an_turned od_turns an_turns od_check_turn an_check_turn od_replaced an_replaced od_is_party an_is_party od_L_taken an_L_taken od_L_alike an_L_alike od_L_few an_L_few od_L_many an_L_many od_L_mixed an_L_mixed od_L_seated an_L_seated od_L_pairs an_L_pairs od_L_known an_L_known od_L_thin an_L_thin od_L_moved an_L_moved od_L_turning an_L_turning od_L_odd an_L_odd od_L_many_turns an_L_many_turns od_L_word an_L_word od_M_init an_M_init od_M_guests an_M_guests od_M_size an_M_size od_M_tables an_M_tables od_law an_law : Option Addr} {sl_check_plan sl_is_round sl_is_table sl_rises sl_pairs sl_turned sl_turns sl_check_turn sl_replaced sl_is_party sl_L_taken sl_L_alike sl_L_few sl_L_many sl_L_mixed sl_L_seated sl_L_pairs sl_L_known sl_L_thin sl_L_moved sl_L_turning sl_L_odd sl_L_many_turns sl_L_word sl_M_init sl_M_guests sl_M_size sl_M_tables sl_law : Array (Option Value)} {oc_check_plan kV_check_plan dc_check_plan pm_check_plan cd_check_plan ct_check_plan oc_is_round kV_is_round dc_is_round pm_is_round cd_is_round ct_is_round oc_is_table kV_is_table dc_is_table pm_is_table cd_is_table ct_is_table oc_rises kV_rises dc_rises pm_rises cd_rises ct_rises oc_pairs kV_pairs dc_pairs pm_pairs cd_pairs ct_pairs oc_turned kV_turned dc_turned pm_turned cd_turned ct_turned oc_turns kV_turns dc_turns pm_turns cd_turns ct_turns oc_check_turn kV_check_turn dc_check_turn pm_check_turn cd_check_turn ct_check_turn oc_replaced kV_replaced dc_replaced pm_replaced cd_replaced ct_replaced oc_is_party kV_is_party dc_is_party pm_is_party cd_is_party ct_is_party oc_L_taken kV_L_taken dc_L_taken pm_L_taken cd_L_taken ct_L_taken oc_L_alike kV_L_alike dc_L_alike pm_L_alike cd_L_alike ct_L_alike oc_L_few kV_L_few dc_L_few pm_L_few cd_L_few ct_L_few oc_L_many kV_L_many dc_L_many pm_L_many cd_L_many ct_L_many oc_L_mixed kV_L_mixed dc_L_mixed pm_L_mixed cd_L_mixed ct_L_mixed oc_L_seated kV_L_seated dc_L_seated pm_L_seated cd_L_seated ct_L_seated oc_L_pairs kV_L_pairs dc_L_pairs pm_L_pairs cd_L_pairs ct_L_pairs oc_L_known kV_L_known dc_L_known pm_L_known cd_L_known ct_L_known oc_L_thin kV_L_thin dc_L_thin pm_L_thin cd_L_thin ct_L_thin oc_L_moved kV_L_moved dc_L_moved pm_L_moved cd_L_moved ct_L_moved oc_L_turning kV_L_turning dc_L_turning pm_L_turning cd_L_turning ct_L_turning oc_L_odd kV_L_odd dc_L_odd pm_L_odd cd_L_odd ct_L_odd oc_L_many_turns kV_L_many_turns dc_L_many_turns pm_L_many_turns cd_L_many_turns ct_L_many_turns oc_L_word kV_L_word dc_L_word pm_L_word cd_L_word ct_L_word oc_M_init kV_M_init dc_M_init pm_M_init cd_M_init ct_M_init oc_M_guests kV_M_guests dc_M_guests pm_M_guests cd_M_guests ct_M_guests oc_M_size kV_M_size dc_M_size pm_M_size cd_M_size ct_M_size oc_M_tables kV_M_tables dc_M_tables pm_M_tables cd_M_tables ct_M_tables oc_law kV_law dc_law pm_law cd_law ct_law : Value} {CB PE CP CT CX fB cc cda : Addr} {nm qq : Str} {NN : Addr} {bss snv : List Value} {sn : List Str} {ab : Bool} {col : Option Bool} {dd : Option Addr} {m0 m1 m2 m3 m5 : Option Value} {ocB : Value} {odB anB cldB cddB : Option Addr} {docB pmB ctB clB cclB : Value} {oslB cslB ccsB : Array (Option Value)} {vsB : Array Value} {fileB : Str} {tfB : Tok} {nmE qqE : Str} {NE : Addr} {bsE svE : List Value} {hE : Bool} {snE : List Str} {abE : Bool} {colE : Option Bool} {ddE : Option Addr} {p0 p1 p2 p3 p5 : Option Value} {nwE : String}
    (aC : PySem.W.nsIn K mainGlobals "Party" = some (some (.ref C)))
    (a_check_plan : PySem.W.nsIn K mainGlobals "check_plan" = some (some (.ref f_check_plan)))
    (l_check_plan : K.lookup f_check_plan = some ⟨oc_check_plan, od_check_plan, .func (PySem.W.fnOf "check_plan" "check_plan" (defArgs sCheck) (defBody sCheck) (defScope sCheck) .none kV_check_plan dc_check_plan pm_check_plan an_check_plan cd_check_plan ct_check_plan), sl_check_plan⟩)
    (c_check_plan : PySem.W.codeIn K cd_check_plan "check_plan" = true)
    (k_check_plan : PySem.W.keepIn K (.ref f_check_plan) = true)
    (a_is_round : PySem.W.nsIn K mainGlobals "is_round" = some (some (.ref f_is_round)))
    (l_is_round : K.lookup f_is_round = some ⟨oc_is_round, od_is_round, .func (PySem.W.fnOf "is_round" "is_round" (defArgs sIsRound) (defBody sIsRound) (defScope sIsRound) .none kV_is_round dc_is_round pm_is_round an_is_round cd_is_round ct_is_round), sl_is_round⟩)
    (c_is_round : PySem.W.codeIn K cd_is_round "is_round" = true)
    (k_is_round : PySem.W.keepIn K (.ref f_is_round) = true)
    (a_is_table : PySem.W.nsIn K mainGlobals "is_table" = some (some (.ref f_is_table)))
    (l_is_table : K.lookup f_is_table = some ⟨oc_is_table, od_is_table, .func (PySem.W.fnOf "is_table" "is_table" (defArgs sIsTable) (defBody sIsTable) (defScope sIsTable) .none kV_is_table dc_is_table pm_is_table an_is_table cd_is_table ct_is_table), sl_is_table⟩)
    (c_is_table : PySem.W.codeIn K cd_is_table "is_table" = true)
    (k_is_table : PySem.W.keepIn K (.ref f_is_table) = true)
    (a_rises : PySem.W.nsIn K mainGlobals "rises" = some (some (.ref f_rises)))
    (l_rises : K.lookup f_rises = some ⟨oc_rises, od_rises, .func (PySem.W.fnOf "rises" "rises" (defArgs sRises) (defBody sRises) (defScope sRises) .none kV_rises dc_rises pm_rises an_rises cd_rises ct_rises), sl_rises⟩)
    (c_rises : PySem.W.codeIn K cd_rises "rises" = true)
    (k_rises : PySem.W.keepIn K (.ref f_rises) = true)
    (a_pairs : PySem.W.nsIn K mainGlobals "pairs" = some (some (.ref f_pairs)))
    (l_pairs : K.lookup f_pairs = some ⟨oc_pairs, od_pairs, .func (PySem.W.fnOf "pairs" "pairs" (defArgs sPairs) (defBody sPairs) (defScope sPairs) .none kV_pairs dc_pairs pm_pairs an_pairs cd_pairs ct_pairs), sl_pairs⟩)
    (c_pairs : PySem.W.codeIn K cd_pairs "pairs" = true)
    (k_pairs : PySem.W.keepIn K (.ref f_pairs) = true)
    (a_turned : PySem.W.nsIn K mainGlobals "turned" = some (some (.ref f_turned)))
    (l_turned : K.lookup f_turned = some ⟨oc_turned, od_turned, .func (PySem.W.fnOf "turned" "turned" (defArgs sTurned) (defBody sTurned) (defScope sTurned) .none kV_turned dc_turned pm_turned an_turned cd_turned ct_turned), sl_turned⟩)
    (c_turned : PySem.W.codeIn K cd_turned "turned" = true)
    (k_turned : PySem.W.keepIn K (.ref f_turned) = true)
    (a_turns : PySem.W.nsIn K mainGlobals "turns" = some (some (.ref f_turns)))
    (l_turns : K.lookup f_turns = some ⟨oc_turns, od_turns, .func (PySem.W.fnOf "turns" "turns" (defArgs sTurns) (defBody sTurns) (defScope sTurns) .none kV_turns dc_turns pm_turns an_turns cd_turns ct_turns), sl_turns⟩)
    (c_turns : PySem.W.codeIn K cd_turns "turns" = true)
    (k_turns : PySem.W.keepIn K (.ref f_turns) = true)
    (a_check_turn : PySem.W.nsIn K mainGlobals "check_turn" = some (some (.ref f_check_turn)))
    (l_check_turn : K.lookup f_check_turn = some ⟨oc_check_turn, od_check_turn, .func (PySem.W.fnOf "check_turn" "check_turn" (defArgs sCheckTurn) (defBody sCheckTurn) (defScope sCheckTurn) .none kV_check_turn dc_check_turn pm_check_turn an_check_turn cd_check_turn ct_check_turn), sl_check_turn⟩)
    (c_check_turn : PySem.W.codeIn K cd_check_turn "check_turn" = true)
    (k_check_turn : PySem.W.keepIn K (.ref f_check_turn) = true)
    (a_replaced : PySem.W.nsIn K mainGlobals "replaced" = some (some (.ref f_replaced)))
    (l_replaced : K.lookup f_replaced = some ⟨oc_replaced, od_replaced, .func (PySem.W.fnOf "replaced" "replaced" (defArgs sReplaced) (defBody sReplaced) (defScope sReplaced) .none kV_replaced dc_replaced pm_replaced an_replaced cd_replaced ct_replaced), sl_replaced⟩)
    (c_replaced : PySem.W.codeIn K cd_replaced "replaced" = true)
    (k_replaced : PySem.W.keepIn K (.ref f_replaced) = true)
    (a_is_party : PySem.W.nsIn K mainGlobals "is_party" = some (some (.ref f_is_party)))
    (l_is_party : K.lookup f_is_party = some ⟨oc_is_party, od_is_party, .func (PySem.W.fnOf "is_party" "is_party" (defArgs sIsParty) (defBody sIsParty) (defScope sIsParty) .none kV_is_party dc_is_party pm_is_party an_is_party cd_is_party ct_is_party), sl_is_party⟩)
    (c_is_party : PySem.W.codeIn K cd_is_party "is_party" = true)
    (k_is_party : PySem.W.keepIn K (.ref f_is_party) = true)
    (a_L_taken : PySem.W.nsIn K mainGlobals "_law_taken" = some (some (.ref f_L_taken)))
    (l_L_taken : K.lookup f_L_taken = some ⟨oc_L_taken, od_L_taken, .func (PySem.W.fnOf "_law_taken" "_law_taken" (defArgs lTaken) (defBody lTaken) (defScope lTaken) .none kV_L_taken dc_L_taken pm_L_taken an_L_taken cd_L_taken ct_L_taken), sl_L_taken⟩)
    (c_L_taken : PySem.W.codeIn K cd_L_taken "_law_taken" = true)
    (k_L_taken : PySem.W.keepIn K (.ref f_L_taken) = true)
    (a_L_alike : PySem.W.nsIn K mainGlobals "_law_alike" = some (some (.ref f_L_alike)))
    (l_L_alike : K.lookup f_L_alike = some ⟨oc_L_alike, od_L_alike, .func (PySem.W.fnOf "_law_alike" "_law_alike" (defArgs lAlike) (defBody lAlike) (defScope lAlike) .none kV_L_alike dc_L_alike pm_L_alike an_L_alike cd_L_alike ct_L_alike), sl_L_alike⟩)
    (c_L_alike : PySem.W.codeIn K cd_L_alike "_law_alike" = true)
    (k_L_alike : PySem.W.keepIn K (.ref f_L_alike) = true)
    (a_L_few : PySem.W.nsIn K mainGlobals "_law_few" = some (some (.ref f_L_few)))
    (l_L_few : K.lookup f_L_few = some ⟨oc_L_few, od_L_few, .func (PySem.W.fnOf "_law_few" "_law_few" (defArgs lFew) (defBody lFew) (defScope lFew) .none kV_L_few dc_L_few pm_L_few an_L_few cd_L_few ct_L_few), sl_L_few⟩)
    (c_L_few : PySem.W.codeIn K cd_L_few "_law_few" = true)
    (k_L_few : PySem.W.keepIn K (.ref f_L_few) = true)
    (a_L_many : PySem.W.nsIn K mainGlobals "_law_many" = some (some (.ref f_L_many)))
    (l_L_many : K.lookup f_L_many = some ⟨oc_L_many, od_L_many, .func (PySem.W.fnOf "_law_many" "_law_many" (defArgs lMany) (defBody lMany) (defScope lMany) .none kV_L_many dc_L_many pm_L_many an_L_many cd_L_many ct_L_many), sl_L_many⟩)
    (c_L_many : PySem.W.codeIn K cd_L_many "_law_many" = true)
    (k_L_many : PySem.W.keepIn K (.ref f_L_many) = true)
    (a_L_mixed : PySem.W.nsIn K mainGlobals "_law_mixed" = some (some (.ref f_L_mixed)))
    (l_L_mixed : K.lookup f_L_mixed = some ⟨oc_L_mixed, od_L_mixed, .func (PySem.W.fnOf "_law_mixed" "_law_mixed" (defArgs lMixed) (defBody lMixed) (defScope lMixed) .none kV_L_mixed dc_L_mixed pm_L_mixed an_L_mixed cd_L_mixed ct_L_mixed), sl_L_mixed⟩)
    (c_L_mixed : PySem.W.codeIn K cd_L_mixed "_law_mixed" = true)
    (k_L_mixed : PySem.W.keepIn K (.ref f_L_mixed) = true)
    (a_L_seated : PySem.W.nsIn K mainGlobals "_law_seated" = some (some (.ref f_L_seated)))
    (l_L_seated : K.lookup f_L_seated = some ⟨oc_L_seated, od_L_seated, .func (PySem.W.fnOf "_law_seated" "_law_seated" (defArgs lSeated) (defBody lSeated) (defScope lSeated) .none kV_L_seated dc_L_seated pm_L_seated an_L_seated cd_L_seated ct_L_seated), sl_L_seated⟩)
    (c_L_seated : PySem.W.codeIn K cd_L_seated "_law_seated" = true)
    (k_L_seated : PySem.W.keepIn K (.ref f_L_seated) = true)
    (a_L_pairs : PySem.W.nsIn K mainGlobals "_law_pairs" = some (some (.ref f_L_pairs)))
    (l_L_pairs : K.lookup f_L_pairs = some ⟨oc_L_pairs, od_L_pairs, .func (PySem.W.fnOf "_law_pairs" "_law_pairs" (defArgs lPairs) (defBody lPairs) (defScope lPairs) .none kV_L_pairs dc_L_pairs pm_L_pairs an_L_pairs cd_L_pairs ct_L_pairs), sl_L_pairs⟩)
    (c_L_pairs : PySem.W.codeIn K cd_L_pairs "_law_pairs" = true)
    (k_L_pairs : PySem.W.keepIn K (.ref f_L_pairs) = true)
    (a_L_known : PySem.W.nsIn K mainGlobals "_law_known" = some (some (.ref f_L_known)))
    (l_L_known : K.lookup f_L_known = some ⟨oc_L_known, od_L_known, .func (PySem.W.fnOf "_law_known" "_law_known" (defArgs lKnown) (defBody lKnown) (defScope lKnown) .none kV_L_known dc_L_known pm_L_known an_L_known cd_L_known ct_L_known), sl_L_known⟩)
    (c_L_known : PySem.W.codeIn K cd_L_known "_law_known" = true)
    (k_L_known : PySem.W.keepIn K (.ref f_L_known) = true)
    (a_L_thin : PySem.W.nsIn K mainGlobals "_law_thin" = some (some (.ref f_L_thin)))
    (l_L_thin : K.lookup f_L_thin = some ⟨oc_L_thin, od_L_thin, .func (PySem.W.fnOf "_law_thin" "_law_thin" (defArgs lThin) (defBody lThin) (defScope lThin) .none kV_L_thin dc_L_thin pm_L_thin an_L_thin cd_L_thin ct_L_thin), sl_L_thin⟩)
    (c_L_thin : PySem.W.codeIn K cd_L_thin "_law_thin" = true)
    (k_L_thin : PySem.W.keepIn K (.ref f_L_thin) = true)
    (a_L_moved : PySem.W.nsIn K mainGlobals "_law_moved" = some (some (.ref f_L_moved)))
    (l_L_moved : K.lookup f_L_moved = some ⟨oc_L_moved, od_L_moved, .func (PySem.W.fnOf "_law_moved" "_law_moved" (defArgs lMoved) (defBody lMoved) (defScope lMoved) .none kV_L_moved dc_L_moved pm_L_moved an_L_moved cd_L_moved ct_L_moved), sl_L_moved⟩)
    (c_L_moved : PySem.W.codeIn K cd_L_moved "_law_moved" = true)
    (k_L_moved : PySem.W.keepIn K (.ref f_L_moved) = true)
    (a_L_turning : PySem.W.nsIn K mainGlobals "_law_turning" = some (some (.ref f_L_turning)))
    (l_L_turning : K.lookup f_L_turning = some ⟨oc_L_turning, od_L_turning, .func (PySem.W.fnOf "_law_turning" "_law_turning" (defArgs lTurning) (defBody lTurning) (defScope lTurning) .none kV_L_turning dc_L_turning pm_L_turning an_L_turning cd_L_turning ct_L_turning), sl_L_turning⟩)
    (c_L_turning : PySem.W.codeIn K cd_L_turning "_law_turning" = true)
    (k_L_turning : PySem.W.keepIn K (.ref f_L_turning) = true)
    (a_L_odd : PySem.W.nsIn K mainGlobals "_law_odd" = some (some (.ref f_L_odd)))
    (l_L_odd : K.lookup f_L_odd = some ⟨oc_L_odd, od_L_odd, .func (PySem.W.fnOf "_law_odd" "_law_odd" (defArgs lOdd) (defBody lOdd) (defScope lOdd) .none kV_L_odd dc_L_odd pm_L_odd an_L_odd cd_L_odd ct_L_odd), sl_L_odd⟩)
    (c_L_odd : PySem.W.codeIn K cd_L_odd "_law_odd" = true)
    (k_L_odd : PySem.W.keepIn K (.ref f_L_odd) = true)
    (a_L_many_turns : PySem.W.nsIn K mainGlobals "_law_many_turns" = some (some (.ref f_L_many_turns)))
    (l_L_many_turns : K.lookup f_L_many_turns = some ⟨oc_L_many_turns, od_L_many_turns, .func (PySem.W.fnOf "_law_many_turns" "_law_many_turns" (defArgs lManyTurns) (defBody lManyTurns) (defScope lManyTurns) .none kV_L_many_turns dc_L_many_turns pm_L_many_turns an_L_many_turns cd_L_many_turns ct_L_many_turns), sl_L_many_turns⟩)
    (c_L_many_turns : PySem.W.codeIn K cd_L_many_turns "_law_many_turns" = true)
    (k_L_many_turns : PySem.W.keepIn K (.ref f_L_many_turns) = true)
    (a_L_word : PySem.W.nsIn K mainGlobals "_law_word" = some (some (.ref f_L_word)))
    (l_L_word : K.lookup f_L_word = some ⟨oc_L_word, od_L_word, .func (PySem.W.fnOf "_law_word" "_law_word" (defArgs lWord) (defBody lWord) (defScope lWord) .none kV_L_word dc_L_word pm_L_word an_L_word cd_L_word ct_L_word), sl_L_word⟩)
    (c_L_word : PySem.W.codeIn K cd_L_word "_law_word" = true)
    (k_L_word : PySem.W.keepIn K (.ref f_L_word) = true)
    (a_M_init : PySem.W.findIn K (.ref C) "__init__" = some (some (.ref f_M_init)))
    (i_M_init : PySem.W.isFn K (.ref f_M_init) = true)
    (l_M_init : K.lookup f_M_init = some ⟨oc_M_init, od_M_init, .func (PySem.W.fnOf "__init__" "Party.__init__" (defArgs sInit) (defBody sInit) (defScope sInit) .none kV_M_init dc_M_init pm_M_init an_M_init cd_M_init ct_M_init), sl_M_init⟩)
    (c_M_init : PySem.W.codeIn K cd_M_init "Party.__init__" = true)
    (k_M_init : PySem.W.keepIn K (.ref f_M_init) = true)
    (a_M_guests : PySem.W.findIn K (.ref C) "guests" = some (some (.ref f_M_guests)))
    (i_M_guests : PySem.W.isFn K (.ref f_M_guests) = true)
    (l_M_guests : K.lookup f_M_guests = some ⟨oc_M_guests, od_M_guests, .func (PySem.W.fnOf "guests" "Party.guests" (defArgs sGuests) (defBody sGuests) (defScope sGuests) .none kV_M_guests dc_M_guests pm_M_guests an_M_guests cd_M_guests ct_M_guests), sl_M_guests⟩)
    (c_M_guests : PySem.W.codeIn K cd_M_guests "Party.guests" = true)
    (k_M_guests : PySem.W.keepIn K (.ref f_M_guests) = true)
    (a_M_size : PySem.W.findIn K (.ref C) "size" = some (some (.ref f_M_size)))
    (i_M_size : PySem.W.isFn K (.ref f_M_size) = true)
    (l_M_size : K.lookup f_M_size = some ⟨oc_M_size, od_M_size, .func (PySem.W.fnOf "size" "Party.size" (defArgs sSize) (defBody sSize) (defScope sSize) .none kV_M_size dc_M_size pm_M_size an_M_size cd_M_size ct_M_size), sl_M_size⟩)
    (c_M_size : PySem.W.codeIn K cd_M_size "Party.size" = true)
    (k_M_size : PySem.W.keepIn K (.ref f_M_size) = true)
    (a_M_tables : PySem.W.findIn K (.ref C) "tables" = some (some (.ref f_M_tables)))
    (i_M_tables : PySem.W.isFn K (.ref f_M_tables) = true)
    (l_M_tables : K.lookup f_M_tables = some ⟨oc_M_tables, od_M_tables, .func (PySem.W.fnOf "tables" "Party.tables" (defArgs sTables) (defBody sTables) (defScope sTables) .none kV_M_tables dc_M_tables pm_M_tables an_M_tables cd_M_tables ct_M_tables), sl_M_tables⟩)
    (c_M_tables : PySem.W.codeIn K cd_M_tables "Party.tables" = true)
    (k_M_tables : PySem.W.keepIn K (.ref f_M_tables) = true)
    (a_law : PySem.W.nsIn K mainGlobals "law" = some (some (.ref f_law)))
    (l_law : K.lookup f_law = some ⟨oc_law, od_law, .func (PySem.W.fnOf "law" "law" (defArgs lLaw) (defBody lLaw) (defScope lLaw) .none kV_law dc_law pm_law an_law cd_law ct_law), sl_law⟩)
    (c_law : PySem.W.codeIn K cd_law "law" = true)
    (k_law : PySem.W.keepIn K (.ref f_law) = true)
    (pg : PySem.W.plainGet K C Str.empty = true)
    (hd : PySem.W.hasDictIn K C = true)
    (po : PySem.W.plainOver K C = true)
    (sa : PySem.W.findIn K (.ref C) "__setattr__" = some (some (.builtin "object.__setattr__")))
    (mk : PySem.W.makesIn K C = true)
    (kc : PySem.W.keepIn K (.ref C) = true)
    (nM : PySem.W.findIn K (.ref C) "many" = some none)
    (nS : PySem.W.findIn K (.ref C) "seats" = some none)
    (zFG : ∃ t, PySem.W.nsIn K mainGlobals "FEWEST_GUESTS" = some (some (.int 2 t)))
    (zMO : ∃ t, PySem.W.nsIn K mainGlobals "MOST_GUESTS" = some (some (.int 64 t)))
    (zSS : ∃ t, PySem.W.nsIn K mainGlobals "SMALLEST_SIZE" = some (some (.int 2 t)))
    (zLS : ∃ t, PySem.W.nsIn K mainGlobals "LARGEST_SIZE" = some (some (.int 8 t)))
    (b_len : PySem.W.nsIn K mainGlobals "len" = some none)
    (b_all : PySem.W.nsIn K mainGlobals "all" = some none)
    (b_zip : PySem.W.nsIn K mainGlobals "zip" = some none)
    (b_set : PySem.W.nsIn K mainGlobals "set" = some none)
    (b_sorted : PySem.W.nsIn K mainGlobals "sorted" = some none)
    (b_enumerate : PySem.W.nsIn K mainGlobals "enumerate" = some none)
    (b_list : PySem.W.nsIn K mainGlobals "list" = some none)
    (b_tuple : PySem.W.nsIn K mainGlobals "tuple" = some none)
    (b_range : PySem.W.nsIn K mainGlobals "range" = some none)
    (b_isinstance : PySem.W.nsIn K mainGlobals "isinstance" = some none)
    (b_min : PySem.W.nsIn K mainGlobals "min" = some none)
    (b_max : PySem.W.nsIn K mainGlobals "max" = some none)
    (b_int : PySem.W.nsIn K mainGlobals "int" = some none)
    (b_bool : PySem.W.nsIn K mainGlobals "bool" = some none)
    (b_str : PySem.W.nsIn K mainGlobals "str" = some none)
    (x_gB : PySem.W.nsIn K mainGlobals "BadRound" = some (some (.ref CB)))
    (x_gE : PySem.W.nsIn K mainGlobals "PartyError" = some (some (.ref PE)))
    (x_gP : PySem.W.nsIn K mainGlobals "BadParty" = some (some (.ref CP)))
    (x_gT : PySem.W.nsIn K mainGlobals "BadText" = some (some (.ref CT)))
    (x_gX : PySem.W.nsIn K mainGlobals "BadTurning" = some (some (.ref CX)))
    (x_cls : K.lookup CB = some (excClassObj nm qq CB NN bss [.ref PE, .type "ValueError", .type "Exception", .type "BaseException", .type "object"] true sn snv ab col dd m0 m1 m2 m3 m5 "ValueError.__new__"))
    (x_sa : PySem.W.findIn K (.ref CB) "__setattr__" = some (some (.builtin "object.__setattr__")))
    (x_ga : PySem.W.findIn K (.ref CB) "__getattribute__" = some (some (.builtin "BaseException.__getattribute__")))
    (x_gg : PySem.W.findIn K (.ref CB) "__getattr__" = some none)
    (x_no : PySem.W.findIn K (.ref CB) "number" = some none)
    (x_iC : PySem.W.findIn K (.ref CB) "__init__" = some (some (.ref fB)))
    (x_tC : PySem.W.typeIn K (.ref fB) = some (.type "function"))
    (x_kC : PySem.W.keepIn K (.ref CB) = true)
    (x_exC : PySem.W.subIn K (.ref CB) (.type "BaseException") = some true)
    (x_veC : PySem.W.subIn K (.ref CB) (.type "ValueError") = some true)
    (x_tyC : PySem.W.typeIn K (.ref CB) = some (.type "type"))
    (x_hdC : PySem.W.hasDictIn K CB = true)
    (x_sBB : PySem.W.subIn K (.ref CB) (.ref CB) = some true)
    (x_mro : PySem.W.mroIn K CB (.ref CB) = some true)
    (x_clsE : K.lookup PE = some (excClassObj nmE qqE PE NE bsE [.type "ValueError", .type "Exception", .type "BaseException", .type "object"] hE snE svE abE colE ddE p0 p1 p2 p3 p5 nwE))
    (x_fiE : PySem.W.findIn K (.ref PE) "__init__" = some (some (.builtin "ValueError.__init__")))
    (x_opq : PySem.W.nsIn K cStatics "thirdparty.any" = some none)
    (x_gS : PySem.W.nsIn K mainGlobals "super" = some none)
    (x_top : (l.prog.main.scope.names.lookup ("super" : Str)).isSome = false)
    (x_f1 : K.lookup fB = some ⟨ocB, odB, .func (PySem.W.ksFn "__init__" "BadRound.__init__" (defArgs sBRInit) (defBody sBRInit) (defScope sBRInit) .none .none docB pmB anB (.ref cda) ctB cc), oslB⟩)
    (x_f2 : PySem.W.codeIn K (.ref cda) "BadRound.__init__" = true)
    (x_f3 : K.lookup cc = some ⟨clB, cldB, .cell (some (.ref CB)), cslB⟩)
    (x_f4 : K.lookup cda = some ⟨cclB, cddB, .fields vsB, ccsB⟩)
    (x_f5 : vsB[2]? = some (.str fileB tfB))
    (x_f6 : ((l.prog.main.file : Str) == fileB) = true)
    (x_gV : PySem.W.nsIn K mainGlobals "ValueError" = some none)
    (x_pEx : PySem.W.subIn K (.ref PE) (.type "BaseException") = some true)
    (x_phd : PySem.W.hasDictIn K PE = true)
    (x_pty : PySem.W.typeIn K (.ref PE) = some (.type "type"))
    (x_sBE : PySem.W.subIn K (.ref CB) (.ref PE) = some true)
    (x_hP : PySem.W.hasDictIn K CP = true)
    (x_tP : PySem.W.typeIn K (.ref CP) = some (.type "type"))
    (x_sP : PySem.W.subIn K (.ref CB) (.ref CP) = some false)
    (x_hT : PySem.W.hasDictIn K CT = true)
    (x_tT : PySem.W.typeIn K (.ref CT) = some (.type "type"))
    (x_sT : PySem.W.subIn K (.ref CB) (.ref CT) = some false)
    (x_hX : PySem.W.hasDictIn K CX = true)
    (x_tX : PySem.W.typeIn K (.ref CX) = some (.type "type"))
    (x_sX : PySem.W.subIn K (.ref CB) (.ref CX) = some false)
    (x_kV : PySem.W.subIn K (.ref CB) (.type "ValueError") = some true)
    (x_ea : PySem.W.findIn K (.ref CB) "__class__" = some (some (.builtin "object.__class__")))
    (x_en : PySem.W.specialIn K (.builtin "object.__class__") "__get__" = some (some (.builtin "getset_descriptor.__get__")))
    (x_et : PySem.W.takesIn K (.builtin "object.__class__") = some true)
    (x_em : PySem.W.mroIn K CB (.type "object") = some true)
    (x_any : PySem.W.nsIn K mainGlobals "any" = some none)
    (x_bX : PySem.W.excIn K CX [.type "ValueError", .type "Exception", .type "BaseException", .type "object"] "ValueError.__new__" = true)
    (x_bXk : PySem.W.keepIn K (.ref CX) = true)
    (x_bXb : PySem.W.subIn K (.ref CX) (.type "BaseException") = some true)
    (x_sXE : PySem.W.subIn K (.ref CX) (.ref PE) = some true)
    (x_sXX : PySem.W.subIn K (.ref CX) (.ref CX) = some true)
    (x_sXP : PySem.W.subIn K (.ref CX) (.ref CP) = some false)
    (x_sXB : PySem.W.subIn K (.ref CX) (.ref CB) = some false)
    (x_sXT : PySem.W.subIn K (.ref CX) (.ref CT) = some false)
    (x_kVX : PySem.W.subIn K (.ref CX) (.type "ValueError") = some true)
    (x_gaX : PySem.W.findIn K (.ref CX) "__getattribute__" = some (some (.builtin "BaseException.__getattribute__")))
    (x_ggX : PySem.W.findIn K (.ref CX) "__getattr__" = some none)
    (x_eaX : PySem.W.findIn K (.ref CX) "__class__" = some (some (.builtin "object.__class__")))
    (x_emX : PySem.W.mroIn K CX (.type "object") = some true) :
    ∃ fd : FuncData, (∀ (s : Shared) (v : Value), BindsTo s fd ⟨[v], []⟩ [("_law_script", v)]) ∧ ∀ base : Heap, K.In base → base.Ns mainGlobals mg → FnOk l.prog w K mg base CX0 8 fa fd ["_law_script"] (spLaw K) := by
  have e := hfa.symm.trans (PySem.W.mg_of X G a_law)
  cases e
  obtain ⟨tFG, zFG⟩ := zFG
  obtain ⟨tMO, zMO⟩ := zMO
  obtain ⟨tSS, zSS⟩ := zSS
  obtain ⟨tLS, zLS⟩ := zLS
  have T : Txt K mg C := ⟨⟨pg, hd, po, sa⟩, nM, nS, PySem.W.mg_of X G aC, ⟨tFG, PySem.W.mg_of X G zFG⟩, ⟨tMO, PySem.W.mg_of X G zMO⟩, ⟨tSS, PySem.W.mg_of X G zSS⟩, ⟨tLS, PySem.W.mg_of X G zLS⟩⟩
  have B : Blt mg := ⟨PySem.W.mg_none_of X G b_len, PySem.W.mg_none_of X G b_all, PySem.W.mg_none_of X G b_zip, PySem.W.mg_none_of X G b_set, PySem.W.mg_none_of X G b_sorted, PySem.W.mg_none_of X G b_enumerate, PySem.W.mg_none_of X G b_list, PySem.W.mg_none_of X G b_tuple, PySem.W.mg_none_of X G b_range, PySem.W.mg_none_of X G b_isinstance, PySem.W.mg_none_of X G b_min, PySem.W.mg_none_of X G b_max, PySem.W.mg_none_of X G b_int, PySem.W.mg_none_of X G b_bool, PySem.W.mg_none_of X G b_str⟩
  have F_check_plan := fun_mk (st := sCheck) l_check_plan c_check_plan k_check_plan
  have B_check_plan := F_check_plan.binds (ps := ["party", "plan"]) fun _ _ _ _ _ _ us hl => match us, hl with | [_, _], _ => rfl
  have G_check_plan := PySem.W.mg_of X G a_check_plan
  have F_is_round := fun_mk (st := sIsRound) l_is_round c_is_round k_is_round
  have B_is_round := F_is_round.binds (ps := ["party", "thing"]) fun _ _ _ _ _ _ us hl => match us, hl with | [_, _], _ => rfl
  have G_is_round := PySem.W.mg_of X G a_is_round
  have F_is_table := fun_mk (st := sIsTable) l_is_table c_is_table k_is_table
  have B_is_table := F_is_table.binds (ps := ["party", "table"]) fun _ _ _ _ _ _ us hl => match us, hl with | [_, _], _ => rfl
  have G_is_table := PySem.W.mg_of X G a_is_table
  have F_rises := fun_mk (st := sRises) l_rises c_rises k_rises
  have B_rises := F_rises.binds (ps := ["numbers"]) fun _ _ _ _ _ _ us hl => match us, hl with | [_], _ => rfl
  have G_rises := PySem.W.mg_of X G a_rises
  have F_pairs := fun_mk (st := sPairs) l_pairs c_pairs k_pairs
  have B_pairs := F_pairs.binds (ps := ["tables"]) fun _ _ _ _ _ _ us hl => match us, hl with | [_], _ => rfl
  have G_pairs := PySem.W.mg_of X G a_pairs
  have F_turned := fun_mk (st := sTurned) l_turned c_turned k_turned
  have B_turned := F_turned.binds (ps := ["party", "tables", "turning"]) fun _ _ _ _ _ _ us hl => match us, hl with | [_, _, _], _ => rfl
  have G_turned := PySem.W.mg_of X G a_turned
  have F_turns := fun_mk (st := sTurns) l_turns c_turns k_turns
  have B_turns := F_turns.binds (ps := ["party", "tables", "turning"]) fun _ _ _ _ _ _ us hl => match us, hl with | [_, _, _], _ => rfl
  have G_turns := PySem.W.mg_of X G a_turns
  have F_check_turn := fun_mk (st := sCheckTurn) l_check_turn c_check_turn k_check_turn
  have B_check_turn := F_check_turn.binds (ps := ["party", "tables", "turning"]) fun _ _ _ _ _ _ us hl => match us, hl with | [_, _, _], _ => rfl
  have G_check_turn := PySem.W.mg_of X G a_check_turn
  have F_replaced := fun_mk (st := sReplaced) l_replaced c_replaced k_replaced
  have B_replaced := F_replaced.binds (ps := ["tables", "turning"]) fun _ _ _ _ _ _ us hl => match us, hl with | [_, _], _ => rfl
  have G_replaced := PySem.W.mg_of X G a_replaced
  have F_is_party := fun_mk (st := sIsParty) l_is_party c_is_party k_is_party
  have B_is_party := F_is_party.binds (ps := ["guests", "size"]) fun _ _ _ _ _ _ us hl => match us, hl with | [_, _], _ => rfl
  have G_is_party := PySem.W.mg_of X G a_is_party
  have F_L_taken := fun_mk (st := lTaken) l_L_taken c_L_taken k_L_taken
  have B_L_taken := F_L_taken.binds (ps := ["_law_row", "_law_many_here"]) fun _ _ _ _ _ _ us hl => match us, hl with | [_, _], _ => rfl
  have G_L_taken := PySem.W.mg_of X G a_L_taken
  have F_L_alike := fun_mk (st := lAlike) l_L_alike c_L_alike k_L_alike
  have B_L_alike := F_L_alike.binds (ps := ["_law_found", "_law_due"]) fun _ _ _ _ _ _ us hl => match us, hl with | [_, _], _ => rfl
  have G_L_alike := PySem.W.mg_of X G a_L_alike
  have F_L_few := fun_mk (st := lFew) l_L_few c_L_few k_L_few
  have B_L_few := F_L_few.binds (ps := ["_law_row"]) fun _ _ _ _ _ _ us hl => match us, hl with | [_], _ => rfl
  have G_L_few := PySem.W.mg_of X G a_L_few
  have F_L_many := fun_mk (st := lMany) l_L_many c_L_many k_L_many
  have B_L_many := F_L_many.binds (ps := ["_law_row"]) fun _ _ _ _ _ _ us hl => match us, hl with | [_], _ => rfl
  have G_L_many := PySem.W.mg_of X G a_L_many
  have F_L_mixed := fun_mk (st := lMixed) l_L_mixed c_L_mixed k_L_mixed
  have B_L_mixed := F_L_mixed.binds (ps := ["_law_row", "_law_some"]) fun _ _ _ _ _ _ us hl => match us, hl with | [_, _], _ => rfl
  have G_L_mixed := PySem.W.mg_of X G a_L_mixed
  have F_L_seated := fun_mk (st := lSeated) l_L_seated c_L_seated k_L_seated
  have B_L_seated := F_L_seated.binds (ps := ["_law_guests", "_law_size"]) fun _ _ _ _ _ _ us hl => match us, hl with | [_, _], _ => rfl
  have G_L_seated := PySem.W.mg_of X G a_L_seated
  have F_L_pairs := fun_mk (st := lPairs) l_L_pairs c_L_pairs k_L_pairs
  have B_L_pairs := F_L_pairs.binds (ps := ["_law_tables"]) fun _ _ _ _ _ _ us hl => match us, hl with | [_], _ => rfl
  have G_L_pairs := PySem.W.mg_of X G a_L_pairs
  have F_L_known := fun_mk (st := lKnown) l_L_known c_L_known k_L_known
  have B_L_known := F_L_known.binds (ps := ["_law_plan"]) fun _ _ _ _ _ _ us hl => match us, hl with | [_], _ => rfl
  have G_L_known := PySem.W.mg_of X G a_L_known
  have F_L_thin := fun_mk (st := lThin) l_L_thin c_L_thin k_L_thin
  have B_L_thin := F_L_thin.binds (ps := ["_law_row", "_law_tables"]) fun _ _ _ _ _ _ us hl => match us, hl with | [_, _], _ => rfl
  have G_L_thin := PySem.W.mg_of X G a_L_thin
  have F_L_moved := fun_mk (st := lMoved) l_L_moved c_L_moved k_L_moved
  have B_L_moved := F_L_moved.binds (ps := ["_law_tables", "_law_turning_here"]) fun _ _ _ _ _ _ us hl => match us, hl with | [_, _], _ => rfl
  have G_L_moved := PySem.W.mg_of X G a_L_moved
  have F_L_turning := fun_mk (st := lTurning) l_L_turning c_L_turning k_L_turning
  have B_L_turning := F_L_turning.binds (ps := ["_law_row", "_law_guests"]) fun _ _ _ _ _ _ us hl => match us, hl with | [_, _], _ => rfl
  have G_L_turning := PySem.W.mg_of X G a_L_turning
  have F_L_odd := fun_mk (st := lOdd) l_L_odd c_L_odd k_L_odd
  have B_L_odd := F_L_odd.binds (ps := ["_law_row", "_law_turning_here"]) fun _ _ _ _ _ _ us hl => match us, hl with | [_, _], _ => rfl
  have G_L_odd := PySem.W.mg_of X G a_L_odd
  have F_L_many_turns := fun_mk (st := lManyTurns) l_L_many_turns c_L_many_turns k_L_many_turns
  have B_L_many_turns := F_L_many_turns.binds (ps := ["_law_tables", "_law_turning_here"]) fun _ _ _ _ _ _ us hl => match us, hl with | [_, _], _ => rfl
  have G_L_many_turns := PySem.W.mg_of X G a_L_many_turns
  have F_L_word := fun_mk (st := lWord) l_L_word c_L_word k_L_word
  have B_L_word := F_L_word.binds (ps := ["_law_party", "_law_tables", "_law_turning_here", "_law_way"]) fun _ _ _ _ _ _ us hl => match us, hl with | [_, _, _, _], _ => rfl
  have G_L_word := PySem.W.mg_of X G a_L_word
  have F_M_init := fun_mk (st := sInit) l_M_init c_M_init k_M_init
  have B_M_init := F_M_init.binds (ps := ["self", "guests", "size"]) fun _ _ _ _ _ _ us hl => match us, hl with | [_, _, _], _ => rfl
  have F_M_guests := fun_mk (st := sGuests) l_M_guests c_M_guests k_M_guests
  have B_M_guests := F_M_guests.binds (ps := ["self"]) fun _ _ _ _ _ _ us hl => match us, hl with | [_], _ => rfl
  have F_M_size := fun_mk (st := sSize) l_M_size c_M_size k_M_size
  have B_M_size := F_M_size.binds (ps := ["self"]) fun _ _ _ _ _ _ us hl => match us, hl with | [_], _ => rfl
  have F_M_tables := fun_mk (st := sTables) l_M_tables c_M_tables k_M_tables
  have B_M_tables := F_M_tables.binds (ps := ["self"]) fun _ _ _ _ _ _ us hl => match us, hl with | [_], _ => rfl
  have F_law := fun_mk (st := lLaw) l_law c_law k_law
  refine ⟨PySem.W.fnOf "law" "law" (defArgs lLaw) (defBody lLaw) (defScope lLaw) .none kV_law dc_law pm_law an_law cd_law ct_law, fun s v => .of_eq rfl, fun base _ _ => ?_⟩
  have TB : PySem.BrX.BrTxt l.prog K mg CB fB := ⟨PySem.W.mg_of X G x_gB, ⟨nm, qq, NN, bss, _, sn, snv, ab, col, dd, m0, m1, m2, m3, m5, x_cls, (by first | rfl | decide +kernel | simp [PySem.HandSPX.refsVE])⟩, x_sa, x_ga, x_gg, x_no, x_iC, x_tC, x_kC, x_exC, x_veC, x_tyC, x_hdC, PySem.W.exm_ref x_exC x_hdC x_tyC x_sBB, x_mro, PySem.W.super_of x_cls x_clsE x_fiE, x_opq, PySem.W.mg_none_of X G x_gS, x_top,
    ⟨ocB, odB, docB, pmB, anB, cda, ctB, oslB, cc, clB, cldB, cslB, cclB, cddB, vsB, ccsB, fileB, tfB, x_f1, x_f2, x_f3, x_f4, x_f5, x_f6⟩⟩
  have TK : Kinds K mg CB PE CP CT CX := ⟨PySem.W.mg_of X G x_gE, PySem.W.mg_of X G x_gP, PySem.W.mg_of X G x_gT, PySem.W.mg_of X G x_gX, PySem.W.mg_none_of X G x_gV, PySem.W.exm_ref x_pEx x_phd x_pty x_sBE, PySem.W.kit_ref x_hP x_tP x_sP (PySem.W.sub_ne x_sBB x_sP), PySem.W.kit_ref x_hT x_tT x_sT (PySem.W.sub_ne x_sBB x_sT), PySem.W.kit_ref x_hX x_tX x_sX (PySem.W.sub_ne x_sBB x_sX), PySem.W.kit_self, PySem.W.kit_ve x_kV, ⟨PySem.W.cls_some x_cls, x_ga, x_gg, x_exC, x_ea, x_en, x_et, x_em⟩⟩
  have BT : BtTxt K mg CX := ⟨PySem.W.mg_of X G x_gX, x_bX, x_bXk, x_bXb, x_tX⟩
  have TT : KindsT K CB PE CP CT CX := ⟨PySem.W.exm_ref x_pEx x_phd x_pty x_sXE, PySem.W.kit_ref x_hP x_tP x_sXP (PySem.W.sub_ne x_sXX x_sXP), PySem.W.kit_ref x_hdC x_tyC x_sXB (PySem.W.sub_ne x_sXX x_sXB), PySem.W.kit_ref x_hT x_tT x_sXT (PySem.W.sub_ne x_sXX x_sXT), PySem.W.kit_self, PySem.W.kit_ve x_kVX, ⟨x_gaX, x_ggX, x_bXb, x_hX, x_eaX, x_en, x_et, x_emX⟩⟩
  have hany := PySem.W.mg_none_of X G x_any
  have GR := ok_isRound (P := l.prog) (w := w) (base := base) F_is_round B T (ok_isTable F_is_table B T F_rises B_rises G_rises F_M_guests B_M_guests ⟨a_M_guests, i_M_guests, k_M_guests⟩ F_M_size B_M_size ⟨a_M_size, i_M_size, k_M_size⟩) F_is_table B_is_table G_is_table F_rises B_rises G_rises F_M_tables B_M_tables ⟨a_M_tables, i_M_tables, k_M_tables⟩
  have GC := ok_checkOk (P := l.prog) (w := w) (base := base) F_check_plan B GR F_is_round B_is_round G_is_round
  have GCx := ok_checkBad (P := l.prog) (w := w) (base := base) F_check_plan B TB GR F_is_round B_is_round G_is_round
  have GTn := ok_checkTurn (P := l.prog) (w := w) (base := base) F_check_turn B T GC F_check_plan B_check_plan G_check_plan F_M_guests B_M_guests ⟨a_M_guests, i_M_guests, k_M_guests⟩
  have GRp := ok_replaced (P := l.prog) (w := w) (base := base) F_replaced B
  have GTd := ok_turned (P := l.prog) (w := w) (base := base) F_turned GTn F_check_turn B_check_turn G_check_turn GRp F_replaced B_replaced G_replaced
  have GTs := ok_turnsOk (P := l.prog) (w := w) (base := base) F_turns B hany GTn F_check_turn B_check_turn G_check_turn F_replaced B_replaced G_replaced F_pairs B_pairs G_pairs
  have GbR := ok_turnBadR (P := l.prog) (w := w) (base := base) F_check_turn GCx F_check_plan B_check_plan G_check_plan
  have GbT := ok_turnBadT (P := l.prog) (w := w) (base := base) F_check_turn B T BT GC F_check_plan B_check_plan G_check_plan F_M_guests B_M_guests ⟨a_M_guests, i_M_guests, k_M_guests⟩
  have nR : ∀ vs H Q E, spTurnBadR K C CB vs H Q E → ∃ a b c, vs = [a, b, c] := fun vs H Q E ⟨p, l, x, g, s, r, e, _⟩ => ⟨_, _, _, e⟩
  have nT : ∀ vs H Q E, spTurnBadT K C CX vs H Q E → ∃ a b c, vs = [a, b, c] := fun vs H Q E ⟨p, l, x, g, s, r, tn, e, _⟩ => ⟨_, _, _, e⟩
  have GdR := ok_turnedX (P := l.prog) (w := w) (base := base) nR (fun _ _ _ _ _ h => h) F_turned GbR F_check_turn B_check_turn G_check_turn
  have GsR := ok_turnsX (P := l.prog) (w := w) (base := base) nR (fun _ _ _ _ _ h => h) F_turns GbR F_check_turn B_check_turn G_check_turn
  have GdT := ok_turnedX (P := l.prog) (w := w) (base := base) nT (fun _ _ _ _ _ h => h) F_turned GbT F_check_turn B_check_turn G_check_turn
  have GsT := ok_turnsX (P := l.prog) (w := w) (base := base) nT (fun _ _ _ _ _ h => h) F_turns GbT F_check_turn B_check_turn G_check_turn
  have WT := ok_wordT (P := l.prog) (w := w) (base := base) F_L_word B TB TK TT GdT F_turned B_turned G_turned GsT F_turns B_turns G_turns
  have WR := ok_wordR (P := l.prog) (w := w) (base := base) F_L_word B TB TK GdR F_turned B_turned G_turned GsR F_turns B_turns G_turns
  exact ok_law F_law B T ⟨mk, a_M_init, i_M_init, kc⟩ (ok_init F_M_init T F_is_party B_is_party G_is_party) B_M_init
    ⟨ok_taken F_L_taken B, k_L_taken, B_L_taken, G_L_taken⟩ ⟨ok_tree F_L_alike B B_L_alike G_L_alike 2, k_L_alike, B_L_alike, G_L_alike⟩ ⟨ok_many F_L_many B F_L_taken B_L_taken G_L_taken F_L_few B_L_few G_L_few, k_L_many, B_L_many, G_L_many⟩ ⟨ok_mixed F_L_mixed B F_L_taken B_L_taken G_L_taken, k_L_mixed, B_L_mixed, G_L_mixed⟩
    ⟨ok_seated F_L_seated B, k_L_seated, B_L_seated, G_L_seated⟩ ⟨ok_thin F_L_thin B F_L_taken B_L_taken G_L_taken, k_L_thin, B_L_thin, G_L_thin⟩ ⟨ok_turning F_L_turning B F_L_taken B_L_taken G_L_taken F_L_mixed B_L_mixed G_L_mixed, k_L_turning, B_L_turning, G_L_turning⟩
    ⟨ok_moved F_L_moved B, k_L_moved, B_L_moved, G_L_moved⟩ ⟨ok_manyTurns F_L_many_turns B F_L_pairs B_L_pairs G_L_pairs F_L_known B_L_known G_L_known F_L_moved B_L_moved G_L_moved, k_L_many_turns, B_L_many_turns, G_L_many_turns⟩ ⟨ok_odd F_L_odd B F_L_taken B_L_taken G_L_taken, k_L_odd, B_L_odd, G_L_odd⟩
    ⟨GTd, k_turned, B_turned, G_turned⟩ ⟨GTs, k_turns, B_turns, G_turns⟩ ⟨WT, k_L_word, B_L_word, G_L_word⟩ ⟨WR, k_L_word, B_L_word, G_L_word⟩
theorem walk {l : PySem.W.OpenLaw} {q : Program} {loose : List Str} {XP : (Str → Option Value) → Heap → Prop} {YP : World → Heap → Prop} {d : DefRec} {K : Params → PySem.W.Frag} (hn : l.most = some 63) (hdf : d.params.defaults = [])
    (hY : ∀ (w : World) (h : Heap), YP w h → (K w.params).In h)
    (F : ∀ (w : World) (mg : Str → Option Value) (fa : Addr) (h : Heap), (K w.params).In h → h.Ns mainGlobals mg → mg d.name = some (.ref fa) →
      ∃ fd : FuncData, (∀ (s : Shared) (u : Value), BindsTo s fd ⟨[u], []⟩ [("_law_script", u)]) ∧ ∀ base : Heap, (K w.params).In base → base.Ns mainGlobals mg → FnOk l.prog w (K w.params) mg base CX0 8 fa fd ["_law_script"] (spLaw (K w.params))) :
    PySem.W.WalkO q loose XP YP l.row.toRowW d [] (fun f vs => PySem.call f vs) :=
  L2.walk_of (n := 63) (k := 8) (x := "_law_script") (CX := fun _ => CX0) (sp := fun w => spLaw (K w.params)) hn (by decide) hdf ⟨rfl, by decide, by decide⟩ hY F (fun _ _ a ns hl _ hS => ⟨a, ns, rfl, hS, hl, fun _ => rfl⟩) fun _ _ _ _ _ z => z
end Nf

set_option Elab.async false
set_option maxRecDepth 100000
open PySem PySem.W PyProof.Rows in
set_option maxRecDepth 100000 in
set_option maxHeartbeats 0 in
theorem PySem.Challenge.cw_newfaces_k06_rounds_turned_holds : PySem.Challenge.rw_newfaces_k06_rounds_turned.Holds := by
  w_on; o_law; k_head; (case hw => w_witness2)
  k_fill
  refine Nf.walk (l := PySem.Challenge.rw_newfaces_k06_rounds_turned) rfl rfl (fun w h Y => PySem.W.kIn_of Y) ?F
  case F =>
    intro w mg fa h KX G hmg
    refine' Nf.all_mk KX G hmg ?aC ?a_check_plan ?l_check_plan ?c_check_plan ?k_check_plan ?a_is_round ?l_is_round ?c_is_round ?k_is_round ?a_is_table ?l_is_table ?c_is_table ?k_is_table ?a_rises ?l_rises ?c_rises ?k_rises ?a_pairs ?l_pairs ?c_pairs ?k_pairs ?a_turned ?l_turned ?c_turned ?k_turned ?a_turns ?l_turns ?c_turns ?k_turns ?a_check_turn ?l_check_turn ?c_check_turn ?k_check_turn ?a_replaced ?l_replaced ?c_replaced ?k_replaced ?a_is_party ?l_is_party ?c_is_party ?k_is_party ?a_L_taken ?l_L_taken ?c_L_taken ?k_L_taken ?a_L_alike ?l_L_alike ?c_L_alike ?k_L_alike ?a_L_few ?l_L_few ?c_L_few ?k_L_few ?a_L_many ?l_L_many ?c_L_many ?k_L_many ?a_L_mixed ?l_L_mixed ?c_L_mixed ?k_L_mixed ?a_L_seated ?l_L_seated ?c_L_seated ?k_L_seated ?a_L_pairs ?l_L_pairs ?c_L_pairs ?k_L_pairs ?a_L_known ?l_L_known ?c_L_known ?k_L_known ?a_L_thin ?l_L_thin ?c_L_thin ?k_L_thin ?a_L_moved ?l_L_moved ?c_L_moved ?k_L_moved ?a_L_turning ?l_L_turning ?c_L_turning ?k_L_turning ?a_L_odd ?l_L_odd ?c_L_odd ?k_L_odd ?a_L_many_turns ?l_L_many_turns ?c_L_many_turns ?k_L_many_turns ?a_L_word ?l_L_word ?c_L_word ?k_L_word ?a_M_init ?i_M_init ?l_M_init ?c_M_init ?k_M_init ?a_M_guests ?i_M_guests ?l_M_guests ?c_M_guests ?k_M_guests ?a_M_size ?i_M_size ?l_M_size ?c_M_size ?k_M_size ?a_M_tables ?i_M_tables ?l_M_tables ?c_M_tables ?k_M_tables ?a_law ?l_law ?c_law ?k_law ?pg ?hd ?po ?sa ?mk ?kc ?nM ?nS ?zFG ?zMO ?zSS ?zLS ?b_len ?b_all ?b_zip ?b_set ?b_sorted ?b_enumerate ?b_list ?b_tuple ?b_range ?b_isinstance ?b_min ?b_max ?b_int ?b_bool ?b_str ?x_gB ?x_gE ?x_gP ?x_gT ?x_gX ?x_cls ?x_sa ?x_ga ?x_gg ?x_no ?x_iC ?x_tC ?x_kC ?x_exC ?x_veC ?x_tyC ?x_hdC ?x_sBB ?x_mro ?x_clsE ?x_fiE ?x_opq ?x_gS ?x_top ?x_f1 ?x_f2 ?x_f3 ?x_f4 ?x_f5 ?x_f6 ?x_gV ?x_pEx ?x_phd ?x_pty ?x_sBE ?x_hP ?x_tP ?x_sP ?x_hT ?x_tT ?x_sT ?x_hX ?x_tX ?x_sX ?x_kV ?x_ea ?x_en ?x_et ?x_em ?x_any ?x_bX ?x_bXk ?x_bXb ?x_sXE ?x_sXX ?x_sXP ?x_sXB ?x_sXT ?x_kVX ?x_gaX ?x_ggX ?x_eaX ?x_emX
    (case aC => k_is)
    (case a_check_plan => k_is)
    (case l_check_plan => k_is)
    (case c_check_plan => k_is)
    (case k_check_plan => k_is)
    (case a_is_round => k_is)
    (case l_is_round => k_is)
    (case c_is_round => k_is)
    (case k_is_round => k_is)
    (case a_is_table => k_is)
    (case l_is_table => k_is)
    (case c_is_table => k_is)
    (case k_is_table => k_is)
    (case a_rises => k_is)
    (case l_rises => k_is)
    (case c_rises => k_is)
    (case k_rises => k_is)
    (case a_pairs => k_is)
    (case l_pairs => k_is)
    (case c_pairs => k_is)
    (case k_pairs => k_is)
    (case a_turned => k_is)
    (case l_turned => k_is)
    (case c_turned => k_is)
    (case k_turned => k_is)
    (case a_turns => k_is)
    (case l_turns => k_is)
    (case c_turns => k_is)
    (case k_turns => k_is)
    (case a_check_turn => k_is)
    (case l_check_turn => k_is)
    (case c_check_turn => k_is)
    (case k_check_turn => k_is)
    (case a_replaced => k_is)
    (case l_replaced => k_is)
    (case c_replaced => k_is)
    (case k_replaced => k_is)
    (case a_is_party => k_is)
    (case l_is_party => k_is)
    (case c_is_party => k_is)
    (case k_is_party => k_is)
    (case a_L_taken => k_is)
    (case l_L_taken => k_is)
    (case c_L_taken => k_is)
    (case k_L_taken => k_is)
    (case a_L_alike => k_is)
    (case l_L_alike => k_is)
    (case c_L_alike => k_is)
    (case k_L_alike => k_is)
    (case a_L_few => k_is)
    (case l_L_few => k_is)
    (case c_L_few => k_is)
    (case k_L_few => k_is)
    (case a_L_many => k_is)
    (case l_L_many => k_is)
    (case c_L_many => k_is)
    (case k_L_many => k_is)
    (case a_L_mixed => k_is)
    (case l_L_mixed => k_is)
    (case c_L_mixed => k_is)
    (case k_L_mixed => k_is)
    (case a_L_seated => k_is)
    (case l_L_seated => k_is)
    (case c_L_seated => k_is)
    (case k_L_seated => k_is)
    (case a_L_pairs => k_is)
    (case l_L_pairs => k_is)
    (case c_L_pairs => k_is)
    (case k_L_pairs => k_is)
    (case a_L_known => k_is)
    (case l_L_known => k_is)
    (case c_L_known => k_is)
    (case k_L_known => k_is)
    (case a_L_thin => k_is)
    (case l_L_thin => k_is)
    (case c_L_thin => k_is)
    (case k_L_thin => k_is)
    (case a_L_moved => k_is)
    (case l_L_moved => k_is)
    (case c_L_moved => k_is)
    (case k_L_moved => k_is)
    (case a_L_turning => k_is)
    (case l_L_turning => k_is)
    (case c_L_turning => k_is)
    (case k_L_turning => k_is)
    (case a_L_odd => k_is)
    (case l_L_odd => k_is)
    (case c_L_odd => k_is)
    (case k_L_odd => k_is)
    (case a_L_many_turns => k_is)
    (case l_L_many_turns => k_is)
    (case c_L_many_turns => k_is)
    (case k_L_many_turns => k_is)
    (case a_L_word => k_is)
    (case l_L_word => k_is)
    (case c_L_word => k_is)
    (case k_L_word => k_is)
    (case a_M_init => k_is)
    (case i_M_init => k_is)
    (case l_M_init => k_is)
    (case c_M_init => k_is)
    (case k_M_init => k_is)
    (case a_M_guests => k_is)
    (case i_M_guests => k_is)
    (case l_M_guests => k_is)
    (case c_M_guests => k_is)
    (case k_M_guests => k_is)
    (case a_M_size => k_is)
    (case i_M_size => k_is)
    (case l_M_size => k_is)
    (case c_M_size => k_is)
    (case k_M_size => k_is)
    (case a_M_tables => k_is)
    (case i_M_tables => k_is)
    (case l_M_tables => k_is)
    (case c_M_tables => k_is)
    (case k_M_tables => k_is)
    (case a_law => k_is)
    (case l_law => k_is)
    (case c_law => k_is)
    (case k_law => k_is)
    (case pg => k_is)
    (case hd => k_is)
    (case po => k_is)
    (case sa => k_is)
    (case mk => k_is)
    (case kc => k_is)
    (case nM => k_is)
    (case nS => k_is)
    (case zFG => exact ⟨_, by k_is⟩)
    (case zMO => exact ⟨_, by k_is⟩)
    (case zSS => exact ⟨_, by k_is⟩)
    (case zLS => exact ⟨_, by k_is⟩)
    (case b_len => k_is)
    (case b_all => k_is)
    (case b_zip => k_is)
    (case b_set => k_is)
    (case b_sorted => k_is)
    (case b_enumerate => k_is)
    (case b_list => k_is)
    (case b_tuple => k_is)
    (case b_range => k_is)
    (case b_isinstance => k_is)
    (case b_min => k_is)
    (case b_max => k_is)
    (case b_int => k_is)
    (case b_bool => k_is)
    (case b_str => k_is)
    (case x_gB => k_is)
    (case x_gE => k_is)
    (case x_gP => k_is)
    (case x_gT => k_is)
    (case x_gX => k_is)
    (case x_cls => k_is)
    (case x_sa => k_is)
    (case x_ga => k_is)
    (case x_gg => k_is)
    (case x_no => k_is)
    (case x_iC => k_is)
    (case x_tC => k_is)
    (case x_kC => k_is)
    (case x_exC => k_is)
    (case x_veC => k_is)
    (case x_tyC => k_is)
    (case x_hdC => k_is)
    (case x_sBB => first | rfl | k_is)
    (case x_mro => k_is)
    (case x_clsE => k_is)
    (case x_fiE => k_is)
    (case x_opq => first | k_is | rfl)
    (case x_gS => k_is)
    (case x_top => first | rfl | decide +kernel)
    (case x_f1 => k_is)
    (case x_f2 => k_is)
    (case x_f3 => k_is)
    (case x_f4 => k_is)
    (case x_f5 => first | rfl | decide +kernel | k_is)
    (case x_f6 => first | rfl | decide +kernel)
    (case x_gV => k_is)
    (case x_pEx => k_is)
    (case x_phd => k_is)
    (case x_pty => k_is)
    (case x_sBE => k_is)
    (case x_hP => k_is)
    (case x_tP => k_is)
    (case x_sP => k_is)
    (case x_hT => k_is)
    (case x_tT => k_is)
    (case x_sT => k_is)
    (case x_hX => k_is)
    (case x_tX => k_is)
    (case x_sX => k_is)
    (case x_kV => k_is)
    (case x_ea => k_is)
    (case x_en => k_is)
    (case x_et => k_is)
    (case x_em => k_is)
    (case x_any => k_is)
    (case x_bX => first | k_exc | k_is | decide +kernel)
    (case x_bXk => k_is)
    (case x_bXb => k_is)
    (case x_sXE => k_is)
    (case x_sXX => first | rfl | k_is)
    (case x_sXP => k_is)
    (case x_sXB => k_is)
    (case x_sXT => k_is)
    (case x_kVX => k_is)
    (case x_gaX => k_is)
    (case x_ggX => k_is)
    (case x_eaX => k_is)
    (case x_emX => k_is)

