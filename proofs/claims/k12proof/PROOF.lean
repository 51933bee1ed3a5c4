import PyProof.Rows.All
import Wide.All
import OpenK.AllK
import Wide.FinOn
import HandS.ForMost
import HandS.Sort
import HandS.SortInts
import HandS.Conv
import HandS.Zip
import HandS.IsInst
import HandS.Deep
import HandS.Walk
import KE.SortData
import KE.GoesMore
import KE.GoesEnum
import HandS.TupAny
import HandS.Flow
import KE.KDictCopyH
import HandS.TupSets
import KE.KeyNested
import KE.KDictKeyed
import HandS.More
import HandS.DictComp
import HandS.Words
import HandS.Exc
import HandS.ExcInit
import HandS.ExcSuper
import HandS.WordsExc
import HandS.ForSpec
import HandS.FStr
import KE.KExcSuper
import KE.KSuper
import KE.KExcIs
import HandS.ExcIs
import HandS.CallSlots
import HandS.TryOnly
import PySem.Challenge.RW_newfaces_k12_whole_alike_but_for_names
set_option Elab.async false
set_option linter.all false
set_option maxRecDepth 100000
set_option maxHeartbeats 4000000
/-! Rules beside the hand layer's: len(set(ints)), sorted of a list or tuple of data, extend by a tuple, enumerate of a tuple. -/
namespace Nf
open PySem PySem.Spec PyProof.Rows L2

/-! ### len(set(xs)) of any whole numbers -/
def metN (ns : List Int) : Nat := (PyProof.Rows.firstMet (fun i => ns.getD i 0) ns.length).length
theorem firstMet_mem (f : Nat → Int) : ∀ (i j : Nat), j < i → f j ∈ PyProof.Rows.firstMet f i
  | 0, _, h => absurd h (Nat.not_lt_zero _)
  | i + 1, j, h => by
    rw [PyProof.Rows.firstMet_succ]
    unfold PyProof.Rows.step_dedup
    rcases Nat.lt_succ_iff_lt_or_eq.mp h with h | h
    · have := firstMet_mem f i j h
      split
      · exact this
      · exact List.mem_append_left _ this
    · subst h
      split
      · rename_i hb
        obtain ⟨y, hy, e⟩ := List.any_eq_true.mp hb
        rw [← eq_of_beq e]
        exact hy
      · simp
theorem metN_le (ns : List Int) : metN ns ≤ ns.length := PyProof.Rows.firstMet_length_le _ _
theorem firstMet_full (f : Nat → Int) : ∀ (i : Nat), (PyProof.Rows.firstMet f i).length = i → ∀ j k, j < k → k < i → f j ≠ f k
  | 0, _, _, _, _, h => absurd h (Nat.not_lt_zero _)
  | i + 1, e, j, k, hjk, hk => by
    rw [PyProof.Rows.firstMet_succ] at e
    unfold PyProof.Rows.step_dedup at e
    have hl := PyProof.Rows.firstMet_length_le f i
    split at e
    · omega
    · rename_i hb
      have e' : (PyProof.Rows.firstMet f i).length = i := by
        rw [List.length_append, List.length_singleton] at e
        omega
      rcases Nat.lt_succ_iff_lt_or_eq.mp hk with hk | hk
      · exact firstMet_full f i e' j k hjk hk
      · subst hk
        intro q
        apply hb
        refine List.any_eq_true.mpr ⟨f j, firstMet_mem f k j hjk, ?_⟩
        rw [q]
        exact beq_self_eq_true _
theorem metN_iff (ns : List Int) : metN ns = ns.length ↔ ns.Nodup := by
  constructor
  · intro h
    refine List.pairwise_iff_getElem.mpr fun i j hi hj hij e => ?_
    refine firstMet_full _ _ h i j hij hj ?_
    show ns.getD i 0 = ns.getD j 0
    rw [List.getD_eq_getElem?_getD, List.getD_eq_getElem?_getD, List.getElem?_eq_getElem hi, List.getElem?_eq_getElem hj]
    exact e
  · intro h
    unfold metN
    rw [RZ.firstMet_nodup h ns.length (Nat.le_refl _), List.take_length]
def tLenSet (K : PySem.W.Frag) (ta : TE) : TE := fun σ H Q => ta σ H fun x H1 => ∃ (l : Addr) (ns : List Int), x = .ref l ∧ SqL K H1 l (ns.map V.int) ∧ ns.length ≤ 4000 ∧ Q (.int (metN ns : Nat)) H1
theorem pe_lenSet {X : Cx} {a : Expr} {ta : TE} {p p2 q pos : Pos} (hg : Gl X "len") (hm : X.mg "len" = none) (hg2 : Gl X "set") (hm2 : X.mg "set" = none) (ha : PE X a ta) (hc : X.calm = true := by rfl)
    (na : starEach [a] X.env = (false, eval a X.env) :: starEach [] X.env := by rfl) : PE X (.Call (.Name "len" p) [.Call (.Name "set" p2) [a] [] q] [] pos) (tLenSet X.K ta) := by
  refine ⟨fun pins s σ H Q I h => ?_⟩
  refine Call_ (ld_blt I hg hm boot_len ?_)
  refine PyProof.Rows.callWith_builtin1 (PyProof.Rows.args_cons ?_ rfl) rfl rfl
  refine Call_ (ld_blt I hg2 hm2 boot_set ?_)
  refine PyProof.Rows.callWith_type1 (PyProof.Rows.args_cons (thn (ha.run pins s σ H _ I h) fun v s1 ⟨x, H1, I1, r1, q1⟩ => PyProof.Rows.args_nil ?_) na) na rfl
  obtain ⟨l, ns, rfl, hq, hl, q1⟩ := q1
  cases r1
  obtain ⟨its, r, pl, hz⟩ := I1.list hq
  have hlen : its.toArray.size = ns.length := by rw [List.size_toArray, ← r.length, List.length_map]
  have hle := metN_le ns
  refine call_set_list (I1.ok.hd hc) pl.isList (by simpa using RZ.intsAre_vals r) (by rw [hlen]; unfold scanBound; omega) fun h' tk hS hk => ?_
  refine PyProof.Rows.args_nil ?_
  rw [hlen] at hS
  obtain ⟨o, es, ep, t, ho, hex, hd, _, _, _, hf, hn⟩ := hS
  have I2 : Inv X pins σ H1 { s1 with heap := h', toks := tk } := I1.kept fun b o e => hk b o (Heap.lt_size e) e
  have hn' : es.size = metN ns := hn
  exact call_len_set ho hex hd hf (by rw [hn'] <;> omega) ⟨.int (metN ns : Nat), H1, I2.tok _, ⟨_, by rw [hn']⟩, q1⟩
end Nf

set_option Elab.async false
set_option linter.all false
set_option maxRecDepth 100000
set_option maxHeartbeats 4000000
namespace Nf
open PySem PySem.Spec PyProof.Rows L2

section
variable {prog : Program} {w : World} {A : Around} {E : Value → Shared → Prop} {s : Shared}
theorem collect_tup {l : Addr} {vs : List Value} {Q : List Value → Shared → Prop} (hl : IsTup s.heap l vs.toArray)
    (h : Q vs { s with heap := (s.heap.push (seqObj "list" #[] 0)).update s.heap.objs.size (Obj.mapSeq (· ++ vs.toArray)) }) (hsz : vs.length ≤ sizeLine) :
    wpAny (model prog w) A (collect (.ref l)) Q E s := by
  obtain ⟨o, ho, hc, n, hd⟩ := id hl
  unfold collect
  refine wpAny_bind (wpAny_runValue (codeAny_builtin entry_proto_collect' ?_))
  show wpAny _ _ (do again (.builtin "list.__iadd__" ⟨[← newList [], .ref l], []⟩)) _ _ s
  refine wpAny_bind (wpAny_newList (wpAny_pure ⟨Code.quiet_builtin _ (by decide +kernel), codeAny_builtin entry_list_iadd' ?_⟩))
  show wpAny _ _ (Builtin.List.listExtendWith (.ref s.heap.objs.size) (.ref l) (.ref s.heap.objs.size)) _ _ { s with heap := s.heap.push (seqObj "list" #[] 0) }
  unfold Builtin.List.listExtendWith
  have ho' : (s.heap.push (seqObj "list" #[] 0)).get? l = some o := Heap.get?_push_of_some _ ho
  refine wpAny_bind (wpAny_typeOf (T := "tuple") ⟨o, ho', hc⟩ ?_)
  have ht : (Value.type "tuple" == Value.type "tuple") = true := by rfl
  rw [if_pos (by rw [ht]; simp)]
  refine wpAny_bind (listItems_at ho' hd ?_)
  refine wpAny_bind (listItems_at (xs := #[]) (n := 0) (Heap.get?_push_size _ rfl) rfl ?_)
  rw [if_neg (by simp)]
  refine wpAny_bind (listUpdate_at (xs := #[]) (n := 0) (Heap.get?_push_size _ rfl) rfl ?_ (Nat.zero_le _) (by show (#[] ++ vs.toArray).size ≤ sizeLine + 1; simp only [Array.size_append, List.size_toArray, List.length_nil]; omega))
  refine wpAny_pure ?_
  show wpAny (model prog w) A (do
      let o ← load s.heap.objs.size
      match o.data with
      | .seq xs _ => pure xs.toList
      | _ => unsupported "internal:collect") Q E { s with heap := (s.heap.push (seqObj "list" #[] 0)).update s.heap.objs.size (Obj.mapSeq (· ++ vs.toArray)) }
  refine wpAny_bind (wpAny_load (get?_update_seq (Heap.get?_push_size _ rfl) _) ?_)
  show wpAny _ _ (pure ((#[] : Array Value) ++ vs.toArray).toList) Q E _
  rw [show ((#[] : Array Value) ++ vs.toArray).toList = vs by simp]
  exact wpAny_pure h
open PySem.W in
theorem sorted_of_sortT {l : Addr} {vs : List Value} {kw : List (Str × Value)} {Q : Value → Shared → Prop} (hl : IsTup s.heap l vs.toArray) (hL : vs.length ≤ sizeLine) (ha1 : argsOk "sorted" ⟨[.ref l], kw⟩) (ha2 : ∀ x, argsOk "list.sort" ⟨[.ref x], kw⟩)
    (body : ∀ E' : Value → Shared → Prop, wpAny (model prog w) A.in1.in1 (Builtin.«list.sort» ⟨[.ref (s.heap.objs.size + 1)], kw⟩) (fun f s' => f = .done (.ret .none) ∧ Q (.ref (s.heap.objs.size + 1)) s') E' { s with heap := copyHeap s.heap vs }) :
    wpAny (model prog w) A (call (.builtin "sorted") [.ref l] kw) Q E s := by
  refine call_function_entry_kw kind_sorted plain_sorted entry_sorted ha1 ?_
  unfold Builtin.«sorted»
  refine wpAny_bind (m := checkCount "sorted" 1 1 _) (wpAny_pure ?_)
  refine wpAny_bind (collect_tup hl ?_ hL)
  refine wpAny_bind (wpAny_newList ?_ hL)
  have hsz : ((s.heap.push (seqObj "list" #[] 0)).update s.heap.objs.size (Obj.mapSeq (· ++ vs.toArray))).objs.size = s.heap.objs.size + 1 := by
    rw [Heap.size_update, size_push']
  show wpAny _ _ _ _ _ { s with heap := copyHeap s.heap vs }
  rw [hsz]
  refine wpAny_bind (wpAny_holding (wpAny_call_entry_kw slot_list_sort ⟨_, copyHeap_at s.heap vs, rfl⟩ entry_list_sort ?body (ha2 _)))
  case body =>
    show wpAny (model prog w) A.in1.in1 (Builtin.«list.sort» ⟨[.ref (s.heap.objs.size + 1)], kw⟩) _ _ _
    refine wpAny_mono (body _) (fun f s' hf => ?_) fun _ _ e => e
    obtain ⟨rfl, hq⟩ := hf
    exact ⟨_, rfl, wpAny_pure ⟨_, rfl, hq⟩⟩
open PySem.W in
/-- sorted of a tuple that reads as data -/
theorem sorted_dataT {β : Type} {R : Value → β → Prop} {enc : β → PyData} {vs : List Value} {bs : List β} {l : Addr} {Q : Value → Shared → Prop} (hl : IsTup s.heap l vs.toArray) (e : EachIs R vs bs) (er : EachIs (fun v b => ∃ as, Reads s.heap v (enc b) as) vs bs) (hal : AllAlike (bs.map enc)) (hk : Sortable (bs.map enc)) (hL : bs.length ≤ sizeLine)
    (hu : ∀ b, b ∈ bs → A.units + 2 + (enc b).depth < cLine) (h : ∀ out, out.length = bs.length → EachIs R out (bs.mergeSort (dataLe false enc)) → Q (.ref (s.heap.objs.size + 1)) { s with heap := sortedAll s.heap vs (List.toArray out) }) :
    wpAny (model prog w) A (call (.builtin "sorted") [.ref l]) Q E s := by
  have er' : EachIs (fun v b => ∃ as, Reads (sortingHeap (copyHeap s.heap vs) (s.heap.objs.size + 1) vs) v (enc b) as) vs bs := er.mono fun _ _ ⟨as, r⟩ => ⟨as, PyProof.Rows.Reads.keeps (fun _ _ => sorting_copy_old) r⟩
  have hLv : vs.length ≤ sizeLine := by
    rw [e.length]
    exact hL
  refine sorted_of_sortT hl hLv (args_sorted1 _) (fun _ => args_list_sort _) fun _ => list_sort_vals (s := { s with heap := copyHeap s.heap vs }) (copyHeap_at s.heap vs) (SortsAt.data (s := { s with heap := sortingHeap (copyHeap s.heap vs) (s.heap.objs.size + 1) vs }) (each_map (R := fun v d => ∃ as, Reads (sortingHeap (copyHeap s.heap vs) (s.heap.objs.size + 1) vs) v d as) enc er') hal hk (bound_map hu)) hLv ⟨rfl, ?_⟩
  exact h _ (by rw [sortVals_length false rfl]; exact e.length) (sortVals_data false e er' hal)
end

end Nf

set_option Elab.async false
set_option linter.all false
set_option maxRecDepth 100000
set_option maxHeartbeats 4000000
namespace Nf
open PySem PySem.Spec PyProof.Rows L2

/-! ### sorted of a list or a tuple that reads as data -/
theorem each_of_paired {β : Type} {R : V → β → Prop} : ∀ {xs : List V} {us : List Value} {bs : List β}, Vals xs us → Paired R xs bs → PySem.W.EachIs (fun u b => ∃ x, RelV x u ∧ R x b) us bs
  | _, _, _, .nil, .nil => .nil
  | _, _, _, .cons r t, .cons q p => .cons ⟨_, r, q⟩ (each_of_paired t p)
theorem paired_of_each {β : Type} {R : V → β → Prop} : ∀ {us : List Value} {bs : List β}, PySem.W.EachIs (fun u b => ∃ x, RelV x u ∧ R x b) us bs → ∃ xs, Vals xs us ∧ Paired R xs bs
  | _, _, .nil => ⟨[], .nil, .nil⟩
  | _, _, .cons ⟨x, r, q⟩ t => by
    obtain ⟨xs, h1, h2⟩ := paired_of_each t
    exact ⟨x :: xs, .cons r h1, .cons q h2⟩
def rSortD (K : PySem.W.Frag) {β : Type} (enc : β → PyData) : List V → Hp → VK → Prop := fun vs H Q => ∃ (a : Addr) (xs : List V) (bs : List β) (R : V → β → Prop), vs = [.ref a] ∧ (SqL K H a xs ∨ SqT K H a xs) ∧ Paired R xs bs ∧
  (∀ x b, R x b → Dp K H x (enc b)) ∧ PySem.W.AllAlike (bs.map enc) ∧ PySem.W.Sortable (bs.map enc) ∧ (∀ b ∈ bs, (enc b).depth ≤ 8) ∧
  ∀ ys p, Paired R ys (bs.mergeSort (PySem.W.dataLe false enc)) → H p = none → Q (.ref p) (upd H p (.lst ys))
theorem cr_sortD {X : Cx} {β : Type} (enc : β → PyData) (hu : X.A.units + 64 < cLine) : CallR X (.builtin "sorted") (rSortD X.K enc) := by
  intro pins s σ H vs us Q I r h
  obtain ⟨a, xs, bs, R, rfl, hs, hp, hd, hal, hk, hdp, q⟩ := h
  rw [Vals.ref1 r]
  have main : ∀ (its : List Value), Vals xs its → xs.length ≤ sizeLine → (s.heap.IsList a its.toArray ∨ IsTup s.heap a its.toArray) → wpAny (model X.prog X.w) X.A (call (.builtin "sorted") [.ref a]) (EP X pins σ Q) X.xe s := fun its rv hz hl => by
    have e := each_of_paired rv hp
    have er : PySem.W.EachIs (fun v b => ∃ as, Reads s.heap v (enc b) as) its bs := e.mono fun u b ⟨x, rx, rb⟩ => Dp.reads I (enc b) x u (hd x b rb) rx
    have hlb : bs.length = xs.length := by
      rw [← e.length, ← rv.length]
    have fin : ∀ out, out.length = bs.length → PySem.W.EachIs (fun u b => ∃ x, RelV x u ∧ R x b) out (bs.mergeSort (PySem.W.dataLe false enc)) → EP X pins σ Q (.ref (s.heap.objs.size + 1)) { s with heap := sortedAll s.heap its (List.toArray out) } := fun out hlo eo => by
      obtain ⟨ys, ry, py⟩ := paired_of_each eo
      obtain ⟨ep, he'⟩ := PyProof.Rows.sortedAll_at s.heap its out.toArray
      have hly := ry.length
      exact ⟨.ref _, upd H (s.heap.objs.size + 1) (.lst ys), I.laid (t' := s.toks) (fun _ _ => PyProof.Rows.sortedAll_old) (Nat.le_succ _) ⟨by omega, out, ep, ry, he'⟩, rfl, q _ _ py (I.hok.fresh (Nat.le_succ _))⟩
    rcases hl with hl | hl
    · exact PySem.W.sorted_data hl e er hal hk (by omega) (fun b hb => by have := hdp b hb; omega) fin
    · exact sorted_dataT hl e er hal hk (by omega) (fun b hb => by have := hdp b hb; omega) fin
  rcases hs with hs | hs
  · obtain ⟨its, rv, hl, hz⟩ := I.list hs
    exact main its rv hz (.inl hl.isList)
  · obtain ⟨its, rv, hl, hz⟩ := I.tuple hs
    exact main its rv hz (.inr hl)

/-! ### xs.extend(t), t a tuple -/
def rExtendT : V → List V → Hp → VK → Prop := fun x vs H Q => ∃ l b xs zs, x = .ref l ∧ vs = [.ref b] ∧ H l = some (.lst xs) ∧ H b = some (.tup zs) ∧ xs.length + zs.length ≤ sizeLine ∧ Q .non (upd H l (.lst (xs ++ zs)))
theorem mt_extendT {X : Cx} : MtM X "list.extend" rExtendT := by
  intro pins s σ H x vs v us Q I rx rv h
  obtain ⟨l, b, xs, zs, rfl, rfl, hH, hB, hz, q⟩ := h
  cases rx
  obtain ⟨u, rfl, ru⟩ := rv.one
  cases ru
  obtain ⟨z, its, n, r, hl, e⟩ := I.lstM hH
  obtain ⟨its2, r2, ht, hz2⟩ := I.tuple (SqT.of (K := X.K) hB)
  obtain ⟨o, ho, hc, n2, hd⟩ := id ht
  have hl2 := r2.length
  have hsz : its.toArray.size + its2.toArray.size ≤ sizeLine := by rw [List.size_toArray, List.size_toArray]; omega
  have hlong : ¬ (!its.toArray.isEmpty && Builtin.List.listTooLong (its.toArray.size + its2.toArray.size)) = true := by
    rw [notLongL hsz, Bool.and_false]
    exact Bool.false_ne_true
  refine wpAny_call_entry F.slot_list_extend ⟨_, e, rfl⟩ F.entry_list_extend ?_ (F.args_list_extend_2 _ _)
  unfold Builtin.«list.extend»
  show wpAny _ _ (Builtin.List.listExtendWith (.ref l) (.ref b) .none) _ _ s
  unfold Builtin.List.listExtendWith
  refine wpAny_bind (wpAny_typeOf (T := "tuple") ⟨o, ho, hc⟩ ?_)
  have ht : (Value.type "tuple" == Value.type "tuple") = true := by rfl
  rw [if_pos (by rw [ht]; simp)]
  refine wpAny_bind (listItems_at ho hd ?_)
  refine wpAny_bind (listItems_at e rfl ?_)
  rw [if_neg hlong]
  refine wpAny_bind (listUpdate_at e rfl ?_ (by rw [List.size_toArray]; omega) (by rw [Array.size_append]; omega))
  refine wpAny_pure ⟨_, rfl, ?_⟩
  refine ⟨.non, _, I.lset (its' := its ++ its2) hH e (by simp) (r.append r2) ?_, rfl, q⟩
  rw [List.length_append]
  omega
end Nf

set_option Elab.async false
set_option linter.all false
set_option maxRecDepth 100000
set_option maxHeartbeats 4000000
namespace PySem
open AutoSeq1 (wpAny_loadPart')
theorem nf_meets_enumerate_newT (l : Addr) (items : Array Value) (n : Nat) (dct : Option Addr) (sl : Array (Option Value)) :
    Meets (Builtin.«enumerate.__new__» ⟨[.type "enumerate", .ref l], []⟩) (fun _ R s => s.heap.get? l = some { cls := .type "tuple", dict := dct, data := .seq items n, slots := sl } ∧
      R (.ok (.ret (.ref (s.heap.push { cls := .type "tuple_iterator", data := .fields #[.ref l, .int 0 0] }).objs.size)))
        { s with heap := (s.heap.push { cls := .type "tuple_iterator", data := .fields #[.ref l, .int 0 0] }).push { cls := .type "enumerate", data := .fields #[.none, .bool false, .ref s.heap.objs.size, rawInt 0, .none, .none] } }) :=
  .of_wp fun prog w A R s h => by
    obtain ⟨hp, g, d, tk, os⟩ := s; obtain ⟨hl, h⟩ := h
    have hsub := sub_enumerate
    have hL : Heap.IsTuple (Shared.heap ⟨hp, g, d, tk, os⟩) l items := ⟨_, hl, rfl, n, rfl⟩
    wp_walk using wpAny_loadPart' hl
    refine wpAny_stack_any fun st => wpAny_pure ?_
    split
    · rename_i c _ _ _ _ _
      cases (c == Value.type "enumerate")
      · wp_walk using wpAny_loadPart' hl, wpAny_pyIter_tuple hL
        exact ⟨_, rfl, h⟩
      · wp_walk using wpAny_loadPart' hl, wpAny_pyIter_tuple hL
        exact ⟨_, rfl, h⟩
    · wp_walk using wpAny_loadPart' hl, wpAny_pyIter_tuple hL
      exact ⟨_, rfl, h⟩
theorem nf_call_enumerate_tuple {prog : Program} {w : World} {A : Around} {E : Value → Shared → Prop} {s : Shared} {l : Addr} {items : Array Value} {Q : Value → Shared → Prop} (hL : s.heap.IsTuple l items)
    (h : ∀ h', IsEnum h' (s.heap.objs.size + 1) s.heap.objs.size 0 .none → h'.IsTupleIter s.heap.objs.size l 0 → h'.objs.size = s.heap.objs.size + 2 →
      (∀ b o, s.heap.get? b = some o → h'.get? b = some o) → Q (.ref (s.heap.objs.size + 1)) { s with heap := h' }) :
    wpAny (model prog w) A (call (.type "enumerate") [.ref l]) Q E s := by
  obtain ⟨⟨c, dct, dt, sl⟩, hl, hc, n, hd⟩ := hL
  replace hc : c = .type "tuple" := hc
  replace hd : dt = .seq items n := hd
  subst hc hd
  refine callType_new F.called_enumerate (by decide) (F.typeCall_enumerate_1 _) (F.newCall_enumerate_1 _) (fun obj => F.args_object_init_2 obj _) F.entry_enumerate_new
    (nf_meets_enumerate_newT l items n dct sl) ⟨hl, ?_⟩
  have hz : (s.heap.push { cls := .type "tuple_iterator", data := .fields #[.ref l, .int 0 0] }).objs.size = s.heap.objs.size + 1 := Heap.size_push ..
  show _ ∧ _
  rw [hz]
  have he : IsEnum ((s.heap.push { cls := .type "tuple_iterator", data := .fields #[.ref l, .int 0 0] }).push
      { cls := .type "enumerate", data := .fields #[.none, .bool false, .ref s.heap.objs.size, rawInt 0, .none, .none] }) (s.heap.objs.size + 1) s.heap.objs.size 0 .none := by
    have := Heap.get?_push_size (s.heap.push { cls := .type "tuple_iterator", data := .fields #[.ref l, .int 0 0] })
      (o := { cls := .type "enumerate", data := .fields #[.none, .bool false, .ref s.heap.objs.size, rawInt 0, .none, .none] }) rfl
    rw [hz] at this; exact this
  refine ⟨⟨_, he, rfl⟩, h _ he ⟨_, Heap.get?_push_of_some _ (Heap.get?_push_size _ rfl), rfl, rfl⟩ (by rw [Heap.size_push, hz]) fun b o x => Heap.get?_push_of_some _ (Heap.get?_push_of_some _ x)⟩
end PySem

set_option Elab.async false
set_option linter.all false
set_option maxRecDepth 100000
set_option maxHeartbeats 4000000
namespace Nf
open PySem PySem.Spec PyProof.Rows L2

/-! ### enumerate of a tuple -/
def IteT (K : PySem.W.Frag) (a : Addr) : It :=
  ⟨fun i H => ∃ (xs : List V) (x : V), SqT K H a xs ∧ xs[i]? = some x, fun i H v H' => ∃ T x, v = .ref T ∧ H T = none ∧ H' = upd H T (.tup [.int (i : Nat), x]) ∧ ∀ xs, SqT K H a xs → xs[i]? = some x, fun i H => ∃ xs : List V, SqT K H a xs ∧ xs.length ≤ i⟩
theorem turn_enumT {P : Program} {w : World} {K : PySem.W.Frag} {elts : List Expr} {kk : Nat} {tpos : Pos} (a e it : Addr) (hai : a ≠ it) (hae : a ≠ e) :
    Turn P w K (.Tuple elts kk tpos) (IteT K a) [e, it] e (fun i h => (∃ old, IsEnum h e it ((i : Nat) : Int) old) ∧ h.IsTupleIter it a i ∧ e ≠ it) where
  mem := by simp
  obj := fun i h st b hb => by
    obtain ⟨⟨old, he⟩, ⟨o, ho, hc, hd⟩, _⟩ := st
    have e' : b = e ∨ b = it := by simpa using hb
    rcases e' with z | z
    · rw [z]; exact ⟨_, he, fun v q => nomatch q⟩
    · rw [z]; exact ⟨o, ho, fun v q => by rw [hd] at q; cases q⟩
  keep := fun i h h' st k => let ⟨⟨old, he⟩, hi, hne⟩ := st; ⟨⟨old, k e (by simp) _ he⟩, hi.at fun o q => k it (by simp) o q, hne⟩
  item := by
    intro X hP hw hK hc i pins s σ H E I hf st hg
    subst hP hw hK
    obtain ⟨⟨old, he⟩, hit, hne⟩ := st
    obtain ⟨xs, x, hq, hx⟩ := hg
    obtain ⟨its, rv, p, hz⟩ := I.tuple hq
    obtain ⟨u, hu, ru⟩ := rv.get hx
    have hel : e < s.heap.objs.size := Heap.lt_size he
    have hil : it < s.heap.objs.size := by obtain ⟨_, q, _⟩ := hit; exact Heap.lt_size q
    have hu' : its.toArray[i]? = some u := by simpa using hu
    have hlt : i < its.toArray.size := by
      by_cases hq : i < its.toArray.size
      · exact hq
      · rw [Array.getElem?_eq_none (by omega)] at hu'
        cases hu'
    have hef : e ∉ [it, a] := by
      intro z
      simp only [List.mem_cons, List.not_mem_nil, or_false] at z
      rcases z with z | z
      · exact hne z
      · exact hae z.symm
    refine wpAny_pyNext_enum_itemD (Draws.tuple (A := X.A.in1) (show X.A.in1.handled = none from I.ok.hd hc) it a hai its.toArray) he ⟨hit, p⟩ hlt hne hef fun y h' tk hP ho hst' hT hsz hk => ?_
    have ey : y = u := Option.some.inj (hP.symm.trans hu')
    subst ey
    have hit' := hst'.1
    refine ⟨_, rfl, wpAny_letOwnedTupleGo_enum (s := { s with heap := h', toks := tk + 1 }) ho fun h'' he' sb => ?_⟩
    have hT2 : h''.get? s.heap.objs.size = some { cls := .type "tuple", data := .seq #[.int i tk, y] } := (sb.2 _ (Nat.ne_of_gt hel)).trans hT
    have new : ObjOk X.prog X.w (upd H s.heap.objs.size (.tup [.int (i : Nat), x])) h'' s.heap.objs.size (.tup [.int (i : Nat), x]) :=
      ⟨by show 2 ≤ sizeLine; decide, [.int i tk, y], .cons ⟨_, rfl⟩ (.cons ru .nil), ⟨_, hT2, rfl, _, rfl⟩⟩
    have I1 : Inv X pins σ (upd H s.heap.objs.size (.tup [.int (i : Nat), x])) { s with heap := h'', toks := tk + 1 } :=
      I.turnedNew (ch := [e, it]) (fun b ob hb q => (sb.2 b (fun z => hb (by simp [z]))).trans (hk b ob (fun z => hb (by simp [z])) (fun z => hb (by simp [z])) q)) hf (Nat.le_refl _) new
    refine ⟨.ref s.heap.objs.size, _, I1, rfl, ⟨_, x, rfl, I.hok.fresh (Nat.le_refl _), rfl, fun ys hy => by rw [I.tuple_inj hy hq]; exact hx⟩, ⟨⟨y, ?_⟩, hit'.at fun o q => (sb.2 it (Ne.symm hne)).trans q, hne⟩, fun b hb => ?_⟩
    · have e1 : ((i + 1 : Nat) : Int) = (i : Int) + 1 := by omega
      rw [e1]; exact he'
    · have hb' : b < s.heap.objs.size := by
        have e' : b = e ∨ b = it := by simpa using hb
        rcases e' with z | z
        · rw [z]; exact hel
        · rw [z]; exact hil
      rw [upd_ne (Nat.ne_of_lt hb')]
      exact (hf b hb).1
  done := by
    intro X hP hw hK hc i pins s σ H E I hf st hg
    subst hP hw hK
    obtain ⟨⟨old, he⟩, hit, hne⟩ := st
    obtain ⟨xs, hq, hx⟩ := hg
    obtain ⟨its, rv, p, hz⟩ := I.tuple hq
    obtain ⟨f0, f1, f2, f3, f4, f5⟩ := hf it (by simp)
    have hl := rv.length
    have hx' : its.toArray[i]? = none := by simp; omega
    have hT : s.TypeIs (.ref e) "enumerate" := ⟨_, he, rfl⟩
    unfold pyNext
    refine wpAny_bind (wpAny_attempt (wpAny_callSpecial?_slot (name := Str.ofString "__next__") hT F.slot_enumerate_next
      (wpAny_call_entry F.slot_enumerate_next hT F.entry_enumerate_next ?_ (F.args_enumerate_next_1 _))))
    show wpAny _ _ (field (.ref e) 2 >>= _) _ _ _
    refine wpAny_bind (wpAny_field he rfl (x := .ref it) rfl ?_)
    refine wpAny_bind (wpAny_nextOf_tuple_end (A := X.A.in1) (show X.A.in1.handled = none from I.ok.hd hc) hit p hx' fun h' x he' hx' => ?_)
    obtain ⟨o, ho, hc⟩ := hx'
    refine wpAny_bind (wpAny_isInstance (T := "StopIteration") (b := true) ⟨o, ho, hc⟩ isSubtype_stop ?_)
    exact wpAny_pure ⟨rfl, I.turned (t' := s.toks) (fun b o hb q => he' b o hb q) f0 f1 f3 f4 f5⟩
  self := fun A i s Q E st h => let ⟨⟨_, he⟩, _⟩ := st; wpAny_pyIter_enum he h
def iEnumT (K : PySem.W.Frag) (ta : TA) : TI := fun σ H R => ta σ H fun vs H1 => ∃ a xs, vs = [.ref a] ∧ SqT K H1 a xs ∧ R (IteT K a) H1
theorem pi_enumT {X : Cx} {e : Expr} {ta : TA} {p pos tpos : Pos} {elts : List Expr} {kk : Nat} (hg : Gl X "enumerate") (hm : X.mg "enumerate" = none) (ha : PA X [e] ta) (hs : starEach [e] X.env = [(false, eval e X.env)] := by rfl) :
    PI X (.Tuple elts kk tpos) (.Call (.Name "enumerate" p) [e] [] pos) (iEnumT X.K ta) := by
  refine ⟨fun pins s σ H R I h => ?_⟩
  refine Call_ (ld_blt I hg hm boot_enumerate (PyProof.Rows.callWith_type1 (thn (ha.run pos pins s σ H _ I h) fun us s1 ⟨vs, H1, I1, r1, q1⟩ => ?_) hs rfl))
  obtain ⟨a, xs, ex, hq, q⟩ := q1
  subst ex
  cases r1 with
  | cons r rr =>
    cases rr
    cases r
    obtain ⟨its, rv, p', hz⟩ := I1.tuple hq
    have hal : a < s1.heap.objs.size := by
      obtain ⟨o, ho, _⟩ := id p'
      exact Heap.lt_size ho
    refine nf_call_enumerate_tuple p' fun h' he hit hsz hk => wpAny_pyIter_enum he ?_
    have I2 : Inv X pins σ H1 { s1 with heap := h' } := I1.kept (t' := s1.toks) hk
    refine ⟨s1.heap.objs.size + 1, [s1.heap.objs.size + 1, s1.heap.objs.size], _, _, H1, rfl, I2, turn_enumT a (s1.heap.objs.size + 1) s1.heap.objs.size (Nat.ne_of_lt hal) (Nat.ne_of_lt (Nat.lt_succ_of_lt hal)), ⟨⟨.none, he⟩, hit, Nat.succ_ne_self _⟩, fun b hb => ?_, q⟩
    have e' : b = s1.heap.objs.size + 1 ∨ b = s1.heap.objs.size := by simpa using hb
    have hle : s1.heap.objs.size ≤ b := by
      rcases e' with z | z
      · rw [z]; exact Nat.le_add_right _ _
      · rw [z]; exact Nat.le_refl _
    exact I1.fpOk hle (I1.hok.fresh hle)
theorem walk_enumT {K : PySem.W.Frag} {a : Addr} {xs : List V} : Walk (IteT K a) xs.length (fun H => SqT K H a xs) (YPair (fun i => some (.int (i : Nat))) (fun i => xs[i]?)) := by
  refine ⟨fun i _ hi q => ⟨xs, xs[i], q, by simp [hi]⟩, fun _ q => ⟨xs, q, Nat.le_refl _⟩, fun i H v H' _ q y => ?_⟩
  obtain ⟨T, x, h1, h2, h3, h4⟩ := y
  exact ⟨T, .int (i : Nat), x, h1, h2, h3, rfl, h4 xs q⟩
theorem walk_zipT {K : PySem.W.Frag} {a b : Addr} {xs ys : List V} {n : Nat} (hn : n = min xs.length ys.length) : Walk (RZ.ItzT K a b) n (fun H => SqT K H a xs ∧ SqT K H b ys) (YPair (fun i => xs[i]?) (fun i => ys[i]?)) := by
  subst hn
  refine ⟨fun i _ hi q => ?_, fun _ q => ⟨xs, ys, q.1, q.2, by omega⟩, fun i H v H' _ q y => ?_⟩
  · have h1 : i < xs.length := by omega
    have h2 : i < ys.length := by omega
    exact ⟨xs, ys, xs[i], ys[i], q.1, q.2, by simp [h1], by simp [h2]⟩
  · obtain ⟨T, x, z, h1, h2, h3, h4, h5⟩ := y
    exact ⟨T, x, z, h1, h2, h3, h4 xs q.1, h5 ys q.2⟩
end Nf

set_option Elab.async false
set_option linter.all false
set_option maxRecDepth 100000
set_option maxHeartbeats 4000000
namespace Nf
open PySem PySem.Spec PyProof.Rows L2

theorem compTurnN_mid (elt : Expr) (gens : List Comprehension) (d : Nat) (t0 i0 t1 i1 : Expr) (ifs0 ifs1 : List Expr) (scope : Scope) (pos : Pos) (it acc : Value) (env : Env)
    (h0 : gens[d]? = some ⟨t0, i0, ifs0, 0⟩) (h1 : gens[d + 1]? = some ⟨t1, i1, ifs1, 0⟩) :
    compTurn (.ListComp elt gens scope pos) d it acc env = (do
      standAt i0.pos
      match ← pyNext it with
      | none => pure (.done .next)
      | some v =>
        letOwnedTupleGo t0 it v
        assign t0 env v
        let mut ok := true
        for c in ifs0 do
          if ok then ok ← isTrue c env (eval c env)
        if ok then
          let x ← eval i1 env
          standAt i1.pos
          let x ← foldedSetIterable i1 env x
          let _ ← runOwn (.compStart (.ListComp elt gens scope pos) (d + 1) (← holding [x] (pyIter x)) acc env) env
        again (.compLoop (.ListComp elt gens scope pos) d it acc env)) := by
  unfold compTurn
  simp only [h0, h1]
  rfl
theorem compTurnN_last (elt : Expr) (gens : List Comprehension) (d : Nat) (t1 i1 : Expr) (ifs1 : List Expr) (scope : Scope) (pos : Pos) (it acc : Value) (env : Env)
    (h0 : gens[d]? = some ⟨t1, i1, ifs1, 0⟩) (h1 : gens[d + 1]? = none) :
    compTurn (.ListComp elt gens scope pos) d it acc env = (do
      standAt i1.pos
      match ← pyNext it with
      | none => pure (.done .next)
      | some v =>
        letOwnedTupleGo t1 it v
        assign t1 env v
        let mut ok := true
        for c in ifs1 do
          if ok then ok ← isTrue c env (eval c env)
        if ok then
          (do let _ ← call (.builtin "list.append") [acc, ← eval elt env])
        again (.compLoop (.ListComp elt gens scope pos) d it acc env)) := by
  unfold compTurn
  simp only [h0, h1]
  rfl

section
variable {prog : Program} {w : World} {A : Around} {R : Result → Shared → Prop} {s : Shared} {elt t0 i0 t1 i1 : Expr} {gens : List Comprehension} {d : Nat} {ifs0 ifs1 : List Expr} {scope : Scope} {pos : Pos} {it acc : Value} {env : Env}
theorem compLoopN_mid (h0 : gens[d]? = some ⟨t0, i0, ifs0, 0⟩) (h1 : gens[d + 1]? = some ⟨t1, i1, ifs1, 0⟩) (hs : ∀ x, foldedSetIterable i1 env x = pure x) (I : Nat → Shared → Prop)
    (turn : ∀ n s, I n s → wpAny (model prog w) A (pyNext it) (fun r s₁ => match r with
      | none => R (.ok .next) s₁
      | some v => wpAny (model prog w) A (letOwnedTupleGo t0 it v) (fun _ s₁' => wpAny (model prog w) A (assign t0 env v) (fun _ s₂ =>
          wpAny (model prog w) A (forIn ifs0 true fun c r => if r = true then do let ok ← isTrue c env (eval c env); pure (ForInStep.yield ok) else pure (ForInStep.yield r)) (fun ok s₃ =>
            if ok = true then wpAny (model prog w) A (eval i1 env) (fun x s₄ => wpAny (model prog w) A (pyIter x) (fun it1 s₅ =>
              codeAny (model prog w) A (.compStart (.ListComp elt gens scope pos) (d + 1) it1 acc env) (fun r s' => match r with
                | .ok _ => ∃ m, m < n ∧ I m s'
                | .error _ => False) s₅) (notedBy (model prog w) A env fun e s' => R (.error e) s') s₄) (notedBy (model prog w) A env fun e s' => R (.error e) s') s₃
            else ∃ m, m < n ∧ I m s₃) (notedBy (model prog w) A env fun e s' => R (.error e) s') s₂) (notedBy (model prog w) A env fun e s' => R (.error e) s') s₁') (notedBy (model prog w) A env fun e s' => R (.error e) s') s₁) (notedBy (model prog w) A env fun e s' => R (.error e) s') s)
    (n : Nat) (h : I n s) :
    codeAny (model prog w) A (.compLoop (.ListComp elt gens scope pos) d it acc env) R s := by
  refine codeAny_loop rfl I (fun n s hI => ?_) n h
  show wpAny _ A ((compTurn (.ListComp elt gens scope pos) d it acc env).onRaise (fun x => do noteFrame x env; theTreesLotGoes x)) _ _ s
  refine wpAny_noted ?_
  rw [compTurnN_mid elt gens d t0 i0 t1 i1 ifs0 ifs1 scope pos it acc env h0 h1]
  refine wpAny_bind (wpAny_standAt (wpAny_bind (wpAny_mono (turn n s hI) (fun r s₁ h₁ => ?_) fun _ _ h' => h')))
  cases r with
  | none => exact wpAny_pure h₁
  | some v =>
    refine wpAny_bind (wpAny_mono h₁ (fun _ s₁' h₁' => ?_) fun _ _ h' => h')
    refine wpAny_bind (wpAny_mono h₁' (fun _ s₂ h₂ => wpAny_bind (wpAny_mono h₂ (fun ok s₃ h₃ => ?_) fun _ _ h' => h')) fun _ _ h' => h')
    cases ok with
    | false => exact wpAny_pure ⟨rfl, h₃⟩
    | true =>
      refine wpAny_bind (wpAny_mono h₃ (fun x s₄ h₄ => ?_) fun _ _ h' => h')
      refine wpAny_bind (wpAny_standAt (wpAny_bind (wpAny_of_eq (hs x) (wpAny_bind (wpAny_holding (wpAny_mono h₄ (fun it1 s₅ h₅ => ?_) fun _ _ h' => h'))))))
      refine wpAny_bind (wpAny_runOwn ?_)
      rw [Around.mark_none]
      refine codeAny_mono h₅ fun r s' hr => ?_
      cases r with
      | ok f =>
        first
          | exact wpAny_pure ⟨rfl, hr⟩
          | exact wpAny_bind (wpAny_pure (wpAny_pure ⟨rfl, hr⟩))
      | error e => exact hr.elim
theorem compLoopN_last (h0 : gens[d]? = some ⟨t1, i1, ifs1, 0⟩) (h1 : gens[d + 1]? = none) (I : Nat → Shared → Prop)
    (turn : ∀ n s, I n s → wpAny (model prog w) A (pyNext it) (fun r s₁ => match r with
      | none => R (.ok .next) s₁
      | some v => wpAny (model prog w) A (letOwnedTupleGo t1 it v) (fun _ s₁' => wpAny (model prog w) A (assign t1 env v) (fun _ s₂ =>
          wpAny (model prog w) A (forIn ifs1 true fun c r => if r = true then do let ok ← isTrue c env (eval c env); pure (ForInStep.yield ok) else pure (ForInStep.yield r)) (fun ok s₃ =>
            if ok = true then wpAny (model prog w) A (eval elt env) (fun x s₄ =>
              wpAny (model prog w) A (call (.builtin "list.append") [acc, x]) (fun _ s₅ => ∃ m, m < n ∧ I m s₅) (notedBy (model prog w) A env fun e s' => R (.error e) s') s₄) (notedBy (model prog w) A env fun e s' => R (.error e) s') s₃
            else ∃ m, m < n ∧ I m s₃) (notedBy (model prog w) A env fun e s' => R (.error e) s') s₂) (notedBy (model prog w) A env fun e s' => R (.error e) s') s₁') (notedBy (model prog w) A env fun e s' => R (.error e) s') s₁) (notedBy (model prog w) A env fun e s' => R (.error e) s') s)
    (n : Nat) (h : I n s) :
    codeAny (model prog w) A (.compLoop (.ListComp elt gens scope pos) d it acc env) R s := by
  refine codeAny_loop rfl I (fun n s hI => ?_) n h
  show wpAny _ A ((compTurn (.ListComp elt gens scope pos) d it acc env).onRaise (fun x => do noteFrame x env; theTreesLotGoes x)) _ _ s
  refine wpAny_noted ?_
  rw [compTurnN_last elt gens d t1 i1 ifs1 scope pos it acc env h0 h1]
  refine wpAny_bind (wpAny_standAt (wpAny_bind (wpAny_mono (turn n s hI) (fun r s₁ h₁ => ?_) fun _ _ h' => h')))
  cases r with
  | none => exact wpAny_pure h₁
  | some v =>
    refine wpAny_bind (wpAny_mono h₁ (fun _ s₁' h₁' => ?_) fun _ _ h' => h')
    refine wpAny_bind (wpAny_mono h₁' (fun _ s₂ h₂ => wpAny_bind (wpAny_mono h₂ (fun ok s₃ h₃ => ?_) fun _ _ h' => h')) fun _ _ h' => h')
    cases ok with
    | false => exact wpAny_pure ⟨rfl, h₃⟩
    | true =>
      exact wpAny_bind (wpAny_bind (wpAny_mono h₃ (fun x s₄ h₄ => wpAny_bind (wpAny_mono h₄ (fun _ s₅ h₅ => wpAny_pure (wpAny_pure ⟨rfl, h₅⟩)) fun _ _ h' => h')) fun _ _ h' => h'))
theorem compStartN_ok (hg : gens[d]? = some ⟨t1, i1, ifs1, 0⟩) (h0 : codeAny (model prog w) A (.compLoop (.ListComp elt gens scope pos) d it acc env) R s)
    (h : wpAny (model prog w) A (pyIter it) (fun it' s' => codeAny (model prog w) A (.compLoop (.ListComp elt gens scope pos) d it' acc env) R s')
      (notedBy (model prog w) A env fun x s' => R (.error x) s') s) :
    codeAny (model prog w) A (.compStart (.ListComp elt gens scope pos) d it acc env) R s := by
  refine codeAny_of_tree ?_
  show wpAny _ _ ((compStart (.ListComp elt gens scope pos) d it acc env).onRaise (fun x => do noteFrame x env; standAt theWindowsPlace)) _ _ s
  refine wpAny_notedAt ?_
  have hc : (clausesOf (.ListComp elt gens scope pos))[d]? = some ⟨t1, i1, ifs1, 0⟩ := hg
  unfold compStart
  rw [hc]
  show wpAny _ _ (ask >>= _) _ _ s
  refine wpAny_bind (wpAny_askSetting (wpAny_ite ?_))
  split
  · first
      | exact wpAny_bind (wpAny_pure (wpAny_pure (And.intro rfl h0)))
      | exact wpAny_pure (And.intro rfl h0)
  · first
      | exact wpAny_bind (wpAny_rule (wpAny_bind (wpAny_standAt (wpAny_bind (wpAny_mono h (fun it' s' h' => wpAny_pure (And.intro rfl h')) fun _ _ x => x)))))
      | (refine wpAny_bind (wpAny_rule ?_); show wpAny _ _ (standAt i1.pos >>= _) _ _ s; exact wpAny_bind (wpAny_standAt (wpAny_bind (wpAny_mono h (fun it' s' h' => wpAny_pure (And.intro rfl h')) fun _ _ x => x))))
end
end Nf

set_option Elab.async false
set_option linter.all false
set_option maxRecDepth 100000
set_option maxHeartbeats 4000000
namespace Nf
open PySem PySem.Spec PyProof.Rows L2


/-! ### list comprehensions of any number of clauses -/
theorem thnX {X : Cx} {α : Type} {t : Sem α} {Q Q' : α → Shared → Prop} {M : Model} {A : Around} {E : Value → Shared → Prop} {s : Shared} (hx : X.xe = fun _ _ => False) (h : wpAny M A t Q X.xe s) (hQ : ∀ a s, Q a s → Q' a s) : wpAny M A t Q' E s :=
  wpAny_mono h hQ fun e s' z => by
    rw [hx] at z
    exact z.elim
/-- what a loop leaves of the slots: those that it does not store -/
def KeepS (vs : List Nat) (σ σ' : L2.St) : Prop := σ.length = σ'.length ∧ ∀ (j : Nat) v, (wipe σ vs)[j]? = some (some v) → σ'[j]? = some (some v)
/-- the loop of the clause at depth d, its iterator made: vs the slots that it and the later clauses store -/
structure PCl (Y : Cx) (elt : Expr) (gens : List Comprehension) (scope : Scope) (pos : Pos) (d : Nat) (tg : Expr) (vs : List Nat) (t : It → Addr → L2.St → Hp → (Hp → Prop) → Prop) : Prop where
  run : ∀ (pins : List (Addr × Obj)) (s : Shared) (σ : L2.St) (H : Hp) (D : Addr) (Nx : Hp → Prop) (it : Addr) (fp : List Addr) (tn : Nat → Heap → Prop) (J : It) (R : Result → Shared → Prop), Inv Y pins σ H s → Turn Y.prog Y.w Y.K tg J fp it tn → tn 0 s.heap →
    (∀ b ∈ fp, FpOk Y pins H b) → t J D σ H Nx → (∀ s' σ' H', Inv Y pins σ' H' s' → KeepS vs σ σ' → Nx H' → R (.ok .next) s') →
    codeAny (model Y.prog Y.w) Y.A (.compLoop (.ListComp elt gens scope pos) d (.ref it) (.ref D) Y.env) R s
/-- a loop's reading: body tells what a turn does behind the tests -/
def tCl (g : TG) (tt : TT) (vs : List Nat) (body : Addr → L2.St → Hp → (Hp → Prop) → Prop) : It → Addr → L2.St → Hp → (Hp → Prop) → Prop := fun J D σ H Nx => ∃ W : Nat → Nat → Hp → Prop, (∃ m, W 0 m H) ∧ ∀ i m H, W i m H →
  (J.stop i H ∧ Nx H) ∨ (J.go i H ∧ ∃ N : Hp → Prop, (∀ H', N H' → ∃ m', m' < m ∧ W (i + 1) m' H') ∧ ∀ x H', J.yld i H x H' → g x (wipe σ vs) H' fun σ2 H2 => wipe σ2 vs = wipe σ vs ∧ tt σ2 H2 fun b H3 =>
    if b = true then body D σ2 H3 N else N H3)
/-- the last clause's: the element is put to the list -/
def bLast (te : TE) : Addr → L2.St → Hp → (Hp → Prop) → Prop := fun D σ2 H3 N => te σ2 H3 fun y H4 => ∃ acc, H4 D = some (.lst acc) ∧ acc.length < sizeLine ∧ N (upd H4 D (.lst (acc ++ [y])))
/-- another clause's: the next one's loop -/
def bMid (wi : TI) (t : It → Addr → L2.St → Hp → (Hp → Prop) → Prop) : Addr → L2.St → Hp → (Hp → Prop) → Prop := fun D σ2 H3 N => wi σ2 H3 fun J1 H4 => t J1 D σ2 H4 N
variable {Y : Cx} {elt tg iter : Expr} {gens : List Comprehension} {scope : Scope} {pos : Pos} {d : Nat} {ifs : List Expr} {g : TG} {tt : TT} {te : TE} {vs : List Nat}
theorem pcl_last (hc : Y.calm = true) (hx : Y.xe = fun _ _ => False) (h0 : gens[d]? = some ⟨tg, iter, ifs, 0⟩) (h1 : gens[d + 1]? = none) (pg : PG Y tg g) (pt : PTs Y ifs tt) (pe : PE Y elt te) : PCl Y elt gens scope pos d tg vs (tCl g tt vs (bLast te)) := by
  refine ⟨fun pins s σ H D Nx it fp tn J R I T st f h hR => ?_⟩
  obtain ⟨W, ⟨m0, w0⟩, turn⟩ := h
  have stat : ∀ {H' : Hp}, (∀ b ∈ fp, H' b = none) → ∀ b ∈ fp, FpOk Y pins H' b := fun hn b hb => ⟨hn b hb, (f b hb).2⟩
  refine compLoopN_last h0 h1 (fun k s' => ∃ j H', Inv Y pins (wipe σ vs) H' s' ∧ tn j s'.heap ∧ (∀ b ∈ fp, H' b = none) ∧ W j k H') ?_ m0 ⟨0, H, I.weak (wipe_length _ _) (fun j v e => (wipe_some e).1), st, fun b hb => (f b hb).1, w0⟩
  rintro k s12 ⟨j, H12, I12, st12, n12, w12⟩
  rcases turn j k H12 w12 with ⟨stop1, nx1⟩ | ⟨go1, Nx1, hNx1, step1⟩
  · refine thnF (T.done Y rfl rfl rfl hc j _ s12 (wipe σ vs) H12 (fun _ _ => False) I12 (stat n12) st12 stop1) fun r s13 ⟨hr, I13⟩ => ?_
    subst hr
    exact hR _ _ _ I13 ⟨(wipe_length σ vs).symm, fun _ _ e => e⟩ nx1
  · refine thnF (T.item Y rfl rfl rfl hc j _ s12 (wipe σ vs) H12 (fun _ _ => False) I12 (stat n12) st12 go1) fun r s13 ⟨u1, hr, h13⟩ => ?_
    subst hr
    refine thnF h13 fun _ s14 ⟨x1, H14, I14, r14, y14, st14, n14⟩ => ?_
    have I14' := I14.pinned (stat n14) (T.obj _ _ st14)
    refine thnX hx (pg.run _ s14 (wipe σ vs) H14 x1 u1 _ I14' r14 (step1 x1 H14 y14)) fun _ s15 ⟨σ15, H15, I15, hw15, q15⟩ => ?_
    refine thnX hx (pt.run _ s15 σ15 H15 _ I15 q15) fun b1 s16 ⟨H16, I16, q16⟩ => ?_
    have fin1 : ∀ {s' : Shared} {H' : Hp}, Inv Y (pins ++ pinsAt fp s14.heap) σ15 H' s' → Nx1 H' → ∃ m, m < k ∧ ∃ j H', Inv Y pins (wipe σ vs) H' s' ∧ tn j s'.heap ∧ (∀ b ∈ fp, H' b = none) ∧ W j m H' := fun {s' H'} I' nx => by
      obtain ⟨m', hm, w'⟩ := hNx1 H' nx
      have pin' : ∀ b ∈ fp, ∀ o, s14.heap.get? b = some o → s'.heap.get? b = some o ∧ H' b = none := fun b hb o e =>
        let z := I'.pin (b, o) (List.mem_append_right _ (List.mem_append_right _ (mem_pinsAt hb e)))
        ⟨z.1, z.2.1⟩
      refine ⟨m', hm, j + 1, H', I'.unpinned.weak (by rw [← hw15, wipe_length]) (fun j v e => by rw [← hw15] at e; exact (wipe_some e).1), T.keep _ _ _ st14 fun b hb o e => (pin' b hb o e).1, fun b hb => ?_, w'⟩
      obtain ⟨o, e, _⟩ := T.obj _ _ st14 b hb
      exact (pin' b hb o e).2
    cases b1 with
    | false =>
      simp only [Bool.false_eq_true, if_false] at q16 ⊢
      exact fin1 I16 q16
    | true =>
      simp only [if_true] at q16 ⊢
      refine thnX hx (pe.run _ s16 σ15 H16 _ I16 q16) fun z s17 ⟨yv, H17, I17, r17, acc, hD17, hz17, nx⟩ => ?_
      exact app_ok (X := Y) I17 hD17 hz17 r17 fun s18 I18 => fin1 I18 nx
theorem pcl_mid {tg1 iter1 : Expr} {ifs1 : List Expr} {wi1 : TI} {vs1 : List Nat} {t1 : It → Addr → L2.St → Hp → (Hp → Prop) → Prop} (hc : Y.calm = true) (hx : Y.xe = fun _ _ => False) (h0 : gens[d]? = some ⟨tg, iter, ifs, 0⟩) (h1 : gens[d + 1]? = some ⟨tg1, iter1, ifs1, 0⟩) (hv : ∀ i ∈ vs1, i ∈ vs)
    (pg : PG Y tg g) (pt : PTs Y ifs tt) (pi1 : PI Y tg1 iter1 wi1) (hs1 : ∀ x, foldedSetIterable iter1 Y.env x = pure x) (pc : PCl Y elt gens scope pos (d + 1) tg1 vs1 t1) : PCl Y elt gens scope pos d tg vs (tCl g tt vs (bMid wi1 t1)) := by
  refine ⟨fun pins s σ H D Nx it fp tn J R I T st f h hR => ?_⟩
  obtain ⟨W, ⟨m0, w0⟩, turn⟩ := h
  have stat : ∀ {H' : Hp}, (∀ b ∈ fp, H' b = none) → ∀ b ∈ fp, FpOk Y pins H' b := fun hn b hb => ⟨hn b hb, (f b hb).2⟩
  refine compLoopN_mid h0 h1 hs1 (fun k s' => ∃ j H', Inv Y pins (wipe σ vs) H' s' ∧ tn j s'.heap ∧ (∀ b ∈ fp, H' b = none) ∧ W j k H') ?_ m0 ⟨0, H, I.weak (wipe_length _ _) (fun j v e => (wipe_some e).1), st, fun b hb => (f b hb).1, w0⟩
  rintro k s12 ⟨j, H12, I12, st12, n12, w12⟩
  rcases turn j k H12 w12 with ⟨stop1, nx1⟩ | ⟨go1, Nx1, hNx1, step1⟩
  · refine thnF (T.done Y rfl rfl rfl hc j _ s12 (wipe σ vs) H12 (fun _ _ => False) I12 (stat n12) st12 stop1) fun r s13 ⟨hr, I13⟩ => ?_
    subst hr
    exact hR _ _ _ I13 ⟨(wipe_length σ vs).symm, fun _ _ e => e⟩ nx1
  · refine thnF (T.item Y rfl rfl rfl hc j _ s12 (wipe σ vs) H12 (fun _ _ => False) I12 (stat n12) st12 go1) fun r s13 ⟨u1, hr, h13⟩ => ?_
    subst hr
    refine thnF h13 fun _ s14 ⟨x1, H14, I14, r14, y14, st14, n14⟩ => ?_
    have I14' := I14.pinned (stat n14) (T.obj _ _ st14)
    refine thnX hx (pg.run _ s14 (wipe σ vs) H14 x1 u1 _ I14' r14 (step1 x1 H14 y14)) fun _ s15 ⟨σ15, H15, I15, hw15, q15⟩ => ?_
    refine thnX hx (pt.run _ s15 σ15 H15 _ I15 q15) fun b1 s16 ⟨H16, I16, q16⟩ => ?_
    have fin1 : ∀ {σ9 : L2.St} {s' : Shared} {H' : Hp}, Inv Y (pins ++ pinsAt fp s14.heap) σ9 H' s' → (wipe σ vs).length = σ9.length → (∀ (j : Nat) v, (wipe σ vs)[j]? = some (some v) → σ9[j]? = some (some v)) → Nx1 H' →
        ∃ m, m < k ∧ ∃ j H', Inv Y pins (wipe σ vs) H' s' ∧ tn j s'.heap ∧ (∀ b ∈ fp, H' b = none) ∧ W j m H' := fun {σ9 s' H'} I' hl hk nx => by
      obtain ⟨m', hm, w'⟩ := hNx1 H' nx
      have pin' : ∀ b ∈ fp, ∀ o, s14.heap.get? b = some o → s'.heap.get? b = some o ∧ H' b = none := fun b hb o e =>
        let z := I'.pin (b, o) (List.mem_append_right _ (List.mem_append_right _ (mem_pinsAt hb e)))
        ⟨z.1, z.2.1⟩
      refine ⟨m', hm, j + 1, H', I'.unpinned.weak hl hk, T.keep _ _ _ st14 fun b hb o e => (pin' b hb o e).1, fun b hb => ?_, w'⟩
      obtain ⟨o, e, _⟩ := T.obj _ _ st14 b hb
      exact (pin' b hb o e).2
    have hl15 : (wipe σ vs).length = σ15.length := by rw [← hw15, wipe_length]
    cases b1 with
    | false =>
      simp only [Bool.false_eq_true, if_false] at q16 ⊢
      exact fin1 I16 hl15 (fun j v e => by rw [← hw15] at e; exact (wipe_some e).1) q16
    | true =>
      simp only [if_true] at q16 ⊢
      refine thnX hx (pi1.run _ s16 σ15 H16 _ I16 q16) fun xv s10 hxx => thnX hx hxx fun itv s11 h11 => ?_
      obtain ⟨it1, fp1, tn1, J1, H11, e1, I11, T1, st11, f11, q11⟩ := h11
      subst e1
      have loop1 : codeAny (model Y.prog Y.w) Y.A (.compLoop (.ListComp elt gens scope pos) (d + 1) (.ref it1) (.ref D) Y.env)
          (fun r s' => match r with
            | .ok _ => ∃ m, m < k ∧ ∃ j H', Inv Y pins (wipe σ vs) H' s' ∧ tn j s'.heap ∧ (∀ b ∈ fp, H' b = none) ∧ W j m H'
            | .error _ => False) s11 := by
        refine pc.run _ s11 σ15 H11 D Nx1 it1 fp1 tn1 J1 _ I11 T1 st11 f11 q11 fun s' σ' H' I' ks nx => ?_
        refine fin1 I' (hl15.trans ks.1) (fun j v e => ?_) nx
        refine ks.2 j v ?_
        rw [← hw15] at e
        obtain ⟨e1, e2⟩ := wipe_some e
        rw [wipe_out fun z => e2 (hv j z)]
        exact e1
      exact compStartN_ok h1 loop1 (T1.self Y.A 0 _ _ _ st11 loop1)
end Nf

set_option Elab.async false
set_option linter.all false
set_option maxRecDepth 100000
set_option maxHeartbeats 4000000
namespace Nf
open PySem PySem.Spec PyProof.Rows L2

variable {X : Cx}
/-- [elt for tg in iter .. for .. ..] -/
def tLcN (wi : TI) (t : It → Addr → L2.St → Hp → (Hp → Prop) → Prop) (vs : List Nat) : TE := fun σ H Q => wi σ H fun J H1 => ∀ D, H1 D = none → t J D (wipe σ vs) (upd H1 D (.lst [])) fun H2 => Q (.ref D) H2
theorem lcN_core {pins : List (Addr × Obj)} {s : Shared} {σ : L2.St} {H : Hp} {Q : VK} {elt tg iter : Expr} {ifs : List Expr} {rest : List Comprehension} {scope : Scope} {own : List (Str × Nat)} {pos pos' : Pos} {wi : TI} {t : It → Addr → L2.St → Hp → (Hp → Prop) → Prop} {use : Option (Value → Sem Unit)} {Qf : Value → Shared → Prop}
    (hc : X.calm = true) (hN : X.N.Nodup) (I : Inv X pins σ H s) (hi : PI X tg iter wi) (ok : BlkOk X.N X.env.scope scope own)
    (hp : ∀ (s : Shared) (H : Hp) (C : Addr) (cl : List (Str × Addr)) (fp : List Addr), PCl (X.blk s H scope (compEnvC scope cl C X.env) fp) elt (⟨tg, iter, ifs, 0⟩ :: rest) scope pos 0 tg (own.map (·.2)) t) (hs : ∀ x, foldedSetIterable iter X.env x = pure x)
    (h : tLcN wi t (own.map (·.2)) σ H Q)
    (hRR : ∀ D C s' m H', Inv X pins σ H' s' → Q (.ref D) H' → s'.heap.Ns C m → FpOk X pins H' C → compPost (model X.prog X.w) X.A X.xe use Qf (.ref D) C (.ok .next) s') :
    wpAny (model X.prog X.w) X.A (comprehension (.ListComp elt (⟨tg, iter, ifs, 0⟩ :: rest) scope pos) scope X.env pos' (newList []) false (eval iter X.env) use) Qf X.xe s := by
  have hfree : ∀ y ∈ scope.names, y.2 = .free → ∃ c, X.env.cells.lookup y.1 = some c := fun y hy e => by
    rcases ok.free y hy e with k | k
    · exact I.ok.has _ (.inl k)
    · exact I.ok.has _ (.inr k)
  refine wpAny_comprehension_free (use := use) rfl hs (closure_ok hfree) ok.kind (fun y hy e => by rw [ok.uniq y hy, e])
    (thn (hi.run pins s σ H _ I h) fun xv s1 hx => thn hx fun itv s2 h2 => ?_)
  obtain ⟨it, fp, tn, J, H2, e, I2, T, st2, f2, q⟩ := h2
  subst e
  refine wpAny_newObj_type (newEnv_comp ?_) (by show 0 ≤ sizeLine; decide)
  generalize hD : s2.heap.objs.size = D
  have hDn : H2 D = none := I2.hok.fresh (Nat.le_of_eq hD)
  have qt := q D hDn
  -- the new list
  generalize hs3 : ({ s2 with heap := s2.heap.push { cls := .type "list", data := .seq ([] : List Value).toArray } } : Shared) = s3
  have I3 : Inv X pins σ (upd H2 D (.lst [])) s3 := by
    rw [← hs3]
    refine I2.laid (t' := s2.toks) (fun b o e => Heap.get?_push_of_some _ e) (Nat.le_of_eq hD) ⟨Nat.zero_le _, [], 0, .nil, ?_⟩
    rw [← hD]
    exact Heap.get?_push_size _ rfl
  have h3 : s3.heap = s2.heap.push { cls := .type "list", data := .seq ([] : List Value).toArray } := by rw [← hs3]
  have sz : ∀ b ∈ fp, b < s2.heap.objs.size := fun b hb => by
    obtain ⟨o, e, _⟩ := T.obj _ _ st2 b hb
    exact Heap.lt_size e
  have f3 : ∀ b ∈ fp, FpOk X pins (upd H2 D (.lst [])) b ∧ b < s3.heap.objs.size := fun b hb => by
    have hlt := sz b hb
    refine ⟨⟨?_, (f2 b hb).2⟩, by rw [h3, Heap.size_push]; exact Nat.lt_succ_of_lt hlt⟩
    rw [upd_ne (by rw [← hD]; exact Nat.ne_of_lt hlt)]
    exact (f2 b hb).1
  have st3 : tn 0 s3.heap := T.keep _ _ _ st2 fun b _ o e => by rw [h3]; exact Heap.get?_push_of_some _ e
  have I4 := block_start I3 ok hN f3
  have pc := hp s3 (upd H2 D (.lst [])) s3.heap.objs.size (cellsFrom (s3.heap.objs.size + 1) scope.names (cloFrom X.env.cells scope.names [])) fp
  show codeAny _ _ (.compStart (.ListComp elt (⟨tg, iter, ifs, 0⟩ :: rest) scope pos) 0 (.ref it) (.ref D) (compEnvC scope (cellsFrom (s3.heap.objs.size + 1) scope.names (cloFrom X.env.cells scope.names [])) s3.heap.objs.size X.env)) (compPost (model X.prog X.w) X.A X.xe use Qf (.ref D) s3.heap.objs.size) { s3 with heap := pushCells (s3.heap.push { cls := .type "dict", data := .dict #[] }) scope.names }
  have nfp : ∀ b ∈ fp, (upd H2 D (.lst [])) b = none := fun b hb => (f3 b hb).1.1
  generalize hce : compEnvC scope (cellsFrom (s3.heap.objs.size + 1) scope.names (cloFrom X.env.cells scope.names [])) s3.heap.objs.size X.env = ce at I4 pc ⊢
  have cL : ce.locals = s3.heap.objs.size := by subst hce; rfl
  generalize hH3 : upd H2 D (.lst []) = H3 at I3 I4 pc nfp f3 qt
  generalize hs4 : ({ s3 with heap := pushCells (s3.heap.push { cls := .type "dict", data := .dict #[] }) scope.names } : Shared) = s4 at I4 ⊢
  have st4 : tn 0 s4.heap := T.keep _ _ _ st3 fun b _ o e => by rw [← hs4]; exact pushCells_keeps _ _ _ _ (Heap.get?_push_of_some _ e)
  have stat : ∀ b ∈ fp, FpOk (X.blk s3 H3 scope ce fp) [] H3 b := fun b hb =>
    ⟨nfp b hb, (I4.ok.exf b hb).1, I4.ok.exfs b hb, .inl hb, fun x c e => (I4.ok.exf b hb).2 x c e, fun p hp => absurd (show p ∈ ([] : List (Addr × Obj)) ++ [] from hp) (by simp)⟩
  have loop : codeAny (model X.prog X.w) X.A (.compLoop (.ListComp elt (⟨tg, iter, ifs, 0⟩ :: rest) scope pos) 0 (.ref it) (.ref D) ce) (compPost (model X.prog X.w) X.A X.xe use Qf (.ref D) s3.heap.objs.size) s4 := by
    refine pc.run [] s4 _ H3 D _ it fp tn J _ I4 T st4 stat qt fun s6 σ6 H6 I6 _ qq => ?_
    have I7 : Inv X pins σ H6 s6 := I3.call' (ch := fp) I6.os I6.base I6.hok I6.bare fun b hb => ⟨(f3 b hb).1.2.2.2.1, (f3 b hb).1.2.1, (f3 b hb).1.2.2.2.2.1, (f3 b hb).1.2.2.2.2.2⟩
    have nC : H6 s3.heap.objs.size = none := by
      have z : H6 ce.locals = none := I6.free
      rw [cL] at z
      exact z
    obtain ⟨m, hn, _⟩ := I6.loc
    have hn : s6.heap.Ns ce.locals m := hn
    rw [cL] at hn
    exact hRR D s3.heap.objs.size s6 m H6 I7 qq hn (I3.fpOk (Nat.le_refl _) nC)
  exact codeAny_compStart_list loop (T.self X.A 0 _ _ _ st4 loop)
/-- as a value -/
theorem pe_lcN {elt tg iter : Expr} {ifs : List Expr} {rest : List Comprehension} {scope : Scope} {own : List (Str × Nat)} {pos : Pos} {wi : TI} {t : It → Addr → L2.St → Hp → (Hp → Prop) → Prop} (hc : X.calm = true) (hN : X.N.Nodup) (hi : PI X tg iter wi) (ok : BlkOk X.N X.env.scope scope own)
    (hp : ∀ (s : Shared) (H : Hp) (C : Addr) (cl : List (Str × Addr)) (fp : List Addr), PCl (X.blk s H scope (compEnvC scope cl C X.env) fp) elt (⟨tg, iter, ifs, 0⟩ :: rest) scope pos 0 tg (own.map (·.2)) t) (hs : ∀ x, foldedSetIterable iter X.env x = pure x := by intro _; rfl) :
    PE X (.ListComp elt (⟨tg, iter, ifs, 0⟩ :: rest) scope pos) (tLcN wi t (own.map (·.2))) := by
  refine ⟨fun pins s σ H Q I h => ?_⟩
  rw [eval_ListComp]
  refine lcN_core hc hN I hi ok hp hs h fun D C s' m H' I' q hn f => ⟨m, hn, fun h'' sb => ?_⟩
  obtain ⟨f0, f1, f2, f3, f4, f5⟩ := f
  exact ⟨.ref D, H', I'.turned (t' := s'.toks) (fun b o hb e => (sb.2 b hb).trans e) f0 f1 f3 f4 f5, rfl, q⟩
/-- name = [..] -/
theorem ps_setLcN {i : Nat} {y : Str} {py : Pos} {elt tg iter : Expr} {ifs : List Expr} {rest : List Comprehension} {scope : Scope} {own : List (Str × Nat)} {pos spos : Pos} {wi : TI} {t : It → Addr → L2.St → Hp → (Hp → Prop) → Prop} (hc : X.calm = true) (hN : X.N.Nodup) (hy : X.N[i]? = some y) (hyl : X.env.scope.names.lookup y = some .local)
    (hsw : swapsWith (.ListComp elt (⟨tg, iter, ifs, 0⟩ :: rest) scope pos) (some (.Name y py)) spos.line X.env = pure true) (hi : PI X tg iter wi) (ok : BlkOk X.N X.env.scope scope own)
    (hp : ∀ (s : Shared) (H : Hp) (C : Addr) (cl : List (Str × Addr)) (fp : List Addr), PCl (X.blk s H scope (compEnvC scope cl C X.env) fp) elt (⟨tg, iter, ifs, 0⟩ :: rest) scope pos 0 tg (own.map (·.2)) t) (hs : ∀ x, foldedSetIterable iter X.env x = pure x := by intro _; rfl) :
    PS X (.Assign [.Name y py] (.ListComp elt (⟨tg, iter, ifs, 0⟩ :: rest) scope pos) spos) (tAsg (tLcN wi t (own.map (·.2))) (gName i)) := by
  refine ⟨fun pins s σ H D I h => ?_⟩
  rw [exec_Assign_Name_used _ _ _ _ hsw]
  refine wpAny_bind (wpAny_standAt (wpAny_bind ?_))
  show wpAny _ X.A (do let _ ← comprehension (.ListComp elt (⟨tg, iter, ifs, 0⟩ :: rest) scope pos) scope X.env (firstIterPos (⟨tg, iter, ifs, 0⟩ :: rest) pos) (newList []) false (eval iter X.env) (some (assign (.Name y py) X.env))) _ _ s
  have h : tLcN wi t (own.map (·.2)) σ H (fun x H1 => gName i x σ H1 D.nx) := h
  refine wpAny_bind (thn (lcN_core (Qf := fun _ s' => SP X pins D .next s') hc hN I hi ok hp hs h fun L C s' m H' I' q hn f => ?_) fun _ s' hq => wpAny_pure (wpAny_pure hq))
  show wpAny _ _ (assign (.Name y py) X.env (.ref L)) _ _ _
  refine wpAny_assign_Name (store_ok2 (v := V.ref L) I' hN hy (.inl hyl) rfl (fun s2 I2 ⟨a, sb, ha⟩ => ?_) (.inr hyl))
  obtain ⟨f0, f1, f2, f3, f4, f5⟩ := f
  have haC : C ≠ a := by
    rcases ha with z | z
    · rw [z]; exact f1
    · exact fun e => f4 y a z e.symm
  refine ⟨m, hn.sameBut sb haC, fun h3 sb3 => ?_⟩
  exact ⟨_, H', I2.turned (t' := s2.toks) (fun b o hb e => (sb3.2 b hb).trans e) f0 f1 f3 f4 f5, q⟩

/-- a clause's loop over a walk: Pv by the turn and the heap -/
theorem cl_it {J : It} {n : Nat} {G : Hp → Prop} {Yd : Nat → Hp → V → Hp → Prop} (w : Walk J n G Yd) {g : TG} {tt : TT} {vs : List Nat} {body : Addr → L2.St → Hp → (Hp → Prop) → Prop} {D : Addr} {σ : L2.St} {H : Hp} {Nx : Hp → Prop} (Pv : Nat → Hp → Prop) (h0 : Pv 0 H) (hG : ∀ i H, i ≤ n → Pv i H → G H)
    (hs : ∀ i x H H', i < n → Pv i H → Yd i H x H' → g x (wipe σ vs) H' fun σ2 H2 => wipe σ2 vs = wipe σ vs ∧ tt σ2 H2 fun b H3 => if b = true then body D σ2 H3 (Pv (i + 1)) else Pv (i + 1) H3) (hd : ∀ H, Pv n H → Nx H) :
    tCl g tt vs body J D σ H Nx := by
  refine ⟨fun i m H => m = n - i ∧ i ≤ n ∧ Pv i H, ⟨n, by simp, Nat.zero_le _, h0⟩, ?_⟩
  rintro i m H ⟨rfl, hi, p⟩
  have q := hG i H hi p
  by_cases hlt : i < n
  · exact .inr ⟨w.goes i H hlt q, Pv (i + 1), fun H' p' => ⟨n - (i + 1), by omega, rfl, hlt, p'⟩, fun x H' y => hs i x H H' hlt p (w.yields i H x H' hlt q y)⟩
  · have e : i = n := by omega
    subst e
    exact .inl ⟨w.stops H q, hd H p⟩
end Nf

set_option autoImplicit false
/-! Rounds of tables: the mathematics. -/
namespace Nf
abbrev Tbl := List Int
abbrev Rnd := List Tbl

/-! ### lists -/
theorem dropCons {α : Type} {l : List α} {i : Nat} {x : α} (h : l[i]? = some x) : l.drop i = x :: l.drop (i + 1) := by
  obtain ⟨hi, e⟩ := List.getElem?_eq_some_iff.mp h
  rw [List.drop_eq_getElem_cons hi, e]
theorem takeSucc {α : Type} {l : List α} {i : Nat} {x : α} (h : l[i]? = some x) : l.take (i + 1) = l.take i ++ [x] := by
  rw [List.take_add_one, h]
  rfl

/-! ### pairs -/
def pairsT : Tbl → List (Int × Int)
  | [] => []
  | a :: t => t.map (fun b => (a, b)) ++ pairsT t
def pairsR (r : Rnd) : List (Int × Int) := r.flatMap pairsT
theorem pairsT_len : ∀ t : Tbl, (pairsT t).length ≤ t.length * t.length
  | [] => Nat.le_refl _
  | a :: t => by
    have := pairsT_len t
    simp only [pairsT, List.length_append, List.length_map, List.length_cons]
    have e : (t.length + 1) * (t.length + 1) = t.length * t.length + 2 * t.length + 1 := by
      simp only [Nat.add_mul, Nat.mul_add]
      omega
    omega
theorem mem_pairsT : ∀ {t : Tbl} {p : Int × Int}, p ∈ pairsT t → p.1 ∈ t ∧ p.2 ∈ t
  | [], _, h => by simp [pairsT] at h
  | a :: t, p, h => by
    simp only [pairsT, List.mem_append, List.mem_map] at h
    rcases h with ⟨b, hb, rfl⟩ | h
    · exact ⟨by simp, by simp [hb]⟩
    · exact ⟨List.mem_cons_of_mem _ (mem_pairsT h).1, List.mem_cons_of_mem _ (mem_pairsT h).2⟩

/-! ### order of tables, of pairs -/
def leI (a b : Int) : Bool := decide (a ≤ b)
def leT (a b : Tbl) : Bool := decide (a ≤ b)
theorem leI_trans (a b c : Int) (h : leI a b = true) (h' : leI b c = true) : leI a c = true := by
  simp only [leI, decide_eq_true_eq] at *
  omega
theorem leI_total (a b : Int) : (leI a b || leI b a) = true := by
  simp only [leI, Bool.or_eq_true, decide_eq_true_eq]
  omega
theorem leT_trans (a b c : Tbl) (h : leT a b = true) (h' : leT b c = true) : leT a c = true := by
  simp only [leT, decide_eq_true_eq] at *
  exact List.le_trans h h'
theorem leT_total (a b : Tbl) : (leT a b || leT b a) = true := by
  simp only [leT, Bool.or_eq_true, decide_eq_true_eq]
  exact List.le_total a b
def sortI (t : Tbl) : Tbl := t.mergeSort leI
def sortT (r : Rnd) : Rnd := r.mergeSort leT
theorem sortI_perm (t : Tbl) : (sortI t).Perm t := List.mergeSort_perm _ _
theorem sortT_perm (r : Rnd) : (sortT r).Perm r := List.mergeSort_perm _ _
theorem sortI_up (t : Tbl) : (sortI t).Pairwise (· ≤ ·) := (List.pairwise_mergeSort leI_trans leI_total t).imp fun h => of_decide_eq_true h
theorem sortT_up (r : Rnd) : (sortT r).Pairwise (· ≤ ·) := (List.pairwise_mergeSort leT_trans leT_total r).imp fun h => of_decide_eq_true h
theorem sortI_iff (t : Tbl) : t = sortI t ↔ t.Pairwise (· ≤ ·) := by
  constructor
  · intro h
    rw [h]
    exact sortI_up t
  · intro h
    exact (List.mergeSort_of_pairwise (h.imp fun q => decide_eq_true q)).symm
theorem sortT_iff (r : Rnd) : r = sortT r ↔ r.Pairwise (· ≤ ·) := by
  constructor
  · intro h
    rw [h]
    exact sortT_up r
  · intro h
    exact (List.mergeSort_of_pairwise (h.imp fun q => decide_eq_true q)).symm

/-! ### rounds -/
structure IsRound (g s : Int) (r : Rnd) : Prop where
  sz : ∀ t ∈ r, 1 ≤ t.length ∧ (t.length : Int) ≤ s
  up : ∀ t ∈ r, t.Pairwise (· ≤ ·)
  lo : ∀ x ∈ r.flatten, 0 ≤ x ∧ x < g
  nd : r.flatten.Nodup
  ct : (r.length : Int) ≤ g / s
  ord : r.Pairwise (· ≤ ·)

def rises (t : Tbl) : Bool := (t.zip (t.drop 1)).all fun p => decide (p.1 < p.2)
theorem rises_iff : ∀ t : Tbl, rises t = true ↔ t.Pairwise (· < ·)
  | [] => by simp [rises]
  | [a] => by simp [rises]
  | a :: b :: t => by
    have ih := rises_iff (b :: t)
    have e : rises (a :: b :: t) = (decide (a < b) && rises (b :: t)) := by
      simp [rises]
    rw [e, Bool.and_eq_true, ih, decide_eq_true_eq, List.pairwise_cons (a := a)]
    constructor
    · rintro ⟨h, q⟩
      refine ⟨fun x hx => ?_, q⟩
      rcases List.mem_cons.mp hx with rfl | hx
      · exact h
      · have := (List.pairwise_cons.mp q).1 x hx
        omega
    · rintro ⟨h, q⟩
      exact ⟨h b (by simp), q⟩

theorem up_strict {t : Tbl} (h : t.Pairwise (· ≤ ·)) (n : t.Nodup) : t.Pairwise (· < ·) :=
  List.Pairwise.imp₂ (fun a b (h1 : a ≤ b) (h2 : a ≠ b) => by omega) h n
theorem strict_up {t : Tbl} (h : t.Pairwise (· < ·)) : t.Pairwise (· ≤ ·) := h.imp fun q => by omega

/-- the program's own test of a table -/
structure IsTable (g s : Int) (t : Tbl) : Prop where
  sz : 1 ≤ t.length ∧ (t.length : Int) ≤ s
  up : t.Pairwise (· < ·)
  lo : 0 ≤ t.headD 0
  hi : t.getLastD 0 < g
theorem last_top : ∀ {t : Tbl}, t.Pairwise (· ≤ ·) → ∀ x ∈ t, x ≤ t.getLastD 0
  | [], _, x, h => by simp at h
  | [a], _, x, h => by
    have e : x = a := by simpa using h
    subst e
    simp
  | a :: b :: t, h, x, hx => by
    have ih := last_top (t := b :: t) (List.pairwise_cons.mp h).2
    have e : (a :: b :: t).getLastD 0 = (b :: t).getLastD 0 := by simp [List.getLastD]
    rw [e]
    rcases List.mem_cons.mp hx with rfl | hx
    · have h1 := (List.pairwise_cons.mp h).1 b (by simp)
      have h2 := ih b (by simp)
      omega
    · exact ih x hx
theorem head_low : ∀ {t : Tbl}, t.Pairwise (· ≤ ·) → ∀ x ∈ t, t.headD 0 ≤ x
  | [], _, x, h => by simp at h
  | a :: t, h, x, hx => by
    show a ≤ x
    rcases List.mem_cons.mp hx with rfl | hx
    · exact Int.le_refl _
    · exact (List.pairwise_cons.mp h).1 x hx
theorem head_mem : ∀ {t : Tbl}, 1 ≤ t.length → t.headD 0 ∈ t
  | [], h => by simp at h
  | a :: t, _ => by simp
theorem last_mem : ∀ {t : Tbl}, 1 ≤ t.length → t.getLastD 0 ∈ t
  | [], h => by simp at h
  | [a], _ => by simp
  | a :: b :: t, _ => by
    have := last_mem (t := b :: t) (by simp)
    have e : (a :: b :: t).getLastD 0 = (b :: t).getLastD 0 := by simp [List.getLastD]
    rw [e]
    exact List.mem_cons_of_mem _ this
theorem IsTable.range {g s : Int} {t : Tbl} (h : IsTable g s t) : ∀ x ∈ t, 0 ≤ x ∧ x < g := fun x hx =>
  ⟨Int.le_trans h.lo (head_low (strict_up h.up) x hx), Int.lt_of_le_of_lt (last_top (strict_up h.up) x hx) h.hi⟩

theorem le_of_head {a b : Tbl} (ha : 1 ≤ a.length) (hb : 1 ≤ b.length) (h : a.headD 0 < b.headD 0) : a ≤ b := by
  cases a with
  | nil => simp at ha
  | cons x a =>
    cases b with
    | nil => simp at hb
    | cons y b => exact List.cons_le_cons_iff.mpr (.inl h)
theorem head_of_le {a b : Tbl} (ha : 1 ≤ a.length) (hb : 1 ≤ b.length) (h : a ≤ b) (d : ∀ x ∈ a, x ∉ b) : a.headD 0 < b.headD 0 := by
  cases a with
  | nil => simp at ha
  | cons x a =>
    cases b with
    | nil => simp at hb
    | cons y b =>
      rcases List.cons_le_cons_iff.mp h with h | ⟨rfl, _⟩
      · exact h
      · exact absurd List.mem_cons_self (d x List.mem_cons_self)

theorem flat_disjoint {r : Rnd} (h : r.flatten.Nodup) : r.Pairwise (fun a b => ∀ x ∈ a, x ∉ b) :=
  (List.pairwise_flatten.mp h).2.imp fun q x hx hy => q x hx x hy rfl
theorem flat_each {r : Rnd} (h : r.flatten.Nodup) : ∀ t ∈ r, t.Nodup := (List.pairwise_flatten.mp h).1

theorem pw_mem {α : Type} {R S : α → α → Prop} {l : List α} (h : l.Pairwise R) (q : ∀ a ∈ l, ∀ b ∈ l, R a b → S a b) : l.Pairwise S := by
  induction l with
  | nil => exact .nil
  | cons x l ih =>
    obtain ⟨h1, h2⟩ := List.pairwise_cons.mp h
    exact List.pairwise_cons.mpr ⟨fun y hy => q x (by simp) y (by simp [hy]) (h1 y hy), ih h2 fun a ha b hb => q a (by simp [ha]) b (by simp [hb])⟩

/-- the program's own test of a round -/
theorem isRound_iff {g s : Int} {r : Rnd} : IsRound g s r ↔ ((r.length : Int) ≤ g / s ∧ (∀ t ∈ r, IsTable g s t) ∧ r.flatten.Nodup ∧ (r.map (·.headD 0)).Pairwise (· < ·)) := by
  constructor
  · intro h
    refine ⟨h.ct, fun t ht => ?_, h.nd, ?_⟩
    · have l1 := h.sz t ht
      have m : ∀ x ∈ t, x ∈ r.flatten := fun x hx => List.mem_flatten.mpr ⟨t, ht, hx⟩
      exact ⟨l1, up_strict (h.up t ht) (flat_each h.nd t ht), (h.lo _ (m _ (head_mem l1.1))).1, (h.lo _ (m _ (last_mem l1.1))).2⟩
    · rw [List.pairwise_map]
      exact pw_mem (List.Pairwise.imp₂ (fun a b (p : a ≤ b) (q : ∀ x ∈ a, x ∉ b) => And.intro p q) h.ord (flat_disjoint h.nd)) fun a ha b hb q =>
        head_of_le (h.sz a ha).1 (h.sz b hb).1 q.1 q.2
  · rintro ⟨h1, h2, h3, h4⟩
    refine ⟨fun t ht => (h2 t ht).sz, fun t ht => strict_up (h2 t ht).up, fun x hx => ?_, h3, h1, ?_⟩
    · obtain ⟨t, ht, hxt⟩ := List.mem_flatten.mp hx
      exact (h2 t ht).range x hxt
    · rw [List.pairwise_map] at h4
      exact pw_mem h4 fun a ha b hb q => le_of_head (h2 a ha).sz.1 (h2 b hb).sz.1 q

theorem sum_le {r : Rnd} {s : Int} (h : ∀ t ∈ r, (t.length : Int) ≤ s) : (r.flatten.length : Int) ≤ r.length * s := by
  induction r with
  | nil => simp
  | cons t r ih =>
    have h1 := h t (by simp)
    have h2 := ih fun t ht => h t (by simp [ht])
    simp only [List.flatten_cons, List.length_append, List.length_cons]
    have e : ((r.length + 1 : Nat) : Int) * s = (r.length : Int) * s + s := by
      rw [Int.natCast_add, Int.add_mul]
      simp
    rw [e]
    omega

/-! ### what is wrong with a plan -/
inductive Verd where
  | good
  | rnd (k : Nat)
  | twice (a b : Int) (j k : Nat)
abbrev Known := Int → Int → Option Nat
open Classical in
noncomputable def kadd (kn : Known) (r : Rnd) (k : Nat) : Known := fun a b => if (a, b) ∈ pairsR r then some k else kn a b
def k0 : Known := fun _ _ => none
inductive IsV (g s : Int) : List Rnd → Known → Nat → Verd → Prop where
  | nil {kn : Known} {k : Nat} : IsV g s [] kn k .good
  | bad {r : Rnd} {rs : List Rnd} {kn : Known} {k : Nat} : ¬ IsRound g s r → IsV g s (r :: rs) kn k (.rnd k)
  | twice {r : Rnd} {rs : List Rnd} {kn : Known} {k j : Nat} {a b : Int} : IsRound g s r → (a, b) ∈ pairsR r → kn a b = some j →
      (∀ c d, (c, d) ∈ pairsR r → kn c d ≠ none → a < c ∨ (a = c ∧ b ≤ d)) → IsV g s (r :: rs) kn k (.twice a b j k)
  | next {r : Rnd} {rs : List Rnd} {kn : Known} {k : Nat} {v : Verd} : IsRound g s r → (∀ c d, (c, d) ∈ pairsR r → kn c d = none) →
      IsV g s rs (kadd kn r k) (k + 1) v → IsV g s (r :: rs) kn k v
theorem IsV.unique {g s : Int} : ∀ {rs : List Rnd} {kn : Known} {k : Nat} {v v' : Verd}, IsV g s rs kn k v → IsV g s rs kn k v' → v = v'
  | _, _, _, _, _, .nil, .nil => rfl
  | _, _, _, _, _, .bad _, .bad _ => rfl
  | _, _, _, _, _, .bad h, .twice h' _ _ _ => absurd h' h
  | _, _, _, _, _, .bad h, .next h' _ _ => absurd h' h
  | _, _, _, _, _, .twice h' _ _ _, .bad h => absurd h' h
  | _, _, _, _, _, .next h' _ _, .bad h => absurd h' h
  | _, _, _, _, _, .twice (a := a) (b := b) _ m e l, .twice (a := a') (b := b') _ m' e' l' => by
    have q := l _ _ m' (by rw [e']; exact Option.some_ne_none _)
    have q' := l' _ _ m (by rw [e]; exact Option.some_ne_none _)
    have ea : a = a' := by omega
    subst ea
    have eb : b = b' := by omega
    subst eb
    rw [e] at e'
    cases e'
    rfl
  | _, _, _, _, _, .twice _ m e _, .next _ n _ => by
    rw [n _ _ m] at e
    cases e
  | _, _, _, _, _, .next _ n _, .twice _ m e _ => by
    rw [n _ _ m] at e
    cases e
  | _, _, _, _, _, .next _ _ q, .next _ _ q' => q.unique q'

/-- no two sit together twice -/
structure GoodP (g s : Int) (plan : List Rnd) : Prop where
  rd : ∀ r ∈ plan, IsRound g s r
  np : plan.Pairwise (fun r r' => ∀ p ∈ pairsR r, p ∉ pairsR r')
theorem GoodP.nil {g s : Int} : GoodP g s [] := ⟨fun _ h => by simp at h, .nil⟩
theorem GoodP.snoc {g s : Int} {plan : List Rnd} {r : Rnd} (h : GoodP g s plan) (hr : IsRound g s r) (hn : ∀ p ∈ pairsR r, ∀ q ∈ plan, p ∉ pairsR q) : GoodP g s (plan ++ [r]) := by
  refine ⟨fun q hq => ?_, ?_⟩
  · rcases List.mem_append.mp hq with hq | hq
    · exact h.rd q hq
    · rw [List.mem_singleton.mp hq]
      exact hr
  · refine List.pairwise_append.mpr ⟨h.np, by simp, fun a ha b hb p hp hq => ?_⟩
    rw [List.mem_singleton.mp hb] at hq
    exact hn p hq a ha hp
theorem GoodP.isV {g s : Int} : ∀ {plan : List Rnd} {kn : Known} {k : Nat}, GoodP g s plan → (∀ r ∈ plan, ∀ p ∈ pairsR r, kn p.1 p.2 = none) → IsV g s plan kn k .good
  | [], _, _, _, _ => .nil
  | r :: rs, kn, k, h, e => by
    obtain ⟨h1, h2⟩ := List.pairwise_cons.mp h.np
    refine .next (h.rd r (by simp)) (fun c d m => e r (by simp) (c, d) m) (GoodP.isV ⟨fun q hq => h.rd q (by simp [hq]), h2⟩ fun q hq p hp => ?_)
    unfold kadd
    rw [if_neg fun z => h1 q hq _ z hp]
    exact e q (by simp [hq]) p hp

/-! ### rounds that are drawn -/
theorem chunk_flat (l : List Int) (s : Nat) : ∀ n : Nat, ((List.range n).map fun i => (l.drop (i * s)).take s).flatten = l.take (n * s)
  | 0 => by simp
  | n + 1 => by
    rw [List.range_succ, List.map_append, List.flatten_append, chunk_flat l s n]
    simp only [List.map_cons, List.map_nil, List.flatten_cons, List.flatten_nil, List.append_nil]
    rw [Nat.add_mul, Nat.one_mul, List.take_add]
theorem map_perm_flat {α : Type} (f g : α → List Int) : ∀ l : List α, (∀ x ∈ l, (f x).Perm (g x)) → ((l.map f).flatten).Perm ((l.map g).flatten)
  | [], _ => .refl _
  | x :: l, h => by
    simp only [List.map_cons, List.flatten_cons]
    exact (h x (by simp)).append (map_perm_flat f g l fun y hy => h y (by simp [hy]))
def rangeI (g : Nat) : List Int := (List.range g).map fun i : Nat => (i : Int)
theorem mem_rangeI {g : Nat} {x : Int} : x ∈ rangeI g ↔ 0 ≤ x ∧ x < g := by
  unfold rangeI
  constructor
  · intro h
    obtain ⟨i, hi, rfl⟩ := List.mem_map.mp h
    have := List.mem_range.mp hi
    omega
  · rintro ⟨h1, h2⟩
    exact List.mem_map.mpr ⟨x.toNat, List.mem_range.mpr (by omega), by omega⟩
theorem rangeI_nodup (g : Nat) : (rangeI g).Nodup := by
  unfold rangeI
  unfold List.Nodup
  rw [List.pairwise_map]
  exact (List.nodup_range (n := g)).imp fun h e => h (by omega)
theorem rangeI_len (g : Nat) : (rangeI g).length = g := by simp [rangeI]

/-- a round by its facts, its tables sorted -/
theorem isRound_sort {g s : Int} {r : Rnd} (sz : ∀ t ∈ r, 1 ≤ t.length ∧ (t.length : Int) ≤ s) (up : ∀ t ∈ r, t.Pairwise (· ≤ ·)) (lo : ∀ x ∈ r.flatten, 0 ≤ x ∧ x < g) (nd : r.flatten.Nodup) (ct : (r.length : Int) ≤ g / s) : IsRound g s (sortT r) := by
  have p := sortT_perm r
  refine ⟨fun t ht => sz t (p.mem_iff.mp ht), fun t ht => up t (p.mem_iff.mp ht), fun x hx => lo x (p.flatten.mem_iff.mp hx), p.flatten.nodup_iff.mpr nd, ?_, sortT_up r⟩
  rw [p.length_eq]
  exact ct

/-- seated: chunks, each sorted, the tables sorted -/
def seatedM (l : List Int) (s n : Nat) : Rnd := sortT ((List.range n).map fun i => sortI ((l.drop (i * s)).take s))
theorem seated_len (l : List Int) (s n : Nat) : (seatedM l s n).length = n := by
  unfold seatedM
  rw [(sortT_perm _).length_eq]
  simp
theorem seated_flat {l : List Int} {s n : Nat} (hl : l.length = n * s) : (seatedM l s n).flatten.Perm l := by
  refine ((sortT_perm _).flatten).trans ((map_perm_flat _ (fun i => (l.drop (i * s)).take s) _ fun i _ => sortI_perm _).trans ?_)
  rw [chunk_flat, List.take_of_length_le (by omega)]
theorem seated_each {l : List Int} {s n : Nat} (hl : l.length = n * s) : ∀ t ∈ seatedM l s n, t.length = s ∧ t.Pairwise (· ≤ ·) := fun t ht => by
  obtain ⟨i, hi, rfl⟩ := List.mem_map.mp ((sortT_perm _).mem_iff.mp ht)
  refine ⟨?_, sortI_up _⟩
  have hi := List.mem_range.mp hi
  rw [(sortI_perm _).length_eq, List.length_take, List.length_drop, hl]
  have e : (i + 1) * s ≤ n * s := Nat.mul_le_mul_right s hi
  rw [Nat.add_mul, Nat.one_mul] at e
  omega
theorem seated_round {l : List Int} {s n : Nat} (hp : l.Perm (rangeI (n * s))) (hs : 1 ≤ s) : IsRound ((n * s : Nat) : Int) s (seatedM l s n) := by
  have hl : l.length = n * s := by rw [hp.length_eq, rangeI_len]
  have fl := (seated_flat (s := s) hl).trans hp
  refine ⟨fun t ht => ?_, fun t ht => (seated_each hl t ht).2, fun x hx => ?_, fl.nodup_iff.mpr (rangeI_nodup _), ?_, sortT_up _⟩
  · rw [(seated_each hl t ht).1]
    exact ⟨hs, Int.le_refl _⟩
  · exact mem_rangeI.mp (fl.mem_iff.mp hx)
  · rw [seated_len]
    have : ((n * s : Nat) : Int) / (s : Int) = n := by
      rw [Int.natCast_mul]
      exact Int.mul_ediv_cancel _ (by omega)
    omega

/-- some of a round's guests are away -/
structure Thin (r f : Rnd) (i : Nat) : Prop where
  fl : f.flatten.Sublist (r.take i).flatten
  ct : f.length ≤ i
  each : ∀ t ∈ f, t ≠ [] ∧ ∃ u ∈ r, t.Sublist u
theorem Thin.zero (r : Rnd) : Thin r [] 0 := ⟨by simp, Nat.le_refl _, fun _ h => by simp at h⟩
theorem Thin.skip {r f : Rnd} {i : Nat} (h : Thin r f i) : Thin r f (i + 1) := by
  refine ⟨h.fl.trans ?_, Nat.le_succ_of_le h.ct, h.each⟩
  rw [List.take_add, List.flatten_append]
  exact List.sublist_append_left _ _
theorem Thin.add {r f : Rnd} {i : Nat} {t u : Tbl} (h : Thin r f i) (hu : r[i]? = some u) (ht : t.Sublist u) (hn : t ≠ []) : Thin r (f ++ [t]) (i + 1) := by
  refine ⟨?_, ?_, fun x hx => ?_⟩
  · rw [takeSucc hu, List.flatten_append, List.flatten_append]
    exact h.fl.append (by simpa using ht)
  · rw [List.length_append]
    exact Nat.succ_le_succ h.ct
  · rcases List.mem_append.mp hx with hx | hx
    · exact h.each x hx
    · rw [List.mem_singleton.mp hx]
      exact ⟨hn, u, List.mem_of_getElem? hu, ht⟩
theorem Thin.round {g s : Int} {r f : Rnd} (h : Thin r f r.length) (hr : IsRound g s r) : IsRound g s (sortT f) := by
  have fl : f.flatten.Sublist r.flatten := by
    have := h.fl
    rwa [List.take_of_length_le (Nat.le_refl _)] at this
  refine isRound_sort (fun t ht => ?_) (fun t ht => ?_) (fun x hx => hr.lo x (fl.subset hx)) (hr.nd.sublist fl) ?_
  · obtain ⟨hn, u, hu, hs⟩ := h.each t ht
    refine ⟨List.length_pos_iff.mpr hn, ?_⟩
    have := hs.length_le
    have := (hr.sz u hu).2
    omega
  · obtain ⟨hn, u, hu, hs⟩ := h.each t ht
    exact (hr.up u hu).sublist hs
  · have := h.ct
    have := hr.ct
    omega
end Nf
namespace Nf
/-! ### pairs in order -/
def leP (p q : Int × Int) : Bool := decide (p.1 < q.1 ∨ (p.1 = q.1 ∧ p.2 ≤ q.2))
def sortP (ps : List (Int × Int)) : List (Int × Int) := ps.mergeSort leP
theorem leP_trans (a b c : Int × Int) (h : leP a b = true) (h' : leP b c = true) : leP a c = true := by
  simp only [leP, decide_eq_true_eq] at *
  omega
theorem leP_total (a b : Int × Int) : (leP a b || leP b a) = true := by
  simp only [leP, Bool.or_eq_true, decide_eq_true_eq]
  omega
theorem sortP_perm (ps : List (Int × Int)) : (sortP ps).Perm ps := List.mergeSort_perm _ _
theorem sortP_up (ps : List (Int × Int)) : (sortP ps).Pairwise (fun p q => p.1 < q.1 ∨ (p.1 = q.1 ∧ p.2 ≤ q.2)) := (List.pairwise_mergeSort leP_trans leP_total ps).imp fun h => of_decide_eq_true h
theorem pairsT_drop {t : Tbl} {j : Nat} {a : Int} (h : t[j]? = some a) : pairsT (t.drop j) = (t.drop (j + 1)).map (fun b => (a, b)) ++ pairsT (t.drop (j + 1)) := by
  rw [dropCons h]
  rfl
theorem pairsR_drop {r : Rnd} {i : Nat} {t : Tbl} (h : r[i]? = some t) : pairsR (r.drop i) = pairsT t ++ pairsR (r.drop (i + 1)) := by
  rw [dropCons h]
  rfl
end Nf
namespace Nf
theorem pairsR_len : ∀ r : Rnd, (pairsR r).length ≤ r.flatten.length * r.flatten.length
  | [] => Nat.le_refl _
  | t :: r => by
    have h1 := pairsR_len r
    have h2 := pairsT_len t
    show (pairsT t ++ pairsR r).length ≤ _
    rw [List.length_append, List.flatten_cons, List.length_append, Nat.add_mul, Nat.mul_add, Nat.mul_add]
    omega
theorem IsRound.flat64 {g s : Int} {r : Rnd} (h : IsRound g s r) (hs : 0 < s) : (r.flatten.length : Int) ≤ g := by
  have e1 := sum_le (fun t ht => (h.sz t ht).2)
  have e2 : (r.length : Int) * s ≤ g / s * s := Int.mul_le_mul_of_nonneg_right h.ct (by omega)
  have e3 : g / s * s ≤ g := Int.ediv_mul_le g (by omega)
  omega
theorem IsRound.pairs_le {g s : Int} {r : Rnd} (h : IsRound g s r) (hs : 0 < s) (hg : g ≤ 64) : (pairsR r).length ≤ 4096 := by
  have h1 := pairsR_len r
  have h2 : r.flatten.length ≤ 64 := by
    have := h.flat64 hs
    omega
  have h3 : r.flatten.length * r.flatten.length ≤ 64 * 64 := Nat.mul_le_mul h2 h2
  omega
open Classical in
noncomputable def kaddL (kn : Known) (l : List (Int × Int)) (k : Nat) : Known := fun a b => if (a, b) ∈ l then some k else kn a b
theorem kaddL_nil (kn : Known) (k : Nat) : kaddL kn [] k = kn := by
  funext a b
  simp [kaddL]
theorem kaddL_snoc (kn : Known) (l : List (Int × Int)) (k : Nat) (x y a b : Int) : kaddL kn (l ++ [(x, y)]) k a b = if a = x ∧ b = y then some k else kaddL kn l k a b := by
  unfold kaddL
  by_cases h : a = x ∧ b = y
  · obtain ⟨rfl, rfl⟩ := h
    simp
  · have e : ((a, b) ∈ l ++ [(x, y)]) ↔ (a, b) ∈ l := by
      simp only [List.mem_append, List.mem_singleton, Prod.mk.injEq]
      constructor
      · rintro (z | z)
        · exact z
        · exact absurd z h
      · exact fun z => .inl z
    rw [if_neg h]
    by_cases hm : (a, b) ∈ l
    · rw [if_pos hm, if_pos (e.mpr hm)]
    · rw [if_neg hm, if_neg (fun z => hm (e.mp z))]
theorem kaddL_perm {kn : Known} {l : List (Int × Int)} {r : Rnd} {k : Nat} (h : l.Perm (pairsR r)) : kaddL kn l k = kadd kn r k := by
  funext a b
  unfold kaddL kadd
  by_cases hm : (a, b) ∈ pairsR r
  · rw [if_pos hm, if_pos (h.mem_iff.mpr hm)]
  · rw [if_neg hm, if_neg (fun z => hm (h.mem_iff.mp z))]
theorem sorted_first {r : Rnd} {m : Nat} {a b : Int} (h : (sortP (pairsR r))[m]? = some (a, b)) {kn : Known} (hn : ∀ p ∈ (sortP (pairsR r)).take m, kn p.1 p.2 = none) :
    ∀ c d, (c, d) ∈ pairsR r → kn c d ≠ none → a < c ∨ (a = c ∧ b ≤ d) := fun c d hm hk => by
  have hm' := (sortP_perm (pairsR r)).mem_iff.mpr hm
  obtain ⟨m', hm''⟩ := List.mem_iff_getElem?.mp hm'
  obtain ⟨l1, e1⟩ := List.getElem?_eq_some_iff.mp h
  obtain ⟨l2, e2⟩ := List.getElem?_eq_some_iff.mp hm''
  rcases Nat.lt_trichotomy m' m with z | z | z
  · refine absurd (hn (c, d) ?_) hk
    rw [List.mem_iff_getElem?]
    exact ⟨m', by rw [List.getElem?_take, if_pos z]; exact hm''⟩
  · subst z
    rw [h] at hm''
    cases hm''
    omega
  · have := List.pairwise_iff_getElem.mp (sortP_up (pairsR r)) m m' l1 l2 z
    rw [e1, e2] at this
    exact this
end Nf

set_option Elab.async false
set_option linter.all false
set_option maxRecDepth 100000
set_option maxHeartbeats 4000000
namespace Nf
open PySem PySem.Spec PyProof.Rows L2

/-! ### the built-ins that stand as they are -/
structure Blt (mg : Str → Option Value) : Prop where
  len : mg "len" = none
  all : mg "all" = none
  zip : mg "zip" = none
  set : mg "set" = none
  sorted : mg "sorted" = none
  enumerate : mg "enumerate" = none
  list : mg "list" = none
  tuple : mg "tuple" = none
  range : mg "range" = none
  isinstance : mg "isinstance" = none
  min : mg "min" = none
  max : mg "max" = none
  int : mg "int" = none
  bool : mg "bool" = none
  str : mg "str" = none

theorem two_le : 2 ≤ sizeLine := by decide
theorem five_le : 5 ≤ sizeLine := by decide
/-! ### heaps -/
/-- tuples stay -/
def SameT (H H' : Hp) : Prop := ∀ a xs, H a = some (.tup xs) → H' a = some (.tup xs)
theorem SameT.refl (H : Hp) : SameT H H := fun _ _ e => e
theorem SameT.trans {H H1 H2 : Hp} (a : SameT H H1) (b : SameT H1 H2) : SameT H H2 := fun _ _ e => b _ _ (a _ _ e)
theorem same_toT {H H' : Hp} (h : Same H H') : SameT H H' := fun a xs e => h a _ e
theorem same_new {H : Hp} {p : Addr} {o : HO} (h : H p = none) : Same H (upd H p o) := fun b x e => by
  rw [upd_ne (ne_of_none e h)]
  exact e
/-- what was not there before may change -/
theorem same_put {H H' : Hp} {p : Addr} {o : HO} (s : Same H H') (h : H p = none) : Same H (upd H' p o) := fun b x e => by
  rw [upd_ne (ne_of_none e h)]
  exact s _ _ e
theorem yesT {σ : L2.St} {H : Hp} {A B : Hp → Prop} (h : A H) : tYes σ H fun b H3 => if b = true then A H3 else B H3 := by
  show if true = true then A H else B H
  exact iteT h
/-- all but r stays -/
def Sx (r : Addr) (H H' : Hp) : Prop := ∀ b o, b ≠ r → H b = some o → H' b = some o
theorem Sx.refl (r : Addr) (H : Hp) : Sx r H H := fun _ _ _ e => e
theorem Sx.trans {r : Addr} {H H1 H2 : Hp} (a : Sx r H H1) (b : Sx r H1 H2) : Sx r H H2 := fun c o n e => b c o n (a c o n e)
theorem same_sx {r : Addr} {H H' : Hp} (h : Same H H') : Sx r H H' := fun b o _ e => h b o e
theorem Sx.upd {r : Addr} {H : Hp} {o : HO} : Sx r H (upd H r o) := fun b x n e => by
  rw [upd_ne n]
  exact e
theorem Sx.toT {r : Addr} {H H' : Hp} {xs : List V} (h : Sx r H H') (hr : H r = some (.lst xs)) : SameT H H' := fun a ys e => h a _ (ne_of e hr (by intro z; cases z)) e
theorem Sx.seq {K : PySem.W.Frag} {r a : Addr} {H H' : Hp} {xs : List V} (h : Sx r H H') (n : a ≠ r) (q : SqL K H a xs) : SqL K H' a xs := by
  rcases q with (q | ⟨o, q⟩) | q
  · exact .inl (.inl (h _ _ n q))
  · exact .inl (.inr ⟨o, h _ _ n q⟩)
  · exact .inr q

/-! ### the slots of a comprehension -/
theorem wipe_get {σ : L2.St} : ∀ {vs : List Nat} {j : Nat}, (wipe σ vs)[j]? = if j ∈ vs ∧ j < σ.length then some none else σ[j]?
  | [], j => by simp [wipe]
  | v :: vs, j => by
    unfold wipe
    by_cases h : v = j
    · subst h
      by_cases hl : v < σ.length
      · rw [List.getElem?_set_self (by rw [wipe_length]; exact hl), if_pos ⟨List.mem_cons_self, hl⟩]
      · rw [if_neg (fun z => hl z.2), List.getElem?_eq_none (by simp [wipe_length]; omega), List.getElem?_eq_none (by omega)]
    · rw [List.getElem?_set_ne h, wipe_get]
      have e : (j ∈ v :: vs ∧ j < σ.length) ↔ (j ∈ vs ∧ j < σ.length) := by
        simp only [List.mem_cons]
        constructor
        · rintro ⟨z | z, q⟩
          · exact absurd z.symm h
          · exact ⟨z, q⟩
        · rintro ⟨z, q⟩
          exact ⟨.inr z, q⟩
      simp only [e]
theorem wipe_eq {σ σ' : L2.St} {vs : List Nat} (hl : σ'.length = σ.length) (h : ∀ j, j ∉ vs → σ'[j]? = σ[j]?) : wipe σ' vs = wipe σ vs := by
  refine List.ext_getElem? fun j => ?_
  rw [wipe_get, wipe_get, hl]
  by_cases hj : j ∈ vs ∧ j < σ.length
  · rw [if_pos hj, if_pos hj]
  · rw [if_neg hj, if_neg hj]
    by_cases hm : j ∈ vs
    · have : ¬ j < σ.length := fun z => hj ⟨hm, z⟩
      rw [List.getElem?_eq_none (by omega), List.getElem?_eq_none (by omega)]
    · exact h j hm
theorem wipe_put {σ : L2.St} {vs : List Nat} {i : Nat} {x : Option V} (hi : i ∈ vs) : wipe ((wipe σ vs).set i x) vs = wipe σ vs := by
  refine wipe_eq (by rw [List.length_set, wipe_length]) fun j hj => ?_
  have ne : i ≠ j := by
    intro e
    exact hj (e ▸ hi)
  rw [List.getElem?_set_ne ne, wipe_get, if_neg fun z => hj z.1]
theorem wipe_put2 {σ : L2.St} {vs : List Nat} {i k : Nat} {x y : Option V} (hi : i ∈ vs) (hk : k ∈ vs) : wipe (((wipe σ vs).set i x).set k y) vs = wipe σ vs := by
  refine wipe_eq (by rw [List.length_set, List.length_set, wipe_length]) fun j hj => ?_
  have ne : i ≠ j := by
    intro e
    exact hj (e ▸ hi)
  have nk : k ≠ j := by
    intro e
    exact hj (e ▸ hk)
  rw [List.getElem?_set_ne nk, List.getElem?_set_ne ne, wipe_get, if_neg fun z => hj z.1]
/-! ### tables, rounds -/
def TabV (H : Hp) (x : V) (t : Tbl) : Prop := ∃ a, x = .ref a ∧ H a = some (.tup (t.map V.int))
def RndV (H : Hp) (x : V) (r : Rnd) : Prop := ∃ a xs, x = .ref a ∧ H a = some (.tup xs) ∧ Paired (TabV H) xs r
theorem TabV.mono {H H' : Hp} {x : V} {t : Tbl} (h : TabV H x t) (s : SameT H H') : TabV H' x t := by
  obtain ⟨a, e, q⟩ := h
  exact ⟨a, e, s _ _ q⟩
theorem paired_mono {α β : Type} {R R' : α → β → Prop} (f : ∀ a b, R a b → R' a b) : ∀ {xs : List α} {ys : List β}, Paired R xs ys → Paired R' xs ys
  | _, _, .nil => .nil
  | _, _, .cons r t => .cons (f _ _ r) (paired_mono f t)
theorem RndV.mono {H H' : Hp} {x : V} {r : Rnd} (h : RndV H x r) (s : SameT H H') : RndV H' x r := by
  obtain ⟨a, xs, e, q, p⟩ := h
  exact ⟨a, xs, e, s _ _ q, paired_mono (fun _ _ z => z.mono s) p⟩
def PairV (H : Hp) (x : V) (p : Int × Int) : Prop := ∃ a, x = .ref a ∧ H a = some (.tup [.int p.1, .int p.2])
theorem PairV.mono {H H' : Hp} {x : V} {t : Int × Int} (h : PairV H x t) (s : SameT H H') : PairV H' x t := by
  obtain ⟨a, e, q⟩ := h
  exact ⟨a, e, s _ _ q⟩
theorem paired_get {α β : Type} {R : α → β → Prop} : ∀ {xs : List α} {ys : List β} {i : Nat} {y : β}, Paired R xs ys → ys[i]? = some y → ∃ x, xs[i]? = some x ∧ R x y
  | _, _, i, y, .nil, e => by simp at e
  | _, _, 0, y, .cons r _, e => by
    have e' := Option.some.inj e
    subst e'
    exact ⟨_, rfl, r⟩
  | _, _, i + 1, y, .cons _ t, e => by
    obtain ⟨x, h1, h2⟩ := paired_get (i := i) (y := y) t (by simpa using e)
    exact ⟨x, by simpa using h1, h2⟩
theorem paired_getL {α β : Type} {R : α → β → Prop} : ∀ {xs : List α} {ys : List β} {i : Nat} {x : α}, Paired R xs ys → xs[i]? = some x → ∃ y, ys[i]? = some y ∧ R x y
  | _, _, i, y, .nil, e => by simp at e
  | _, _, 0, y, .cons r _, e => by
    have e' := Option.some.inj e
    subst e'
    exact ⟨_, rfl, r⟩
  | _, _, i + 1, y, .cons _ t, e => by
    obtain ⟨x, h1, h2⟩ := paired_getL (i := i) (x := y) t (by simpa using e)
    exact ⟨x, by simpa using h1, h2⟩
theorem paired_len {α β : Type} {R : α → β → Prop} : ∀ {xs : List α} {ys : List β}, Paired R xs ys → xs.length = ys.length
  | _, _, .nil => rfl
  | _, _, .cons _ t => by simp [paired_len t]
theorem paired_snoc {α β : Type} {R : α → β → Prop} {x : α} {y : β} : ∀ {xs : List α} {ys : List β}, Paired R xs ys → R x y → Paired R (xs ++ [x]) (ys ++ [y])
  | _, _, .nil, r => .cons r .nil
  | _, _, .cons q t, r => .cons q (paired_snoc t r)
theorem sqt_same {K : PySem.W.Frag} {H H' : Hp} {a : Addr} {xs : List V} (h : SqT K H a xs) (s : Same H H') : SqT K H' a xs := by
  rcases h with (h | ⟨o, h⟩) | h
  · exact .inl (.inl (s _ _ h))
  · exact .inl (.inr ⟨o, s _ _ h⟩)
  · exact .inr h
theorem getElem?_int {ns : List Int} {i : Nat} {x : V} (h : (ns.map V.int)[i]? = some x) : ∃ n, ns[i]? = some n ∧ x = .int n := by
  rw [List.getElem?_map] at h
  cases e : ns[i]? with
  | none =>
    rw [e] at h
    cases h
  | some n =>
    rw [e] at h
    exact ⟨n, rfl, (Option.some.inj h).symm⟩
theorem int_getElem? {ns : List Int} {i : Nat} {n : Int} (h : ns[i]? = some n) : (ns.map V.int)[i]? = some (.int n) := by
  rw [List.getElem?_map, h]
  rfl

/-! ### the script's row of draws -/
structure RowAt (K : PySem.W.Frag) (H : Hp) (r a : Addr) (ns : List Int) : Prop where
  sc : SqL K H a (ns.map V.int)
  ne : a ≠ r ∨ ∀ H2 : Hp, SqL K H2 a (ns.map V.int)
  row : ∃ i s c : Int, H r = some (.lst [.ref a, .int i, .int s, .int c]) ∧ 0 ≤ i ∧ 0 ≤ s ∧ s < 2147483647
theorem RowAt.keep {K : PySem.W.Frag} {H H' : Hp} {r a : Addr} {ns : List Int} (h : RowAt K H r a ns) (s : Same H H') : RowAt K H' r a ns := by
  obtain ⟨i, z, c, e, q⟩ := h.row
  exact ⟨s.seq h.sc, h.ne, i, z, c, s _ _ e, q⟩
/-- a row that was just laid -/
theorem RowAt.new {K : PySem.W.Frag} {H : Hp} {r a : Addr} {ns : List Int} (h : SqL K H a (ns.map V.int)) (n : H r = none) : RowAt K (upd H r (.lst [.ref a, .int 0, .int 0, .int 0])) r a ns := by
  refine ⟨(same_new n).seq h, ?_, 0, 0, 0, upd_same, by decide, by decide, by decide⟩
  rcases h with (h | ⟨o, h⟩) | h
  · exact .inl (ne_of_none h n)
  · exact .inl (ne_of_none h n)
  · exact .inr fun _ => .inr h
theorem RowAt.lst {K : PySem.W.Frag} {H : Hp} {r a : Addr} {ns : List Int} (h : RowAt K H r a ns) : ∃ xs, H r = some (.lst xs) := by
  obtain ⟨i, z, c, e, _⟩ := h.row
  exact ⟨_, e⟩
theorem RowAt.set {K : PySem.W.Frag} {H : Hp} {r a : Addr} {ns : List Int} (h : RowAt K H r a ns) {i s c : Int} (hi : 0 ≤ i) (h0 : 0 ≤ s) (h1 : s < 2147483647) : RowAt K (upd H r (.lst [.ref a, .int i, .int s, .int c])) r a ns :=
  ⟨h.ne.elim (fun n => Sx.upd.seq n h.sc) (fun z => z _), h.ne, i, s, c, upd_same, hi, h0, h1⟩
end Nf

set_option Elab.async false
set_option linter.all false
set_option maxRecDepth 100000
set_option maxHeartbeats 4000000
namespace Nf
open PySem PySem.Spec PyProof.Rows L2
/-! ### the text by places -/
def topS (i : Nat) : Stmt := PySem.Challenge.pw_newfaces_k12_whole_alike_but_for_names.main.body.getD i (.Pass ⟨0, 0, 0, 0⟩)
abbrev cBadRound : Stmt := topS 3
abbrev sBRInit : Stmt := inClass cBadRound 0
abbrev sCheck : Stmt := topS 5
abbrev sIsRound : Stmt := topS 6
abbrev sIsTable : Stmt := topS 7
abbrev sRises : Stmt := topS 8
abbrev sAlikeP : Stmt := topS 10
abbrev sMovedP : Stmt := topS 11
abbrev sTurning : Stmt := topS 12
abbrev sToldApart : Stmt := topS 13
abbrev sShown : Stmt := topS 14
abbrev sKindsAt : Stmt := topS 15
abbrev sSetApart : Stmt := topS 16
abbrev cParty : Stmt := topS 22
abbrev sInit : Stmt := inClass cParty 0
abbrev sGuests : Stmt := inClass cParty 1
abbrev sSize : Stmt := inClass cParty 2
abbrev sTables : Stmt := inClass cParty 3
abbrev sIsParty : Stmt := topS 23
abbrev lTaken : Stmt := topS 25
abbrev lAlike : Stmt := topS 26
abbrev lFew : Stmt := topS 27
abbrev lMixed : Stmt := topS 28
abbrev lSeated : Stmt := topS 29
abbrev lPairs : Stmt := topS 30
abbrev lKnown : Stmt := topS 31
abbrev lNew : Stmt := topS 32
abbrev lThin : Stmt := topS 33
abbrev lPlan : Stmt := topS 34
abbrev lMoved : Stmt := topS 35
abbrev lTakes : Stmt := topS 36
abbrev lSome : Stmt := topS 37
abbrev lChanged : Stmt := topS 38
abbrev lRefused : Stmt := topS 39
abbrev lFull : Stmt := topS 40
abbrev lLaw : Stmt := topS 41
end Nf

set_option Elab.async false
set_option linter.all false
set_option maxRecDepth 100000
set_option maxHeartbeats 4000000
namespace Nf
open PySem PySem.Spec PyProof.Rows L2
/-! ### what is known of pairs, in a dict; a verdict as a value -/
def KnownD (H : Hp) (d : Addr) (kn : Known) (N : Nat) : Prop := ∃ kvs : List (List Key × V), H d = some (.dT kvs) ∧ kvs.length ≤ N ∧ ∀ a b : Int, valV kvs [Sum.inl a, Sum.inl b] = (kn a b).map fun k => V.int (k : Nat)
theorem knownD_same {H H' : Hp} {d : Addr} {kn : Known} {N : Nat} (h : KnownD H d kn N) (s : Same H H') : KnownD H' d kn N := by
  obtain ⟨kvs, e, q⟩ := h
  exact ⟨kvs, s _ _ e, q⟩
theorem knownD_new {H : Hp} {d : Addr} (h : H d = some (.dT [])) : KnownD H d k0 0 := ⟨[], h, Nat.le_refl _, fun _ _ => rfl⟩
theorem key2_ne {a b x y : Int} : (([Sum.inl a, Sum.inl b] : List Key) = [Sum.inl x, Sum.inl y]) ↔ (a = x ∧ b = y) := by
  constructor
  · intro h
    injection h with h1 h2
    injection h2 with h2 _
    exact ⟨Sum.inl.inj h1, Sum.inl.inj h2⟩
  · rintro ⟨rfl, rfl⟩
    rfl
/-- d[(x, y)] = k -/
theorem knownD_put {H : Hp} {d T : Addr} {kn : Known} {N : Nat} {x y : Int} {l : List (Int × Int)} {k : Nat} (h : KnownD H d (kaddL kn l k) N) (hT : H T = some (.tup [.int x, .int y])) (hN : N < sizeLine) :
    ∃ kvs', DPut H d (.ref T) (.int (k : Nat)) (upd H d (.dT kvs')) ∧ KnownD (upd H d (.dT kvs')) d (kaddL kn (l ++ [(x, y)]) k) (N + 1) := by
  obtain ⟨kvs, e, hl, hv⟩ := h
  refine ⟨putK kvs [Sum.inl x, Sum.inl y] (.int (k : Nat)), DPut.t (k := [Sum.inl x, Sum.inl y]) e hT (by omega), _, upd_same, ?_, fun a b => ?_⟩
  · have := length_putK kvs [Sum.inl x, Sum.inl y] (.int (k : Nat))
    omega
  · rw [valV_put, kaddL_snoc, hv]
    by_cases h : a = x ∧ b = y
    · rw [if_pos h, if_pos (key2_ne.mpr h)]
      rfl
    · rw [if_neg h, if_neg (fun z => h (key2_ne.mp z))]
def VerdV (H : Hp) (x : V) : Verd → Prop
  | .good => x = .non
  | .rnd k => ∃ q, x = .ref q ∧ H q = some (.tup [.str "round", .int (k : Nat)])
  | .twice a b j k => ∃ q, x = .ref q ∧ H q = some (.tup [.str "twice", .int a, .int b, .int (j : Nat), .int (k : Nat)])
def PlanV (K : PySem.W.Frag) (H : Hp) (l : Addr) (rs : List Rnd) : Prop := ∃ xs, SqL K H l xs ∧ Paired (RndV H) xs rs
theorem planV_same {K : PySem.W.Frag} {H H' : Hp} {l : Addr} {rs : List Rnd} (h : PlanV K H l rs) (s : Same H H') : PlanV K H' l rs := by
  obtain ⟨xs, e, q⟩ := h
  exact ⟨xs, s.seq e, paired_mono (fun _ _ z => z.mono (same_toT s)) q⟩
structure Small (rs : List Rnd) : Prop where
  n : rs.length ≤ 1000
  r : ∀ r ∈ rs, r.length ≤ 100000
  t : ∀ r ∈ rs, ∀ t ∈ r, t.length ≤ 100000
end Nf

set_option Elab.async false
set_option linter.all false
set_option maxRecDepth 100000
set_option maxHeartbeats 4000000
namespace Nf
open PySem PySem.Spec PyProof.Rows L2
/-! ### tables and rounds as data -/
def dT (t : Tbl) : PyData := .tuple (t.map .int)
theorem eqvInts : ∀ {xs ys : List Int}, PyData.eqvAll (xs.map .int) (ys.map .int) = true ↔ xs = ys
  | [], [] => by simp [PyData.eqvAll]
  | [], _ :: _ => by simp [PyData.eqvAll]
  | _ :: _, [] => by simp [PyData.eqvAll]
  | x :: xs, y :: ys => by
    have ih := eqvInts (xs := xs) (ys := ys)
    simp only [List.map_cons, PyData.eqvAll, PyData.eqv, Bool.and_eq_true, ih, beq_iff_eq, List.cons.injEq]
theorem eqvTabs : ∀ {xs ys : List Tbl}, PyData.eqvAll (xs.map dT) (ys.map dT) = true ↔ xs = ys
  | [], [] => by simp [PyData.eqvAll]
  | [], _ :: _ => by simp [PyData.eqvAll]
  | _ :: _, [] => by simp [PyData.eqvAll]
  | x :: xs, y :: ys => by
    have ih := eqvTabs (xs := xs) (ys := ys)
    simp only [List.map_cons, PyData.eqvAll, dT, PyData.eqv, Bool.and_eq_true, eqvInts, List.cons.injEq]
    have ih : PyData.eqvAll (xs.map dT) (ys.map dT) = true ↔ xs = ys := ih
    exact and_congr Iff.rfl ih
theorem eqvRnds : ∀ {xs ys : List Rnd}, PyData.eqvAll (xs.map fun r => .tuple (r.map dT)) (ys.map fun r => .tuple (r.map dT)) = true ↔ xs = ys
  | [], [] => by simp [PyData.eqvAll]
  | [], _ :: _ => by simp [PyData.eqvAll]
  | _ :: _, [] => by simp [PyData.eqvAll]
  | x :: xs, y :: ys => by
    have ih := eqvRnds (xs := xs) (ys := ys)
    simp only [List.map_cons, PyData.eqvAll, PyData.eqv, Bool.and_eq_true, eqvTabs, List.cons.injEq, ih]
theorem layInts : ∀ xs : List Int, PyData.canLayAll0 (xs.map .int) = true
  | [] => rfl
  | x :: xs => by simp [PyData.canLayAll0, PyData.canLay0, layInts xs]
theorem layTabs : ∀ xs : List Tbl, PyData.canLayAll0 (xs.map dT) = true
  | [] => rfl
  | x :: xs => by simp [PyData.canLayAll0, PyData.canLay0, layTabs xs, dT, layInts]
theorem layRnds : ∀ xs : List Rnd, PyData.canLayAll0 (xs.map fun r => .tuple (r.map dT)) = true
  | [] => rfl
  | x :: xs => by simp [PyData.canLayAll0, PyData.canLay0, layRnds xs, layTabs]
theorem depInts (xs : List Int) : PyData.depthAll (xs.map .int) = 0 := PySem.W.depth_ints xs
theorem depT (t : Tbl) : (dT t).depth ≤ 1 := by
  unfold dT
  simp [PyData.depth, depInts]
theorem depTabs : ∀ xs : List Tbl, PyData.depthAll (xs.map dT) ≤ 1
  | [] => by simp [PyData.depthAll]
  | x :: xs => by
    have := depTabs xs
    have := depT x
    simp only [List.map_cons, PyData.depthAll]
    omega
theorem depRnds : ∀ xs : List Rnd, PyData.depthAll (xs.map fun r => .tuple (r.map dT)) ≤ 2
  | [] => by simp [PyData.depthAll]
  | x :: xs => by
    have := depRnds xs
    have := depTabs x
    simp only [List.map_cons, PyData.depthAll, PyData.depth]
    omega
theorem shInts (xs : List Int) : SeqAt.shaped (.list (xs.map .int)) = true := by
  have h := depInts xs
  have l := layInts xs
  unfold SeqAt.shaped
  rw [Bool.and_eq_true]
  refine ⟨by simp [PyData.canLay0, l], decide_eq_true ?_⟩
  simp only [PyData.depth]
  omega
theorem shIntsT (xs : List Int) : SeqAt.shaped (.tuple (xs.map .int)) = true := by
  have h := depInts xs
  have l := layInts xs
  unfold SeqAt.shaped
  rw [Bool.and_eq_true]
  refine ⟨by simp [PyData.canLay0, l], decide_eq_true ?_⟩
  simp only [PyData.depth]
  omega
theorem shTabs (xs : List Tbl) : SeqAt.shaped (.list (xs.map dT)) = true := by
  have h := depTabs xs
  have l := layTabs xs
  unfold SeqAt.shaped
  rw [Bool.and_eq_true]
  refine ⟨by simp [PyData.canLay0, l], decide_eq_true ?_⟩
  simp only [PyData.depth]
  omega
theorem shRnds (xs : List Rnd) : SeqAt.shaped (.list (xs.map fun r => .tuple (r.map dT))) = true := by
  have h := depRnds xs
  have l := layRnds xs
  unfold SeqAt.shaped
  rw [Bool.and_eq_true]
  refine ⟨by simp [PyData.canLay0, l], decide_eq_true ?_⟩
  simp only [PyData.depth]
  omega
section
variable {K : PySem.W.Frag} {H : Hp}
theorem dpAll_ints : ∀ ns : List Int, DpAll K H (ns.map V.int) (ns.map .int)
  | [] => .nil
  | n :: ns => .cons (.int n) (dpAll_ints ns)
theorem dp_tab {x : V} {t : Tbl} (h : TabV H x t) : Dp K H x (dT t) := by
  obtain ⟨a, rfl, e⟩ := h
  exact .tup (SqT.of e) (dpAll_ints t)
theorem dpAll_of {β : Type} {R : V → β → Prop} {enc : β → PyData} (f : ∀ x b, R x b → Dp K H x (enc b)) : ∀ {xs : List V} {bs : List β}, Paired R xs bs → DpAll K H xs (bs.map enc)
  | _, _, .nil => .nil
  | _, _, .cons r t => .cons (f _ _ r) (dpAll_of f t)
theorem dp_rnd {x : V} {r : Rnd} (h : RndV H x r) : Dp K H x (.tuple (r.map dT)) := by
  obtain ⟨a, xs, rfl, e, p⟩ := h
  exact .tup (SqT.of e) (dpAll_of (fun _ _ z => dp_tab z) p)
theorem dp_lst {β : Type} {R : V → β → Prop} {enc : β → PyData} (f : ∀ x b, R x b → Dp K H x (enc b)) {a : Addr} {xs : List V} {bs : List β} (h : SqL K H a xs) (p : Paired R xs bs) : Dp K H (.ref a) (.list (bs.map enc)) := .lst h (dpAll_of f p)
end
/-! ### sorted -/
theorem dataLe_ints : PySem.W.dataLe false (fun i : Int => PyData.int i) = leI := PySem.W.dataLe_int fun i => i
theorem dataLe_tabs : PySem.W.dataLe false dT = leT := by
  funext p q
  show (!PySem.W.dataLt (.tuple (q.map .int)) (.tuple (p.map .int))) = _
  rw [PySem.W.dataLt_tuple]
  show (!PySem.W.rowLt (q.map .int) (p.map .int)) = _
  rw [PySem.W.dataLt_ints]
  unfold leT
  by_cases h : q < p
  · have h' : ¬ p ≤ q := fun z => (List.not_lt.mpr z) h
    simp [h, h']
  · have h' : p ≤ q := List.not_lt.mp h
    simp [h, h']
theorem alikeTabs (rs : List Tbl) : PySem.W.AllAlike (rs.map dT) := PySem.W.AllAlike.of fun b b' => by
  show PySem.W.alike (.tuple _) (.tuple _) = true
  simp [PySem.W.alike, PySem.W.alike_ints]
theorem alikeInts (ns : List Int) : PySem.W.AllAlike (ns.map fun i : Int => PyData.int i) := PySem.W.AllAlike.of fun b b' => by simp [PySem.W.alike]
section
variable {K : PySem.W.Frag} {H : Hp} {Q : VK} {a : Addr}
theorem paired_ints : ∀ ns : List Int, Paired (fun x (n : Int) => x = V.int n) (ns.map V.int) ns
  | [] => .nil
  | n :: ns => .cons rfl (paired_ints ns)
theorem ints_paired : ∀ {xs : List V} {ns : List Int}, Paired (fun x (n : Int) => x = V.int n) xs ns → xs = ns.map V.int
  | _, _, .nil => rfl
  | _, _, .cons r t => by
    rw [r, ints_paired t]
    rfl
theorem sort_ints {ns : List Int} (hl : SqL K H a (ns.map V.int) ∨ SqT K H a (ns.map V.int)) (q : ∀ p, H p = none → Q (.ref p) (upd H p (.lst ((sortI ns).map V.int)))) : rSortD K (fun i : Int => PyData.int i) [.ref a] H Q := by
  refine ⟨a, ns.map V.int, ns, fun x n => x = V.int n, rfl, hl, paired_ints ns, fun x b h => h ▸ .int b, alikeInts ns, PySem.W.Sortable.others fun b => ⟨(fun e => nomatch e), fun xs e => nomatch e⟩, fun b _ => by simp [PyData.depth], fun ys p hy hn => ?_⟩
  rw [dataLe_ints] at hy
  rw [ints_paired hy]
  exact q p hn
theorem sort_tabs {xs : List V} {r : Rnd} (hl : SqL K H a xs ∨ SqT K H a xs) (hp : Paired (TabV H) xs r) (hn : ∀ t ∈ r, t ≠ []) (q : ∀ ys p, H p = none → Paired (TabV H) ys (sortT r) → Q (.ref p) (upd H p (.lst ys))) : rSortD K dT [.ref a] H Q := by
  refine ⟨a, xs, r, TabV H, rfl, hl, hp, fun x b h => dp_tab h, alikeTabs r, .inl fun d hd => ?_, fun b _ => Nat.le_trans (depT b) (by decide), fun ys p hy hn => ?_⟩
  · obtain ⟨t, ht, rfl⟩ := List.mem_map.mp hd
    cases t with
    | nil => exact absurd rfl (hn _ ht)
    | cons x t => exact ⟨_, _, rfl⟩
  · rw [dataLe_tabs] at hy
    exact q ys p hn hy
end
/-! ### what was not there before may change -/
theorem sx_put {r c : Addr} {H H4 : Hp} {o : HO} (s : Sx r H H4) (hc : H c = none) : Sx r H (upd H4 c o) := fun b x n e => by
  rw [upd_ne (ne_of_none e hc)]
  exact s b x n e
theorem row_put {K : PySem.W.Frag} {H H4 : Hp} {r a c : Addr} {ns : List Int} {o : HO} (R0 : RowAt K H r a ns) (hc : H c = none) (R4 : RowAt K H4 r a ns) : RowAt K (upd H4 c o) r a ns := by
  obtain ⟨i, z, x, e, q⟩ := R4.row
  obtain ⟨xr, hxr⟩ := R0.lst
  refine ⟨?_, R4.ne, i, z, x, by rw [upd_ne (ne_of_none hxr hc)]; exact e, q⟩
  have go : a ≠ c → SqL K (upd H4 c o) a (ns.map V.int) := fun n => by
    rcases R4.sc with (h | ⟨ob, h⟩) | h
    · exact .inl (.inl (by rw [upd_ne n]; exact h))
    · exact .inl (.inr ⟨ob, by rw [upd_ne n]; exact h⟩)
    · exact .inr h
  rcases R0.sc with (h | ⟨ob, h⟩) | h
  · exact go (ne_of_none h hc)
  · exact go (ne_of_none h hc)
  · exact .inr h
theorem perm_erase : ∀ {l : List Int} {i : Nat} (h : i < l.length), (l[i] :: l.eraseIdx i).Perm l
  | [], _, h => by simp at h
  | x :: l, 0, _ => .refl _
  | x :: l, i + 1, h => by
    have ih := perm_erase (l := l) (i := i) (by simpa using h)
    show (l[i]'(by simpa using h) :: x :: l.eraseIdx i).Perm (x :: l)
    exact (List.Perm.swap _ _ _).trans (ih.cons x)
end Nf

set_option autoImplicit false
namespace Nf
/-! ### who met whom -/
def pairsP (rs : List Rnd) : List (Int × Int) := rs.flatMap pairsR
def dirs (ps : List (Int × Int)) : List (Int × Int) := ps.flatMap fun p => [(p.1, p.2), (p.2, p.1)]
theorem mem_dirs {ps : List (Int × Int)} {a b : Int} : (a, b) ∈ dirs ps ↔ ((a, b) ∈ ps ∨ (b, a) ∈ ps) := by
  unfold dirs
  rw [List.mem_flatMap]
  constructor
  · rintro ⟨⟨x, y⟩, h, m⟩
    simp only [List.mem_cons, List.not_mem_nil, or_false, Prod.mk.injEq] at m
    rcases m with ⟨rfl, rfl⟩ | ⟨rfl, rfl⟩
    · exact .inl h
    · exact .inr h
  · rintro (h | h)
    · exact ⟨_, h, by simp⟩
    · exact ⟨_, h, by simp⟩
theorem dirs_snoc (ps : List (Int × Int)) (a b : Int) : dirs (ps ++ [(a, b)]) = dirs ps ++ [(a, b)] ++ [(b, a)] := by simp [dirs]
/-- whom c has met, by pairs told in both ways -/
def metD (g : Nat) (qs : List (Int × Int)) (c : Int) : List Int := (rangeI g).filter fun d => decide ((c, d) ∈ qs)
theorem mem_metD {g : Nat} {qs : List (Int × Int)} {c d : Int} : d ∈ metD g qs c ↔ (0 ≤ d ∧ d < g) ∧ (c, d) ∈ qs := by
  unfold metD
  rw [List.mem_filter, mem_rangeI, decide_eq_true_eq]
theorem metD_nodup (g : Nat) (qs : List (Int × Int)) (c : Int) : (metD g qs c).Nodup := (rangeI_nodup g).sublist List.filter_sublist
theorem rangeI_up (g : Nat) : (rangeI g).Pairwise (· < ·) := by
  unfold rangeI
  rw [List.pairwise_map]
  exact List.pairwise_lt_range.imp fun h => by omega
theorem metD_up (g : Nat) (qs : List (Int × Int)) (c : Int) : (metD g qs c).Pairwise (· < ·) := (rangeI_up g).sublist List.filter_sublist
theorem metD_len (g : Nat) (qs : List (Int × Int)) (c : Int) : (metD g qs c).length ≤ g := by
  have := (List.filter_sublist (p := fun d => decide ((c, d) ∈ qs)) (l := rangeI g)).length_le
  rwa [rangeI_len] at this
/-- one at least of g is not met: oneself -/
theorem metD_less {g : Nat} {qs : List (Int × Int)} {c : Int} (h0 : 0 ≤ c) (h1 : c < g) (hn : ∀ p ∈ qs, p.1 ≠ p.2) : (metD g qs c).length < g := by
  have hc : c ∈ rangeI g := mem_rangeI.mpr ⟨h0, h1⟩
  have h := List.length_filter_lt_length_iff_exists (p := fun d => decide ((c, d) ∈ qs)) (l := rangeI g)
  rw [rangeI_len] at h
  exact h.mpr ⟨c, hc, by
    rw [decide_eq_true_eq]
    exact fun z => hn _ z rfl⟩
theorem perm_of_mem {xs ys : List Int} (hx : xs.Nodup) (hy : ys.Nodup) (h : ∀ d, d ∈ xs ↔ d ∈ ys) : xs.Perm ys := (List.perm_ext_iff_of_nodup hx hy).mpr h
theorem metD_old {g : Nat} {qs : List (Int × Int)} {a b c : Int} (h : c ≠ a ∨ (a, b) ∈ qs) : metD g (qs ++ [(a, b)]) c = metD g qs c := by
  unfold metD
  refine List.filter_congr fun d _ => ?_
  have e : (c, d) ∈ qs ++ [(a, b)] ↔ (c, d) ∈ qs := by
    simp only [List.mem_append, List.mem_singleton, Prod.mk.injEq]
    constructor
    · rintro (z | ⟨rfl, rfl⟩)
      · exact z
      · exact h.elim (fun n => absurd rfl n) id
    · exact .inl
  simp only [e]
theorem metD_new {g : Nat} {qs : List (Int × Int)} {a b : Int} (h0 : 0 ≤ b) (h1 : b < g) (h : (a, b) ∉ qs) : (metD g qs a ++ [b]).Perm (metD g (qs ++ [(a, b)]) a) := by
  refine perm_of_mem ?_ (metD_nodup _ _ _) fun d => ?_
  · refine List.nodup_append.mpr ⟨metD_nodup _ _ _, by simp, fun x hx y hy => ?_⟩
    rw [List.mem_singleton.mp hy]
    rintro rfl
    exact h (mem_metD.mp hx).2
  · rw [List.mem_append, mem_metD, mem_metD, List.mem_append, List.mem_singleton, List.mem_singleton, Prod.mk.injEq]
    constructor
    · rintro (⟨z, q⟩ | rfl)
      · exact ⟨z, .inl q⟩
      · exact ⟨⟨h0, h1⟩, .inr ⟨rfl, rfl⟩⟩
    · rintro ⟨z, q | ⟨_, rfl⟩⟩
      · exact .inl ⟨z, q⟩
      · exact .inr rfl
theorem up_perm_eq : ∀ {xs ys : List Int}, xs.Pairwise (· ≤ ·) → ys.Pairwise (· < ·) → xs.Perm ys → xs = ys
  | [], ys, _, _, h => (List.nil_perm.mp h).symm
  | x :: xs, [], _, _, h => absurd h.length_eq (by simp)
  | x :: xs, y :: ys, hx, hy, h => by
    obtain ⟨h1, h2⟩ := List.pairwise_cons.mp hx
    obtain ⟨h3, h4⟩ := List.pairwise_cons.mp hy
    have a1 : y ≤ x := by
      rcases List.mem_cons.mp (h.mem_iff.mp (List.mem_cons_self (a := x))) with e | e
      · omega
      · have := h3 x e
        omega
    have a2 : x ≤ y := by
      rcases List.mem_cons.mp (h.mem_iff.mpr (List.mem_cons_self (a := y))) with e | e
      · omega
      · exact h1 y e
    have e : x = y := by omega
    subst e
    rw [up_perm_eq h2 h4 (List.perm_cons x |>.mp h)]
/-- the pairs of a round are of its guests, the lower one first -/
theorem pairsT_lt : ∀ {t : Tbl}, t.Pairwise (· < ·) → ∀ p ∈ pairsT t, p.1 < p.2
  | [], _, p, h => by simp [pairsT] at h
  | a :: t, ht, p, h => by
    obtain ⟨h1, h2⟩ := List.pairwise_cons.mp ht
    simp only [pairsT, List.mem_append, List.mem_map] at h
    rcases h with ⟨b, hb, rfl⟩ | h
    · exact h1 b hb
    · exact pairsT_lt h2 p h
theorem IsRound.pair {g s : Int} {r : Rnd} (h : IsRound g s r) : ∀ p ∈ pairsR r, 0 ≤ p.1 ∧ p.1 < p.2 ∧ p.2 < g := fun p hp => by
  obtain ⟨t, ht, hq⟩ := List.mem_flatMap.mp hp
  obtain ⟨m1, m2⟩ := mem_pairsT hq
  have lt := pairsT_lt (up_strict (h.up t ht) (flat_each h.nd t ht)) p hq
  exact ⟨(h.lo _ (List.mem_flatten.mpr ⟨t, ht, m1⟩)).1, lt, (h.lo _ (List.mem_flatten.mpr ⟨t, ht, m2⟩)).2⟩
theorem plan_pair {g s : Int} {rs : List Rnd} (h : ∀ r ∈ rs, IsRound g s r) : ∀ p ∈ pairsP rs, 0 ≤ p.1 ∧ p.1 < p.2 ∧ p.2 < g := fun p hp => by
  obtain ⟨r, hr, hq⟩ := List.mem_flatMap.mp hp
  exact (h r hr).pair p hq
/-- whom c has met in a plan -/
def metM (g : Nat) (ps : List (Int × Int)) (c : Int) : List Int := metD g (dirs ps) c
/-- whom not -/
def unmetM (g : Nat) (ps : List (Int × Int)) (c : Int) : List Int := (rangeI g).filter fun d => decide (d ≠ c ∧ d ∉ metM g ps c)
theorem mem_metM {g : Nat} {ps : List (Int × Int)} {c d : Int} : d ∈ metM g ps c ↔ (0 ≤ d ∧ d < g) ∧ ((c, d) ∈ ps ∨ (d, c) ∈ ps) := by
  unfold metM
  rw [mem_metD, mem_dirs]
theorem dirs_ne {g : Int} {ps : List (Int × Int)} (h : ∀ p ∈ ps, 0 ≤ p.1 ∧ p.1 < p.2 ∧ p.2 < g) : ∀ p ∈ dirs ps, p.1 ≠ p.2 := fun ⟨a, b⟩ hp => by
  rcases mem_dirs.mp hp with z | z
  · have := h _ z
    omega
  · have := h _ z
    omega
theorem metM_perm {g : Nat} {ps qs : List (Int × Int)} (h : ∀ p, p ∈ ps ↔ p ∈ qs) (c : Int) : metM g ps c = metM g qs c := by
  unfold metM metD
  refine List.filter_congr fun d _ => ?_
  simp only [mem_dirs, h]
theorem filter_split (p : Int → Bool) : ∀ l : List Int, (l.filter p).length + (l.filter fun x => !p x).length = l.length
  | [] => rfl
  | x :: l => by
    have := filter_split p l
    by_cases h : p x = true
    · simp [h]
      omega
    · simp only [Bool.not_eq_true] at h
      simp [h]
      omega
theorem filter_one : ∀ {l : List Int} {c : Int}, l.Nodup → c ∈ l → (l.filter fun x => x == c).length = 1
  | [], c, _, h => by simp at h
  | x :: l, c, hn, h => by
    obtain ⟨h1, h2⟩ := List.nodup_cons.mp hn
    by_cases e : x = c
    · subst e
      have : l.filter (fun y => y == x) = [] := List.filter_eq_nil_iff.mpr fun y hy => by
        simp only [beq_iff_eq]
        rintro rfl
        exact h1 hy
      simp [this]
    · have hm : c ∈ l := by
        rcases List.mem_cons.mp h with z | z
        · exact absurd z.symm e
        · exact z
      have := filter_one h2 hm
      simp [e, this]
/-- how many c has not met -/
theorem unmet_len {g : Nat} {ps : List (Int × Int)} {c : Int} (h0 : 0 ≤ c) (h1 : c < g) (hp : ∀ p ∈ ps, p.1 < p.2) : (unmetM g ps c).length + (metM g ps c).length + 1 = g := by
  have hc : c ∈ rangeI g := mem_rangeI.mpr ⟨h0, h1⟩
  have e1 := filter_split (fun d => d == c) (rangeI g)
  rw [rangeI_len, filter_one (rangeI_nodup g) hc] at e1
  have e2 := filter_split (fun d => decide (d ∈ metM g ps c)) ((rangeI g).filter fun x => !(x == c))
  have e3 : ((rangeI g).filter fun x => !(x == c)).filter (fun d => decide (d ∈ metM g ps c)) = metM g ps c := by
    rw [List.filter_filter]
    show _ = (rangeI g).filter _
    refine List.filter_congr fun d hd => ?_
    have hd := mem_rangeI.mp hd
    have e : (d ∈ metM g ps c) ↔ (c, d) ∈ dirs ps := by
      unfold metM
      rw [mem_metD]
      exact ⟨fun z => z.2, fun z => ⟨hd, z⟩⟩
    have ne : (c, d) ∈ dirs ps → d ≠ c := fun z => by
      rcases mem_dirs.mp z with z | z
      · have := hp _ z
        simp only at this
        omega
      · have := hp _ z
        simp only at this
        omega
    rw [Bool.eq_iff_iff]
    simp only [Bool.and_eq_true, decide_eq_true_eq, Bool.not_eq_true', beq_eq_false_iff_ne, e]
    exact ⟨fun z => z.1, fun z => ⟨z, ne z⟩⟩
  have e4 : ((rangeI g).filter fun x => !(x == c)).filter (fun d => !decide (d ∈ metM g ps c)) = unmetM g ps c := by
    rw [List.filter_filter]
    refine List.filter_congr fun d _ => ?_
    rw [Bool.eq_iff_iff]
    simp [and_comm]
  rw [e3, e4] at e2
  omega
end Nf

set_option Elab.async false
set_option linter.all false
set_option maxRecDepth 100000
set_option maxHeartbeats 4000000
namespace Nf
open PySem PySem.Spec PyProof.Rows L2
variable {P : Program} {w : World} {K : PySem.W.Frag} {mg : Str → Option Value} {base : Heap}
/-! ### pairs -/
theorem cutFrom (xs : List V) (j : Nat) : cutV xs (some ((j : Nat) : Int)) none = xs.drop j := by
  unfold cutV
  rw [HT.sIx_nat xs.length 0 j, HT.sIx_none]
  by_cases h : j ≤ xs.length
  · rw [Nat.min_eq_left h]
    exact List.take_of_length_le (by simp)
  · rw [Nat.min_eq_right (by omega), List.drop_of_length_le (Nat.le_refl _), List.drop_of_length_le (by omega)]
    simp
/-- so far: the list at D holds ps, the rest is to come -/
def PrI (H : Hp) (D : Addr) (r : Rnd) (H2 : Hp) (rem : List (Int × Int)) : Prop := Same H H2 ∧ ∃ acc ps, H2 D = some (.lst acc) ∧ Paired (PairV H2) acc ps ∧ ps ++ rem = pairsR r
theorem PrI.keep {H H2 H3 : Hp} {D : Addr} {r : Rnd} {rem : List (Int × Int)} (h : PrI H D r H2 rem) (s : Same H2 H3) : PrI H D r H3 rem := by
  obtain ⟨h1, acc, ps, h2, h3, h4⟩ := h
  exact ⟨h1.trans s, acc, ps, s _ _ h2, paired_mono (fun _ _ z => z.mono (same_toT s)) h3, h4⟩
theorem PrI.rem {H H2 : Hp} {D : Addr} {r : Rnd} {rem rem' : List (Int × Int)} (h : PrI H D r H2 rem) (e : rem = rem') : PrI H D r H2 rem' := e ▸ h
theorem dataLe_pairs : PySem.W.dataLe false (fun p : Int × Int => PyData.tuple [.int p.1, .int p.2]) = leP := PySem.W.dataLe_ii (fun p : Int × Int => p.1) (fun p => p.2)
theorem dp_pair {H : Hp} {x : V} {p : Int × Int} (h : PairV H x p) : Dp K H x (.tuple [.int p.1, .int p.2]) := by
  obtain ⟨a, rfl, e⟩ := h
  exact .tup (SqT.of e) (.cons (.int _) (.cons (.int _) .nil))
theorem sort_pairs {H : Hp} {Q : VK} {a : Addr} {acc : List V} {ps : List (Int × Int)} (hl : H a = some (.lst acc)) (hp : Paired (PairV H) acc ps) (q : ∀ ys p, H p = none → Paired (PairV H) ys (sortP ps) → Q (.ref p) (upd H p (.lst ys))) :
    rSortD K (fun p : Int × Int => PyData.tuple [.int p.1, .int p.2]) [.ref a] H Q := by
  refine ⟨a, acc, ps, PairV H, rfl, .inl (SqL.of hl), hp, fun x b h => dp_pair h, PySem.W.AllAlike.of fun b b' => by simp [PySem.W.alike, PySem.W.alikeAll], PySem.W.Sortable.tuples fun b => ⟨_, _, rfl⟩, fun b _ => by simp [PyData.depth, PyData.depthAll], fun ys p hy hn => ?_⟩
  rw [dataLe_pairs] at hy
  exact q ys p hn hy
def spPairs : Sp := fun vs H Q _ => ∃ (x : V) (r : Rnd), vs = [x] ∧ RndV H x r ∧ (pairsR r).length ≤ 100000 ∧
  ∀ H' q ys, Same H H' → H q = none → H' q = some (.lst ys) → Paired (PairV H') ys (sortP (pairsR r)) → Q (.ref q) H'
end Nf

set_option Elab.async false
set_option linter.all false
set_option maxRecDepth 100000
set_option maxHeartbeats 4000000
namespace Nf
open PySem PySem.Spec PyProof.Rows L2
variable {P : Program} {w : World} {K : PySem.W.Frag} {mg : Str → Option Value} {base : Heap}
/-! ### a round turned -/
def tAt (tn : List Int) (g : Int) : Int := tn.getD g.toNat 0
def movedT (tn : List Int) (t : Tbl) : Tbl := sortI (t.map (tAt tn))
def movedM (tn : List Int) (r : Rnd) : Rnd := sortT (r.map (movedT tn))
theorem movedT_len (tn : List Int) (t : Tbl) : (movedT tn t).length = t.length := by
  unfold movedT
  rw [(sortI_perm _).length_eq, List.length_map]
theorem tAt_at {tn : List Int} {g : Int} (h0 : 0 ≤ g) (h1 : g < tn.length) : atI (tn.map V.int) g = some (.int (tAt tn g)) := by
  obtain ⟨n, rfl⟩ := Int.eq_ofNat_of_zero_le h0
  have hlt : n < tn.length := by exact_mod_cast h1
  refine atI_nat ?_
  rw [List.getElem?_map, List.getElem?_eq_getElem hlt]
  simp [tAt, List.getD, List.getElem?_eq_getElem hlt]
def oScR : Scope := { kind := .function, names := [(PySem.Str.ofString ".0", .local), (PySem.Str.ofString "table", .local), (PySem.Str.ofString "tuple", .globalImplicit), (PySem.Str.ofString "sorted", .globalImplicit), (PySem.Str.ofString "turning", .cell)], isGenerator := false, isCoroutine := false, more := [] }
def spMoved (K : PySem.W.Frag) : Sp := fun vs H Q _ => ∃ (x : V) (l : Addr) (r : Rnd) (tn : List Int), vs = [x, .ref l] ∧ RndV H x r ∧ SqL K H l (tn.map V.int) ∧ r.length ≤ 1000 ∧ (∀ t ∈ r, t ≠ [] ∧ t.length ≤ 1000 ∧ ∀ g ∈ t, 0 ≤ g ∧ g < tn.length) ∧ ∀ y H', Same H H' → RndV H' y (movedM tn r) → Q y H'
def rTupOf (K : PySem.W.Frag) : List V → Hp → VK → Prop := fun xs H Q => ∃ p ys, xs = [.ref p] ∧ ((SqL K H p ys ∧ ∀ l, H l = none → Q (.ref l) (upd H l (.tup ys))) ∨ (SqT K H p ys ∧ Q (.ref p) H))
end Nf

set_option autoImplicit false
set_option linter.all false
namespace Nf
/-! ### plans that are alike but for names: the mathematics -/
theorem perm_upA {α : Type} {le : α → α → Prop} (anti : ∀ a b, le a b → le b a → a = b) : ∀ {xs ys : List α}, xs.Perm ys → xs.Pairwise le → ys.Pairwise le → xs = ys
  | [], ys, p, _, _ => (List.Perm.nil_eq p)
  | x :: xs, [], p, _, _ => absurd p.length_eq (by simp)
  | x :: xs, y :: ys, p, hx, hy => by
    have h1 := List.pairwise_cons.mp hx
    have h2 := List.pairwise_cons.mp hy
    have e : x = y := by
      have m1 : x ∈ y :: ys := p.mem_iff.mp List.mem_cons_self
      have m2 : y ∈ x :: xs := p.mem_iff.mpr List.mem_cons_self
      rcases List.mem_cons.mp m1 with e | m1
      · exact e
      · rcases List.mem_cons.mp m2 with e | m2
        · exact e.symm
        · exact anti x y (h1.1 y m2) (h2.1 x m1)
    subst e
    rw [perm_upA anti (List.Perm.cons_inv p) h1.2 h2.2]
theorem sortI_congr {l m : Tbl} (h : l.Perm m) : sortI l = sortI m := perm_upA (fun a b h1 h2 => Int.le_antisymm h1 h2) ((sortI_perm l).trans (h.trans (sortI_perm m).symm)) (sortI_up l) (sortI_up m)
theorem sortT_congr {l m : Rnd} (h : l.Perm m) : sortT l = sortT m := perm_upA (fun a b h1 h2 => List.le_antisymm h1 h2) ((sortT_perm l).trans (h.trans (sortT_perm m).symm)) (sortT_up l) (sortT_up m)
theorem perm_of_sortI {l m : Tbl} (h : sortI l = sortI m) : l.Perm m := (sortI_perm l).symm.trans (h ▸ sortI_perm m)
def mvT (f : Int → Int) (t : Tbl) : Tbl := sortI (t.map f)
def mvR (f : Int → Int) (r : Rnd) : Rnd := sortT (r.map (mvT f))
def shR (g : Int) (r : Rnd) : Rnd := r.map fun t => t.map (· + g)
theorem mvT_perm (f : Int → Int) (t : Tbl) : (mvT f t).Perm (t.map f) := sortI_perm _
theorem mvR_perm (f : Int → Int) (r : Rnd) : (mvR f r).Perm (r.map (mvT f)) := sortT_perm _
theorem mvR_nil (f : Int → Int) : mvR f [] = [] := List.eq_nil_of_length_eq_zero (mvR_perm f []).length_eq
theorem mvT_comp (d f : Int → Int) (t : Tbl) : mvT d (mvT f t) = mvT (fun x => d (f x)) t := by
  refine sortI_congr (((mvT_perm f t).map d).trans (.of_eq ?_))
  rw [List.map_map]; rfl
theorem mvR_comp (d f : Int → Int) (r : Rnd) : mvR d (mvR f r) = mvR (fun x => d (f x)) r := by
  refine sortT_congr (((mvR_perm f r).map (mvT d)).trans (.of_eq ?_))
  rw [List.map_map]
  exact List.map_congr_left fun t _ => mvT_comp d f t
theorem mvT_congr {f h : Int → Int} {t : Tbl} (e : ∀ x ∈ t, f x = h x) : mvT f t = mvT h t := by
  unfold mvT
  rw [List.map_congr_left e]
theorem mvR_congr {f h : Int → Int} {r : Rnd} (e : ∀ x ∈ r.flatten, f x = h x) : mvR f r = mvR h r := by
  unfold mvR
  rw [List.map_congr_left fun t ht => mvT_congr fun x hx => e x (List.mem_flatten.mpr ⟨t, ht, hx⟩)]
theorem mvT_sh (c : Int → Int) (g : Int) (t : Tbl) : mvT c (t.map (· + g)) = mvT (fun x => c (x + g)) t := by
  unfold mvT
  rw [List.map_map]; rfl
theorem mvR_sh (c : Int → Int) (g : Int) (r : Rnd) : mvR c (shR g r) = mvR (fun x => c (x + g)) r := by
  unfold mvR shR
  rw [List.map_map]
  congr 1
  exact List.map_congr_left fun t _ => mvT_sh c g t
theorem mvR_id {g s : Int} {r : Rnd} (h : IsRound g s r) : mvR (fun x => x) r = r := by
  unfold mvR
  have e : r.map (mvT fun x => x) = r := by
    have e1 : r.map (mvT fun x => x) = r.map id := List.map_congr_left fun t ht => by
      show sortI (t.map fun x => x) = t
      rw [show (t.map fun x => x) = t from List.map_id t]
      exact ((sortI_iff t).mpr (h.up t ht)).symm
    rw [e1, List.map_id]
  rw [e]
  exact ((sortT_iff r).mpr h.ord).symm
theorem mem_mvT {f : Int → Int} {t : Tbl} {x : Int} : x ∈ mvT f t ↔ ∃ y ∈ t, f y = x := by
  rw [(mvT_perm f t).mem_iff, List.mem_map]
theorem mem_flat_mvR {f : Int → Int} {r : Rnd} {x : Int} : x ∈ (mvR f r).flatten ↔ ∃ y ∈ r.flatten, f y = x := by
  rw [List.mem_flatten]
  constructor
  · rintro ⟨t, ht, hx⟩
    obtain ⟨u, hu, rfl⟩ := List.mem_map.mp ((mvR_perm f r).mem_iff.mp ht)
    obtain ⟨y, hy, e⟩ := mem_mvT.mp hx
    exact ⟨y, List.mem_flatten.mpr ⟨u, hu, hy⟩, e⟩
  · rintro ⟨y, hy, e⟩
    obtain ⟨u, hu, hy⟩ := List.mem_flatten.mp hy
    exact ⟨mvT f u, (mvR_perm f r).mem_iff.mpr (List.mem_map.mpr ⟨u, hu, rfl⟩), mem_mvT.mpr ⟨y, hy, e⟩⟩
/-- where a guest sits: of each round and table the kinds -/
def pl1 (c : Int → Int) (r : Rnd) (i : Int) : List (Rnd × Tbl) := (r.filter fun t => decide (i ∈ t)).map fun t => (mvR c r, mvT c t)
def plcs (c : Int → Int) (plan : List Rnd) (i : Int) : List (Rnd × Tbl) := plan.flatMap fun r => pl1 c r i
theorem plcs_append (c : Int → Int) (a b : List Rnd) (i : Int) : plcs c (a ++ b) i = plcs c a i ++ plcs c b i := List.flatMap_append
theorem pl1_nil {c : Int → Int} {r : Rnd} {i : Int} (h : i ∉ r.flatten) : pl1 c r i = [] := by
  unfold pl1
  rw [List.filter_eq_nil_iff.mpr fun t ht => ?_]
  · rfl
  · rw [decide_eq_true_eq]
    exact fun z => h (List.mem_flatten.mpr ⟨t, ht, z⟩)
theorem plcs_nil {c : Int → Int} {i : Int} : ∀ {plan : List Rnd}, (∀ r ∈ plan, i ∉ r.flatten) → plcs c plan i = []
  | [], _ => rfl
  | r :: plan, h => by
    show pl1 c r i ++ plcs c plan i = []
    rw [pl1_nil (h r List.mem_cons_self), plcs_nil fun q hq => h q (List.mem_cons_of_mem _ hq)]
    rfl
theorem flatMap_perm2 {α β : Type} {F G : α → List β} : ∀ {l : List α}, (∀ a ∈ l, (F a).Perm (G a)) → (l.flatMap F).Perm (l.flatMap G)
  | [], _ => .nil
  | a :: l, h => (h a List.mem_cons_self).append (flatMap_perm2 fun b hb => h b (List.mem_cons_of_mem _ hb))
theorem plcs_perm {c : Int → Int} {a b : List Rnd} {i : Int} (h : a.Perm b) : (plcs c a i).Perm (plcs c b i) := List.Perm.flatMap_right _ h
/-- a turning, as a map -/
structure PermF (g : Nat) (f : Int → Int) : Prop where
  lo : ∀ x : Int, 0 ≤ x → x < g → 0 ≤ f x ∧ f x < g
  inj : ∀ x y : Int, 0 ≤ x → x < g → 0 ≤ y → y < g → f x = f y → x = y
  on : ∀ y : Int, 0 ≤ y → y < g → ∃ x : Int, 0 ≤ x ∧ x < g ∧ f x = y
structure IsoF (g : Nat) (one other : List Rnd) (f : Int → Int) : Prop where
  pm : PermF g f
  to : (one.map (mvR f)).Perm other
def Resp (g : Nat) (c f : Int → Int) : Prop := ∀ x : Int, 0 ≤ x → x < g → c (f x + g) = c x
def bothR (g : Nat) (one other : List Rnd) : List Rnd := one ++ other.map (shR g)
theorem mem_shR {g : Int} {r : Rnd} {x : Int} : x ∈ (shR g r).flatten ↔ x - g ∈ r.flatten := by
  rw [List.mem_flatten, List.mem_flatten]
  constructor
  · rintro ⟨t, ht, hx⟩
    obtain ⟨u, hu, rfl⟩ := List.mem_map.mp ht
    obtain ⟨y, hy, e⟩ := List.mem_map.mp hx
    exact ⟨u, hu, by rw [← e, show y + g - g = y by omega]; exact hy⟩
  · rintro ⟨u, hu, hy⟩
    exact ⟨_, List.mem_map.mpr ⟨u, hu, rfl⟩, List.mem_map.mpr ⟨x - g, hy, by omega⟩⟩
theorem plcs_low {c : Int → Int} {g : Nat} {s : Int} {one other : List Rnd} (h2 : ∀ r ∈ other, IsRound g s r) {i : Int} (i1 : i < g) : plcs c (bothR g one other) i = plcs c one i := by
  unfold bothR
  rw [plcs_append, plcs_nil (plan := other.map (shR g)), List.append_nil]
  intro r hr z
  obtain ⟨q, hq, rfl⟩ := List.mem_map.mp hr
  have := ((h2 q hq).lo _ (mem_shR.mp z)).1
  omega
theorem plcs_high {c : Int → Int} {g : Nat} {s : Int} {one other : List Rnd} (h1 : ∀ r ∈ one, IsRound g s r) {i : Int} (i0 : g ≤ i) : plcs c (bothR g one other) i = plcs c (other.map (shR g)) i := by
  unfold bothR
  rw [plcs_append, plcs_nil (plan := one), List.nil_append]
  intro r hr z
  have := ((h1 r hr).lo _ z).2
  omega
/-- a turning that keeps the kinds keeps what is shown -/
theorem resp_places {c f : Int → Int} {g : Nat} {s : Int} {one other : List Rnd} (h1 : ∀ r ∈ one, IsRound g s r) (h2 : ∀ r ∈ other, IsRound g s r) (F : IsoF g one other f) (R : Resp g c f) {i : Int} (i0 : 0 ≤ i) (i1 : i < g) :
    (plcs c (bothR g one other) (f i + g)).Perm (plcs c (bothR g one other) i) := by
  have fi := F.pm.lo i i0 i1
  rw [plcs_low h2 i1, plcs_high h1 (by omega)]
  refine (plcs_perm (F.to.symm.map (shR g))).trans ?_
  unfold plcs
  rw [List.map_map, List.flatMap_map]
  refine flatMap_perm2 fun r hr => ?_
  show (pl1 c (shR g (mvR f r)) (f i + g)).Perm (pl1 c r i)
  have hr1 := h1 r hr
  have ec : ∀ x ∈ r.flatten, c (f x + g) = c x := fun x hx => R x (hr1.lo x hx).1 (hr1.lo x hx).2
  have e1 : mvR c (shR g (mvR f r)) = mvR c r := by
    rw [mvR_sh, mvR_comp]
    exact mvR_congr ec
  unfold pl1
  rw [e1]
  have e2 : (shR (g : Int) (mvR f r)).Perm ((r.map (mvT f)).map fun t => t.map (· + (g : Int))) := (mvR_perm f r).map _
  refine ((e2.filter _).map _).trans (.of_eq ?_)
  rw [List.map_map, List.filter_map, List.map_map]
  have e3 : r.filter ((fun t => decide (f i + (g : Int) ∈ t)) ∘ (fun t => t.map (· + (g : Int))) ∘ mvT f) = r.filter fun t => decide (i ∈ t) := by
    refine List.filter_congr fun t ht => ?_
    show decide (f i + (g : Int) ∈ (mvT f t).map (· + (g : Int))) = decide (i ∈ t)
    rw [Bool.eq_iff_iff, decide_eq_true_eq, decide_eq_true_eq, List.mem_map]
    constructor
    · rintro ⟨y, hy, e⟩
      obtain ⟨x, hx, e'⟩ := mem_mvT.mp hy
      have lo := hr1.lo x (List.mem_flatten.mpr ⟨t, ht, hx⟩)
      have := F.pm.inj x i lo.1 lo.2 i0 i1 (by omega)
      exact this ▸ hx
    · exact fun hi => ⟨f i, mem_mvT.mpr ⟨i, hi, rfl⟩, rfl⟩
  rw [e3]
  refine List.map_congr_left fun t ht => ?_
  show (mvR c r, mvT c ((mvT f t).map (· + (g : Int)))) = (mvR c r, mvT c t)
  rw [mvT_sh, mvT_comp, mvT_congr (f := fun x => c (f x + g)) (h := c) fun x hx => ec x (List.mem_flatten.mpr ⟨t, (List.mem_filter.mp ht).1, hx⟩)]
/-! ### behind all: kinds of one each tell a turning -/
theorem filt_one {i : Int} : ∀ {r : Rnd}, r.flatten.Nodup → i ∈ r.flatten → (r.filter fun t => decide (i ∈ t)).length = 1
  | [], _, h => by simp at h
  | t :: r, n, h => by
    rw [List.flatten_cons] at n h
    obtain ⟨n1, n2, n3⟩ := List.nodup_append.mp n
    by_cases ht : i ∈ t
    · rw [List.filter_cons_of_pos (by simpa using ht), List.length_cons, List.filter_eq_nil_iff.mpr fun u hu => ?_]
      · rfl
      · rw [decide_eq_true_eq]
        exact fun z => n3 i ht i (List.mem_flatten.mpr ⟨u, hu, z⟩) rfl
    · rw [List.filter_cons_of_neg (by simpa using ht)]
      exact filt_one n2 ((List.mem_append.mp h).elim (fun z => absurd z ht) id)
theorem count_pl1 {c : Int → Int} {r : Rnd} {i : Int} (R : Rnd) : ((pl1 c r i).map (·.1)).count R = if mvR c r = R then (r.filter fun t => decide (i ∈ t)).length else 0 := by
  unfold pl1
  rw [List.map_map]
  have e : ((r.filter fun t => decide (i ∈ t)).map ((fun x : Rnd × Tbl => x.1) ∘ fun t => (mvR c r, mvT c t))) = List.replicate (r.filter fun t => decide (i ∈ t)).length (mvR c r) := by
    generalize (r.filter fun t => decide (i ∈ t)) = l
    induction l with
    | nil => rfl
    | cons a l ih => rw [List.map_cons, ih, List.length_cons, List.replicate_succ]; rfl
  rw [e, List.count_replicate]
  by_cases h : mvR c r = R
  · simp [h]
  · simp [h]
theorem count_plcs {c : Int → Int} {i : Int} (R : Rnd) : ∀ {L : List Rnd}, (∀ r ∈ L, r.flatten.Nodup) → (∀ r ∈ L, mvR c r = R → i ∈ r.flatten) → ((plcs c L i).map (·.1)).count R = (L.map (mvR c)).count R
  | [], _, _ => rfl
  | r :: L, n, h => by
    have ih := count_plcs R (L := L) (fun q hq => n q (List.mem_cons_of_mem _ hq)) fun q hq => h q (List.mem_cons_of_mem _ hq)
    show (((pl1 c r i) ++ plcs c L i).map (·.1)).count R = _
    rw [List.map_append, List.count_append, ih, count_pl1, List.map_cons, List.count_cons]
    by_cases e : mvR c r = R
    · rw [if_pos e, filt_one (n r List.mem_cons_self) (h r List.mem_cons_self e)]
      simp [e, Nat.add_comm]
    · rw [if_neg e]
      simp [e]
theorem sh_nodup {g : Int} {r : Rnd} (h : r.flatten.Nodup) : (shR g r).flatten.Nodup := by
  unfold shR
  rw [← List.map_flatten]
  exact List.Pairwise.map _ (fun a b (hab : a ≠ b) e => hab (by have e : a + g = b + g := e; omega)) h
theorem perm_of_counts {α : Type} [BEq α] [LawfulBEq α] {a b : List α} {e : α} (hl : a.length = b.length) (h : ∀ x, x ≠ e → a.count x = b.count x) : a.Perm b := by
  have pf : ∀ l : List α, l.length = l.count e + (l.filter fun x => !(x == e)).length := fun l => by
    induction l with
    | nil => rfl
    | cons x l ih =>
      by_cases q : x = e
      · subst q; simp only [List.length_cons, List.count_cons_self, List.filter_cons, BEq.rfl, Bool.not_true, Bool.false_eq_true, if_false]; omega
      · have q2 : (x == e) = false := by simpa using q
        rw [List.length_cons, List.count_cons_of_ne (by simpa using q), List.filter_cons_of_pos (by simp [q2]), List.length_cons]; omega
  have p : (a.filter fun x => !(x == e)).Perm (b.filter fun x => !(x == e)) := List.perm_iff_count.mpr fun x => by
    by_cases q : x = e
    · subst q
      rw [List.count_eq_zero.mpr (by simp), List.count_eq_zero.mpr (by simp)]
    · rw [List.count_filter (by simpa using q), List.count_filter (by simpa using q)]
      exact h x q
  refine List.perm_iff_count.mpr fun x => ?_
  by_cases q : x = e
  · subst q
    have := pf a
    have := pf b
    have := p.length_eq
    omega
  · exact h x q
open Classical in
theorem alone_iso {c f : Int → Int} {g : Nat} {s : Int} {one other : List Rnd} (h1 : ∀ r ∈ one, IsRound g s r) (h2 : ∀ r ∈ other, IsRound g s r) (F : PermF g f) (hl : one.length = other.length) (R : Resp g c f)
    (i1 : ∀ x y : Int, 0 ≤ x → x < g → 0 ≤ y → y < g → c x = c y → x = y) (hp : ∀ i : Int, 0 ≤ i → i < g → (plcs c (bothR g one other) (f i + g)).Perm (plcs c (bothR g one other) i)) : IsoF g one other f := by
  refine ⟨F, ?_⟩
  have i2 : ∀ x y : Int, 0 ≤ x → x < g → 0 ≤ y → y < g → c (x + g) = c (y + g) → x = y := fun x y x0 x1 y0 y1 e => by
    obtain ⟨a, a0, a1, rfl⟩ := F.on x x0 x1
    obtain ⟨b, b0, b1, rfl⟩ := F.on y y0 y1
    rw [R a a0 a1, R b b0 b1] at e
    rw [i1 a b a0 a1 b0 b1 e]
  -- a kind's guest of the other plan
  let d : Int → Int := fun k => if h : ∃ y : Int, 0 ≤ y ∧ y < g ∧ c (y + g) = k then h.choose else 0
  have d2 : ∀ y : Int, 0 ≤ y → y < g → d (c (y + g)) = y := fun y y0 y1 => by
    have h : ∃ z : Int, 0 ≤ z ∧ z < g ∧ c (z + g) = c (y + g) := ⟨y, y0, y1, rfl⟩
    show (if h : ∃ z : Int, 0 ≤ z ∧ z < g ∧ c (z + g) = c (y + g) then h.choose else 0) = y
    rw [dif_pos h]
    have q := h.choose_spec
    exact i2 _ _ q.1 q.2.1 y0 y1 q.2.2
  have d1 : ∀ x : Int, 0 ≤ x → x < g → d (c x) = f x := fun x x0 x1 => by
    rw [← R x x0 x1]
    exact d2 _ (F.lo x x0 x1).1 (F.lo x x0 x1).2
  have main : (one.map (mvR c)).Perm (other.map fun r => mvR c (shR g r)) := by
    refine perm_of_counts (e := []) (by rw [List.length_map, List.length_map, hl]) fun Q hQ => ?_
    have chain : ∀ i : Int, 0 ≤ i → i < g → c i ∈ Q.flatten → (one.map (mvR c)).count Q = (other.map fun r => mvR c (shR g r)).count Q := fun i i0 i1' hi => by
      have e1 := count_plcs (c := c) (i := i) Q (L := one) (fun r hr => (h1 r hr).nd) fun r hr e => by
        rw [← e] at hi
        obtain ⟨y, hy, ey⟩ := mem_flat_mvR.mp hi
        have lo := (h1 r hr).lo y hy
        exact i1 y i lo.1 lo.2 i0 i1' ey ▸ hy
      have fi := F.lo i i0 i1'
      have e2 := count_plcs (c := c) (i := f i + g) Q (L := other.map (shR g)) (fun r hr => by
        obtain ⟨q, hq, rfl⟩ := List.mem_map.mp hr
        exact sh_nodup (h2 q hq).nd) fun r hr e => by
        obtain ⟨q, hq, rfl⟩ := List.mem_map.mp hr
        rw [← e, mvR_sh] at hi
        obtain ⟨y, hy, ey⟩ := mem_flat_mvR.mp hi
        have lo := (h2 q hq).lo y hy
        have : y = f i := i2 y (f i) lo.1 lo.2 fi.1 fi.2 (ey.trans (R i i0 i1').symm)
        rw [mem_shR, show f i + (g : Int) - (g : Int) = f i by omega, ← this]
        exact hy
      have e3 := (hp i i0 i1').map (·.1)
      rw [plcs_low h2 i1', plcs_high h1 (by omega)] at e3
      rw [List.map_map] at e2
      exact e1.symm.trans ((e3.count_eq Q).symm.trans e2)
    by_cases m1 : Q ∈ one.map (mvR c)
    · obtain ⟨r, hr, e⟩ := List.mem_map.mp m1
      have hne : r ≠ [] := fun z => hQ (by rw [← e, z]; exact mvR_nil _)
      obtain ⟨t, r', er⟩ := List.exists_cons_of_ne_nil hne
      have ht : t ∈ r := er ▸ List.mem_cons_self
      have sz := (h1 r hr).sz t ht
      obtain ⟨x, t', et⟩ := List.exists_cons_of_ne_nil (l := t) (fun z => by rw [z] at sz; simp at sz)
      have hx : x ∈ r.flatten := List.mem_flatten.mpr ⟨t, ht, et ▸ List.mem_cons_self⟩
      have lo := (h1 r hr).lo x hx
      exact chain x lo.1 lo.2 (by rw [← e]; exact mem_flat_mvR.mpr ⟨x, hx, rfl⟩)
    · by_cases m2 : Q ∈ other.map fun r => mvR c (shR g r)
      · obtain ⟨r, hr, e⟩ := List.mem_map.mp m2
        have hne : r ≠ [] := fun z => hQ (by rw [← e, z]; exact mvR_nil _)
        obtain ⟨t, r', er⟩ := List.exists_cons_of_ne_nil hne
        have ht : t ∈ r := er ▸ List.mem_cons_self
        have sz := (h2 r hr).sz t ht
        obtain ⟨x, t', et⟩ := List.exists_cons_of_ne_nil (l := t) (fun z => by rw [z] at sz; simp at sz)
        have hx : x ∈ r.flatten := List.mem_flatten.mpr ⟨t, ht, et ▸ List.mem_cons_self⟩
        have lo := (h2 r hr).lo x hx
        obtain ⟨a, a0, a1, rfl⟩ := F.on x lo.1 lo.2
        refine chain a a0 a1 ?_
        rw [← e, mvR_sh]
        exact mem_flat_mvR.mpr ⟨f a, hx, R a a0 a1⟩
      · rw [List.count_eq_zero.mpr m1, List.count_eq_zero.mpr m2]
  have p := main.map (mvR d)
  rw [List.map_map, List.map_map] at p
  have e1 : one.map (mvR d ∘ mvR c) = one.map (mvR f) := List.map_congr_left fun r hr => by
    show mvR d (mvR c r) = mvR f r
    rw [mvR_comp]
    exact mvR_congr fun x hx => d1 x ((h1 r hr).lo x hx).1 ((h1 r hr).lo x hx).2
  have e2 : other.map (mvR d ∘ fun r => mvR c (shR g r)) = other := by
    have e3 : other.map (mvR d ∘ fun r => mvR c (shR g r)) = other.map id := List.map_congr_left fun r hr => by
      show mvR d (mvR c (shR g r)) = r
      rw [mvR_sh, mvR_comp, mvR_congr (h := fun x => x) fun x hx => d2 x ((h2 r hr).lo x hx).1 ((h2 r hr).lo x hx).2]
      exact mvR_id (h2 r hr)
    rw [e3, List.map_id]
  rw [e1, e2] at p
  exact p
end Nf

set_option autoImplicit false
set_option linter.all false
namespace Nf
/-! ### kinds parted further: the mathematics -/
def cF (c : List Int) (x : Int) : Int := c.getD x.toNat 0
def InN (n : Nat) (x : Int) : Prop := 0 ≤ x ∧ x < n
theorem cF_nat {c : List Int} {i : Nat} : cF c (i : Int) = c.getD i 0 := rfl
theorem cF_get {c : List Int} {i : Nat} (h : i < c.length) : cF c (i : Int) = c[i] := by
  rw [cF_nat, List.getD_eq_getElem?_getD, List.getElem?_eq_getElem h]; rfl
theorem inN_nat {n : Nat} {x : Int} (h : InN n x) : ∃ i : Nat, x = i ∧ i < n := ⟨x.toNat, by have := h.1; omega, by have := h.1; have := h.2; omega⟩
theorem cF_mem {c : List Int} {n : Nat} (hl : c.length = n) {x : Int} (h : InN n x) : cF c x ∈ c := by
  obtain ⟨i, rfl, hi⟩ := inN_nat h
  rw [cF_get (by omega)]
  exact List.getElem_mem _
theorem mem_cF {c : List Int} {n : Nat} (hl : c.length = n) {k : Int} (h : k ∈ c) : ∃ x, InN n x ∧ cF c x = k := by
  obtain ⟨i, hi, e⟩ := List.getElem_of_mem h
  exact ⟨(i : Int), ⟨by omega, by omega⟩, by rw [cF_get hi]; exact e⟩
theorem list_cF {c : List Int} {n : Nat} (hl : c.length = n) : c = (rangeI n).map (cF c) := by
  refine List.ext_getElem (by rw [List.length_map, rangeI_len, hl]) fun i h1 h2 => ?_
  rw [List.getElem_map]
  unfold rangeI
  rw [List.getElem_map, List.getElem_range, cF_get h1]
theorem take_cF {c : List Int} {g : Nat} (hl : c.length = 2 * g) : c.take g = (rangeI g).map (cF c) := by
  refine List.ext_getElem (by rw [List.length_map, rangeI_len, List.length_take]; omega) fun i h1 h2 => ?_
  rw [List.length_take] at h1
  rw [List.getElem_map]
  unfold rangeI
  rw [List.getElem_map, List.getElem_range, List.getElem_take, cF_get (by omega)]
theorem drop_cF {c : List Int} {g : Nat} (hl : c.length = 2 * g) : c.drop g = (rangeI g).map fun x => cF c (x + g) := by
  refine List.ext_getElem (by rw [List.length_map, rangeI_len, List.length_drop]; omega) fun i h1 h2 => ?_
  rw [List.length_drop] at h1
  rw [List.getElem_map]
  unfold rangeI
  rw [List.getElem_map, List.getElem_range, List.getElem_drop]
  rw [show ((i : Int) + (g : Int)) = ((g + i : Nat) : Int) by omega, cF_get (by omega)]
theorem map_pw_on {α β : Type} {f : α → β} : ∀ {l : List α}, (∀ x ∈ l, ∀ y ∈ l, f x = f y → x = y) → l.Nodup → (l.map f).Nodup
  | [], _, _ => List.nodup_nil
  | a :: l, h, n => by
    obtain ⟨n1, n2⟩ := List.nodup_cons.mp n
    rw [List.map_cons]
    refine List.nodup_cons.mpr ⟨fun z => ?_, map_pw_on (fun x hx y hy => h x (List.mem_cons_of_mem _ hx) y (List.mem_cons_of_mem _ hy)) n2⟩
    obtain ⟨b, hb, e⟩ := List.mem_map.mp z
    exact n1 (h b (List.mem_cons_of_mem _ hb) a List.mem_cons_self e ▸ hb)
theorem nodup_inj_on {α β : Type} {f : α → β} : ∀ {l : List α}, (l.map f).Nodup → ∀ x ∈ l, ∀ y ∈ l, f x = f y → x = y
  | [], _, x, hx, _, _, _ => by cases hx
  | a :: l, n, x, hx, y, hy, e => by
    rw [List.map_cons] at n
    obtain ⟨n1, n2⟩ := List.nodup_cons.mp n
    rcases List.mem_cons.mp hx with rfl | hx
    · rcases List.mem_cons.mp hy with rfl | hy
      · rfl
      · exact absurd (List.mem_map.mpr ⟨y, hy, e.symm⟩) n1
    · rcases List.mem_cons.mp hy with e2 | hy
      · exact absurd (List.mem_map.mpr ⟨x, hx, e2 ▸ e⟩) n1
      · exact nodup_inj_on n2 x hx y hy e
theorem sub_permA {α : Type} [DecidableEq α] : ∀ {l m : List α}, l.Nodup → (∀ x ∈ l, x ∈ m) → m.length ≤ l.length → l.Perm m
  | [], m, _, _, h => by
    have : m = [] := List.eq_nil_of_length_eq_zero (by simpa using h)
    rw [this]
  | x :: l, m, hn, hs, h => by
    obtain ⟨h1, h2⟩ := List.nodup_cons.mp hn
    have p := List.perm_cons_erase (hs x List.mem_cons_self)
    have e := p.length_eq
    rw [List.length_cons] at e h
    refine ((sub_permA h2 (fun y hy => ?_) (by omega)).cons x).trans p.symm
    rcases List.mem_cons.mp (p.mem_iff.mp (hs y (List.mem_cons_of_mem _ hy))) with z | z
    · exact absurd (z ▸ hy) h1
    · exact z
/-- as many kinds as before: the same parts -/
theorem same_part {n : Nat} {c c' D D' : List Int} (hc : c.length = n) (hc' : c'.length = n) (nd : D.Nodup) (nd' : D'.Nodup) (md : ∀ x, x ∈ D ↔ x ∈ c) (md' : ∀ x, x ∈ D' ↔ x ∈ c') (ref : ∀ x y, InN n x → InN n y → cF c' x = cF c' y → cF c x = cF c y)
    (h : D'.length ≤ D.length) : ∀ x y, InN n x → InN n y → cF c x = cF c y → cF c' x = cF c' y := by
  have ex : ∀ k, k ∈ D' → ∃ x, InN n x ∧ cF c' x = k := fun k hk => mem_cF hc' ((md' k).mp hk)
  let r : Int → Int := fun k => open Classical in if q : ∃ x, InN n x ∧ cF c' x = k then cF c q.choose else 0
  have hr : ∀ x, InN n x → r (cF c' x) = cF c x := fun x hx => by
    have q : ∃ y, InN n y ∧ cF c' y = cF c' x := ⟨x, hx, rfl⟩
    show (open Classical in if q : ∃ y, InN n y ∧ cF c' y = cF c' x then cF c q.choose else 0) = _
    rw [dif_pos q]
    exact ref _ _ q.choose_spec.1 hx q.choose_spec.2
  have p : D.Perm (D'.map r) := sub_permA nd (fun k hk => by
    obtain ⟨x, hx, rfl⟩ := mem_cF hc ((md k).mp hk)
    exact List.mem_map.mpr ⟨cF c' x, (md' _).mpr (cF_mem hc' hx), hr x hx⟩) (by rw [List.length_map]; exact h)
  have n2 : (D'.map r).Nodup := p.nodup_iff.mp nd
  intro x y hx hy e
  refine nodup_inj_on n2 _ ((md' _).mpr (cF_mem hc' hx)) _ ((md' _).mpr (cF_mem hc' hy)) ?_
  rw [hr x hx, hr y hy, e]
structure StepR (n : Nat) (plan : List Rnd) (c c' : List Int) : Prop where
  len : c'.length = n
  lo : ∀ k ∈ c', InN n k
  eq : ∀ x y, InN n x → InN n y → (cF c' x = cF c' y ↔ (cF c x = cF c y ∧ (plcs (cF c) plan x).Perm (plcs (cF c) plan y)))
structure Told (g : Nat) (one other : List Rnd) (c c' : List Int) : Prop where
  len : c'.length = 2 * g
  lo : ∀ k ∈ c', InN (2 * g) k
  ref : ∀ x y, InN (2 * g) x → InN (2 * g) y → cF c' x = cF c' y → cF c x = cF c y
  st : ∃ c0, (∀ x y, InN (2 * g) x → InN (2 * g) y → (cF c' x = cF c' y ↔ cF c0 x = cF c0 y)) ∧ ∀ x y, InN (2 * g) x → InN (2 * g) y → cF c0 x = cF c0 y → (plcs (cF c0) (bothR g one other) x).Perm (plcs (cF c0) (bothR g one other) y)
  rs : ∀ f, IsoF g one other f → Resp g (cF c) f → Resp g (cF c') f
/-- under way: the kinds cur, of as many kinds ahead -/
structure ToldI (g : Nat) (one other : List Rnd) (c cur : List Int) : Prop where
  len : cur.length = 2 * g
  ref : ∀ x y, InN (2 * g) x → InN (2 * g) y → cF cur x = cF cur y → cF c x = cF c y
  rs : ∀ f, IsoF g one other f → Resp g (cF c) f → Resp g (cF cur) f
theorem ToldI.start {g : Nat} {one other : List Rnd} {c : List Int} (h : c.length = 2 * g) : ToldI g one other c c := ⟨h, fun _ _ _ _ e => e, fun _ _ r => r⟩
section
variable {g : Nat} {s : Int} {one other : List Rnd} {c cur nx : List Int}
theorem inN_low {x : Int} (h0 : 0 ≤ x) (h1 : x < g) : InN (2 * g) x := ⟨h0, by omega⟩
theorem inN_high {x : Int} (h0 : 0 ≤ x) (h1 : x < g) : InN (2 * g) (x + g) := ⟨by omega, by omega⟩
theorem ToldI.step (h1 : ∀ r ∈ one, IsRound g s r) (h2 : ∀ r ∈ other, IsRound g s r) (T : ToldI g one other c cur) (S : StepR (2 * g) (bothR g one other) cur nx) : ToldI g one other c nx := by
  refine ⟨S.len, fun x y hx hy e => T.ref x y hx hy ((S.eq x y hx hy).mp e).1, fun f F R x x0 x1 => ?_⟩
  have R2 := T.rs f F R
  have fx := F.pm.lo x x0 x1
  exact (S.eq _ _ (inN_high fx.1 fx.2) (inN_low x0 x1)).mpr ⟨R2 x x0 x1, resp_places h1 h2 F R2 x0 x1⟩
theorem ToldI.done {D D' : List Int} (T : ToldI g one other c nx) (S : StepR (2 * g) (bothR g one other) cur nx) (hc : cur.length = 2 * g) (nd : D.Nodup) (nd' : D'.Nodup) (md : ∀ x, x ∈ D ↔ x ∈ cur) (md' : ∀ x, x ∈ D' ↔ x ∈ nx) (h : D'.length ≤ D.length) : Told g one other c nx := by
  have back := same_part hc S.len nd nd' md md' (fun x y hx hy e => ((S.eq x y hx hy).mp e).1) h
  exact ⟨S.len, S.lo, T.ref, ⟨cur, fun x y hx hy => ⟨fun e => ((S.eq x y hx hy).mp e).1, back x y hx hy⟩, fun x y hx hy e => ((S.eq x y hx hy).mp (back x y hx hy e)).2⟩, T.rs⟩
theorem permF_range {f : Int → Int} (F : PermF g f) : ((rangeI g).map f).Perm (rangeI g) := by
  refine (sub_permA (map_pw_on (fun x hx y hy e => ?_) (rangeI_nodup g)) (fun x hx => ?_) (by rw [List.length_map]; exact Nat.le_refl _))
  · obtain ⟨a, b⟩ := mem_rangeI.mp hx
    obtain ⟨a', b'⟩ := mem_rangeI.mp hy
    exact F.inj x y a b a' b' e
  · obtain ⟨y, hy, rfl⟩ := List.mem_map.mp hx
    obtain ⟨a, b⟩ := mem_rangeI.mp hy
    exact mem_rangeI.mpr (F.lo y a b)
/-- kinds that a turning keeps stand as often here as there -/
theorem resp_perm {f : Int → Int} (F : PermF g f) (hc : c.length = 2 * g) (R : Resp g (cF c) f) : (c.take g).Perm (c.drop g) := by
  rw [take_cF hc, drop_cF hc]
  refine List.Perm.trans (.of_eq ?_) ((permF_range F).map fun x => cF c (x + g))
  rw [List.map_map]
  refine List.map_congr_left fun x hx => ?_
  obtain ⟨a, b⟩ := mem_rangeI.mp hx
  exact (R x a b).symm
theorem told_none (T : Told g one other c cur) (h : ¬ (cur.take g).Perm (cur.drop g)) : ∀ f, IsoF g one other f → Resp g (cF c) f → False := fun f F R => h (resp_perm F.pm T.len (T.rs f F R))
/-! kinds of one each -/
def backL (others ones : List Int) : List Int := ones.map fun k => ((others.idxOf k : Nat) : Int)
theorem permF_of {p : List Int} (h : p.Perm (rangeI g)) : PermF g (cF p) := by
  have hl : p.length = g := by rw [h.length_eq, rangeI_len]
  have nd : ((rangeI g).map (cF p)).Nodup := by
    rw [← list_cF hl]
    exact h.nodup_iff.mpr (rangeI_nodup g)
  refine ⟨fun x a b => mem_rangeI.mp (h.mem_iff.mp (cF_mem hl ⟨a, b⟩)), fun x y a b a' b' e => nodup_inj_on nd x (mem_rangeI.mpr ⟨a, b⟩) y (mem_rangeI.mpr ⟨a', b'⟩) e, fun y a b => ?_⟩
  obtain ⟨x, hx, e⟩ := mem_cF hl (h.mem_iff.mpr (mem_rangeI.mpr ⟨a, b⟩))
  exact ⟨x, hx.1, hx.2, e⟩
theorem backL_ok (hc : cur.length = 2 * g) (hp : (cur.take g).Perm (cur.drop g)) (hn : (cur.take g).Nodup) : (backL (cur.drop g) (cur.take g)).Perm (rangeI g) ∧ Resp g (cF cur) (cF (backL (cur.drop g) (cur.take g))) := by
  have hn2 : (cur.drop g).Nodup := hp.nodup_iff.mp hn
  have l1 : (cur.take g).length = g := by rw [List.length_take]; omega
  have l2 : (cur.drop g).length = g := by rw [List.length_drop]; omega
  have ix : ∀ k ∈ cur.take g, (cur.drop g).idxOf k < g ∧ (cur.drop g)[(cur.drop g).idxOf k]? = some k := fun k hk => by
    have hm : k ∈ cur.drop g := hp.mem_iff.mp hk
    have hlt := List.idxOf_lt_length_iff.mpr hm
    refine ⟨by omega, ?_⟩
    rw [List.getElem?_eq_getElem hlt, List.getElem_idxOf]
  refine ⟨sub_permA (map_pw_on (fun x hx y hy e => ?_) hn) (fun x hx => ?_) (by rw [rangeI_len]; unfold backL; rw [List.length_map, l1]; exact Nat.le_refl _), fun x x0 x1 => ?_⟩
  · have e : (cur.drop g).idxOf x = (cur.drop g).idxOf y := by omega
    have h1 := (ix x hx).2
    rw [e, (ix y hy).2] at h1
    exact (Option.some.inj h1).symm
  · obtain ⟨k, hk, rfl⟩ := List.mem_map.mp hx
    have := (ix k hk).1
    exact mem_rangeI.mpr ⟨by omega, by omega⟩
  · obtain ⟨i, rfl, hi⟩ := inN_nat (n := g) ⟨x0, x1⟩
    have hi1 : i < (cur.take g).length := by omega
    have eb : cF (backL (cur.drop g) (cur.take g)) (i : Int) = (((cur.drop g).idxOf ((cur.take g)[i]) : Nat) : Int) := by
      rw [cF_get (by unfold backL; rw [List.length_map]; exact hi1)]
      unfold backL
      rw [List.getElem_map]
    rw [eb]
    obtain ⟨j1, j2⟩ := ix _ (List.getElem_mem hi1)
    generalize (cur.drop g).idxOf ((cur.take g)[i]) = j at j1 j2
    rw [show ((j : Nat) : Int) + (g : Int) = ((g + j : Nat) : Int) by omega, cF_get (by omega), cF_get (by omega)]
    rw [List.getElem?_drop, List.getElem?_eq_getElem (by omega)] at j2
    have j2 := Option.some.inj j2
    rw [List.getElem_take] at j2
    exact j2
theorem told_alone (h1 : ∀ r ∈ one, IsRound g s r) (h2 : ∀ r ∈ other, IsRound g s r) (hl : one.length = other.length) (T : Told g one other c cur) (hp : (cur.take g).Perm (cur.drop g)) (hn : (cur.take g).Nodup) :
    (backL (cur.drop g) (cur.take g)).Perm (rangeI g) ∧ IsoF g one other (cF (backL (cur.drop g) (cur.take g))) := by
  obtain ⟨b1, b2⟩ := backL_ok T.len hp hn
  obtain ⟨c0, e0, s0⟩ := T.st
  refine ⟨b1, ?_⟩
  have F := permF_of b1
  generalize cF (backL (cur.drop g) (cur.take g)) = f at b2 F ⊢
  rw [take_cF T.len] at hn
  have R0 : Resp g (cF c0) f := fun x x0 x1 => by
    have fx := F.lo x x0 x1
    exact (e0 _ _ (inN_high fx.1 fx.2) (inN_low x0 x1)).mp (b2 x x0 x1)
  refine alone_iso (c := cF c0) h1 h2 F hl R0 (fun x y x0 x1 y0 y1 e => ?_) (fun i i0 i1 => ?_)
  · exact nodup_inj_on hn x (mem_rangeI.mpr ⟨x0, x1⟩) y (mem_rangeI.mpr ⟨y0, y1⟩) ((e0 _ _ (inN_low x0 x1) (inN_low y0 y1)).mpr e)
  · have fx := F.lo i i0 i1
    exact s0 _ _ (inN_high fx.1 fx.2) (inN_low i0 i1) (R0 i i0 i1)
/-! one more kind -/
open Classical in
noncomputable def shN (g : Nat) (c : List Int) : Nat := ((rangeI g).filter fun x => decide (∃ y, InN g y ∧ y ≠ x ∧ cF c y = cF c x)).length
theorem filt_le {α : Type} {p q : α → Bool} : ∀ {l : List α}, (∀ x ∈ l, p x = true → q x = true) → (l.filter p).length ≤ (l.filter q).length
  | [], _ => Nat.le_refl _
  | a :: l, h => by
    have ih := filt_le (p := p) (q := q) (l := l) fun x hx => h x (List.mem_cons_of_mem _ hx)
    by_cases hp : p a = true
    · rw [List.filter_cons_of_pos hp, List.filter_cons_of_pos (h a List.mem_cons_self hp), List.length_cons, List.length_cons]
      omega
    · rw [List.filter_cons_of_neg hp]
      by_cases hq : q a = true
      · rw [List.filter_cons_of_pos hq, List.length_cons]; omega
      · rw [List.filter_cons_of_neg hq]; exact ih
theorem filt_lt {α : Type} {p q : α → Bool} : ∀ {l : List α}, (∀ x ∈ l, p x = true → q x = true) → (∃ x ∈ l, q x = true ∧ ¬ p x = true) → (l.filter p).length < (l.filter q).length
  | [], _, ⟨_, h, _⟩ => by cases h
  | a :: l, h, ⟨x, hx, hq, hp⟩ => by
    have h' : ∀ x ∈ l, p x = true → q x = true := fun x hx => h x (List.mem_cons_of_mem _ hx)
    rcases List.mem_cons.mp hx with rfl | hx
    · rw [List.filter_cons_of_neg hp, List.filter_cons_of_pos hq, List.length_cons]
      have := filt_le h'
      omega
    · have ih := filt_lt h' ⟨x, hx, hq, hp⟩
      by_cases hpa : p a = true
      · rw [List.filter_cons_of_pos hpa, List.filter_cons_of_pos (h a List.mem_cons_self hpa), List.length_cons, List.length_cons]
        omega
      · rw [List.filter_cons_of_neg hpa]
        by_cases hqa : q a = true
        · rw [List.filter_cons_of_pos hqa, List.length_cons]; omega
        · rw [List.filter_cons_of_neg hqa]; exact ih
theorem shN_le (g : Nat) (c : List Int) : shN g c ≤ g := by
  unfold shN
  refine Nat.le_trans (List.length_filter_le _ _) ?_
  rw [rangeI_len]
  exact Nat.le_refl _
open Classical in
theorem shN_mono (ref : ∀ x y, InN (2 * g) x → InN (2 * g) y → cF nx x = cF nx y → cF c x = cF c y) : shN g nx ≤ shN g c := by
  unfold shN
  refine filt_le fun x hx h => ?_
  obtain ⟨y, hy, n, e⟩ := of_decide_eq_true h
  have hx := mem_rangeI.mp hx
  exact decide_eq_true ⟨y, hy, n, ref y x (inN_low hy.1 hy.2) (inN_low hx.1 hx.2) e⟩
theorem count_two {l : List Int} {n : Nat} (hl : l.length = n) {k : Int} (h : 1 < l.count k) {x : Int} (hx : InN n x) (e : cF l x = k) : ∃ y, InN n y ∧ y ≠ x ∧ cF l y = k := by
  obtain ⟨i, rfl, hi⟩ := inN_nat hx
  open Classical in
  refine Classical.byContradiction fun no => ?_
  have e2 : l = l.take i ++ k :: l.drop (i + 1) := by
    have : l[i] = k := by rw [← cF_get (by omega)]; exact e
    rw [← this]
    conv => lhs; rw [← List.take_append_drop i l]
    rw [List.drop_eq_getElem_cons (by omega)]
  have key : ∀ j, j < n → j ≠ i → l[j]? ≠ some k := fun j hj hne q => no ⟨(j : Int), ⟨by omega, by omega⟩, by omega, by
    rw [cF_get (by omega)]
    rw [List.getElem?_eq_getElem (by omega)] at q
    exact Option.some.inj q⟩
  have n1 : k ∉ l.take i := fun z => by
    obtain ⟨j, hj, q⟩ := List.getElem_of_mem z
    rw [List.length_take] at hj
    rw [List.getElem_take] at q
    exact key j (by omega) (by omega) (by rw [List.getElem?_eq_getElem (by omega), q])
  have n2 : k ∉ l.drop (i + 1) := fun z => by
    obtain ⟨j, hj, q⟩ := List.getElem_of_mem z
    rw [List.length_drop] at hj
    rw [List.getElem_drop] at q
    exact key (i + 1 + j) (by omega) (by omega) (by rw [List.getElem?_eq_getElem (by omega), q])
  rw [e2, List.count_append, List.count_cons_self, List.count_eq_zero.mpr n1, List.count_eq_zero.mpr n2] at h
  omega
/-- the kinds with a new one for two guests -/
structure Apart (g : Nat) (cur nx : List Int) (a b : Int) : Prop where
  len : nx.length = 2 * g
  at_ : ∀ x, InN (2 * g) x → cF nx x = if x = a ∨ x = b + g then ((2 * g : Nat) : Int) else cF cur x
theorem Apart.ref {a b : Int} (A : Apart g cur nx a b) (lo : ∀ k ∈ cur, InN (2 * g) k) (hc : cur.length = 2 * g) (e : cF cur a = cF cur (b + g)) : ∀ x y, InN (2 * g) x → InN (2 * g) y → cF nx x = cF nx y → cF cur x = cF cur y := fun x y hx hy h => by
  rw [A.at_ x hx, A.at_ y hy] at h
  have lx := (lo _ (cF_mem hc hx)).2
  have ly := (lo _ (cF_mem hc hy)).2
  by_cases q : x = a ∨ x = b + g
  · rw [if_pos q] at h
    by_cases q2 : y = a ∨ y = b + g
    · rcases q with rfl | rfl <;> rcases q2 with rfl | rfl <;> first | rfl | exact e | exact e.symm
    · rw [if_neg q2] at h
      omega
  · rw [if_neg q] at h
    by_cases q2 : y = a ∨ y = b + g
    · rw [if_pos q2] at h
      omega
    · rw [if_neg q2] at h
      exact h
open Classical in
theorem Apart.less {a b : Int} (A : Apart g cur nx a b) (lo : ∀ k ∈ cur, InN (2 * g) k) (hc : cur.length = 2 * g) (ha : InN g a) (hb : InN g b) (e : cF cur a = cF cur (b + g)) (two : ∃ y, InN g y ∧ y ≠ a ∧ cF cur y = cF cur a) : shN g nx < shN g cur := by
  unfold shN
  refine filt_lt (fun x hx h => ?_) ⟨a, mem_rangeI.mpr ha, decide_eq_true two, fun h => ?_⟩
  · obtain ⟨y, hy, n, e'⟩ := of_decide_eq_true h
    have hx := mem_rangeI.mp hx
    exact decide_eq_true ⟨y, hy, n, A.ref lo hc e y x (inN_low hy.1 hy.2) (inN_low hx.1 hx.2) e'⟩
  · obtain ⟨y, hy, n, e'⟩ := of_decide_eq_true h
    rw [A.at_ y (inN_low hy.1 hy.2), A.at_ a (inN_low ha.1 ha.2), if_neg, if_pos (.inl rfl)] at e'
    · have := (lo _ (cF_mem hc (inN_low hy.1 hy.2))).2
      omega
    · rintro (z | z)
      · exact n z
      · have := hy.2
        have := hb.1
        omega
theorem Apart.resp {a : Int} {f : Int → Int} (F : PermF g f) (ha : InN g a) (A : Apart g cur nx a (f a)) (R : Resp g (cF cur) f) : Resp g (cF nx) f := fun x x0 x1 => by
  have fx := F.lo x x0 x1
  rw [A.at_ _ (inN_high fx.1 fx.2), A.at_ _ (inN_low x0 x1)]
  by_cases q : x = a
  · subst q
    rw [if_pos (.inr rfl), if_pos (.inl rfl)]
  · rw [if_neg, if_neg]
    · exact R x x0 x1
    · rintro (z | z)
      · exact q z
      · have := (F.lo a ha.1 ha.2).1
        omega
    · rintro (z | z)
      · have := ha.2
        omega
      · exact q (F.inj x a x0 x1 ha.1 ha.2 (by omega))
end
end Nf

set_option Elab.async false
set_option linter.all false
set_option maxRecDepth 100000
set_option maxHeartbeats 4000000
namespace Nf
open PySem PySem.Spec PyProof.Rows L2
/-! ### zip(a tuple, a list) -/
/-- one side of a zip: its iterator at it, what it goes over at l -/
structure ZSide (P : Program) (w : World) (it l : Addr) where
  At : Nat → Heap → Prop
  Of : Array Value → Heap → Prop
  move : ∀ {k : Nat} {h h' : Heap}, At k h → (∀ o, h.get? it = some o → h'.get? it = some o) → At k h'
  stay : ∀ {xs : Array Value} {h h' : Heap}, Of xs h → (∀ o, h.get? l = some o → h'.get? l = some o) → Of xs h'
  there : ∀ {k : Nat} {h : Heap}, At k h → ∃ o, h.get? it = some o ∧ ∀ v, o.data ≠ .cell v
  next : ∀ {A : Around} {E Q : Value → Shared → Prop} {s : Shared} {k : Nat} {xs : Array Value} {x : Value}, At k s.heap → Of xs s.heap → xs[k]? = some x → (∀ h', At (k + 1) h' → Heap.SameBut it s.heap h' → Q x { s with heap := h' }) →
    wpAny (model P w) A (Builtin.SmallTypes.nextOf (.ref it)) Q E s
  over : ∀ {A : Around} {E Q : Value → Shared → Prop} {s : Shared} {k : Nat} {xs : Array Value}, A.handled = none → At k s.heap → Of xs s.heap → xs[k]? = none →
    (∀ h' e, Heap.ExtBut it s.heap h' → (∃ o, h'.get? e = some o ∧ o.cls = .type "StopIteration") → E (.ref e) { s with heap := h' }) → wpAny (model P w) A (Builtin.SmallTypes.nextOf (.ref it)) Q E s
def sideT (P : Program) (w : World) (it l : Addr) : ZSide P w it l where
  At k h := h.IsTupleIter it l k
  Of xs h := h.IsTuple l xs
  move x k := x.at k
  stay x k := let ⟨o, ho, q⟩ := x; ⟨o, k o ho, q⟩
  there x := let ⟨o, ho, _, hd⟩ := x; ⟨o, ho, fun v q => by rw [hd] at q; cases q⟩
  next a b c d := RZ.nextOf_tuple_item a b c d
  over a b c d e := RZ.nextOf_tuple_end a b c d e
def sideL (P : Program) (w : World) (it l : Addr) : ZSide P w it l where
  At k h := h.IsListIter it l k
  Of xs h := h.IsList l xs
  move x k := x.at k
  stay x k := let ⟨o, ho, q⟩ := x; ⟨o, k o ho, q⟩
  there x := let ⟨o, ho, _, hd⟩ := x; ⟨o, ho, fun v q => by rw [hd] at q; cases q⟩
  next a b c d := wpAny_nextOf_list_item a b c d
  over a b c d e := wpAny_nextOf_list_end a b c d e
section
variable {P : Program} {w : World} {A : Around} {E : Value → Shared → Prop} {s : Shared} {z TI TO i1 i2 l1 l2 : Addr} {k : Nat} {xs ys : Array Value} {x y a b : Value}
theorem side_move {it l c : Addr} {h h' : Heap} {n : Nat} (S : ZSide P w it l) (q : S.At n h) (e : Heap.ExtBut c h h') (ne : it ≠ c) : S.At n h' := S.move q fun o z => e _ _ ne z
theorem side_stay {it l c : Addr} {h h' : Heap} {vs : Array Value} (S : ZSide P w it l) (q : S.Of vs h) (e : Heap.ExtBut c h h') (ne : l ≠ c) : S.Of vs h' := S.stay q fun o z => e _ _ ne z
theorem side_item (S1 : ZSide P w i1 l1) (S2 : ZSide P w i2 l2) {Q : Value → Shared → Prop} (D : ZipApart z TI TO i1 i2 l1 l2) (hz : IsZip s.heap z TI TO .none) (hTI : IsPair s.heap TI (.ref i1) (.ref i2)) (hTO : IsPair s.heap TO a b)
    (a1 : S1.At k s.heap) (a2 : S2.At k s.heap) (o1 : S1.Of xs s.heap) (o2 : S2.Of ys s.heap) (hx : xs[k]? = some x) (hy : ys[k]? = some y)
    (hQ : ∀ h', IsZip h' z TI TO (rawInt s.heap.objs.size) → IsPair h' TO x y → S1.At (k + 1) h' → S2.At (k + 1) h' → IsPair h' s.heap.objs.size x y → h'.objs.size = s.heap.objs.size + 1 → (∀ c o, c ≠ z → c ≠ TO → c ≠ i1 → c ≠ i2 → s.heap.get? c = some o → h'.get? c = some o) → Q (.ref s.heap.objs.size) { s with heap := h' }) :
    wpAny (model P w) A (Builtin.«zip.__next__» ⟨[.ref z], []⟩) (fun fin s' => ∃ v, fin = .done (.ret v) ∧ Q v s') E s := by
  show wpAny _ _ (field (.ref z) 2 >>= _) _ _ _
  refine wpAny_bind (wpAny_field hz rfl (x := .bool false) rfl (show wpAny _ _ (field (.ref z) 3 >>= _) _ _ _ from wpAny_bind (wpAny_field hz rfl (x := .ref TI) rfl (wpAny_bind (wpAny_seqItems hTI rfl ?_)))))
  show wpAny _ _ (Builtin.SmallTypes.ownedTupleIsFree (.ref z) >>= _) _ _ _
  unfold Builtin.SmallTypes.ownedTupleIsFree
  refine wpAny_bind (wpAny_bind (wpAny_field hz rfl (x := .none) rfl (wpAny_pure ?_)))
  rw [if_pos rfl]
  refine wpAny_bind (wpAny_rule (wpAny_bind (wpAny_field hz rfl (x := .ref TO) rfl (wpAny_bind (wpAny_setField_rec hz (by simp) fun g1 z1 s1 => ?_)))))
  have z1 : IsZip g1 z TI TO .ellipsis := z1
  refine wpAny_bind ?_
  simp only [List.zipIdx_cons, List.zipIdx_nil, List.forIn_cons, List.forIn_nil]
  -- the first side
  refine wpAny_bind (wpAny_bind (wpAny_onRaise (show wpAny _ _ (Builtin.SmallTypes.nextOf (.ref i1) >>= _) _ _ _ from wpAny_bind (S1.next (side_move S1 a1 s1.extBut D.i1z) (side_stay S1 o1 s1.extBut D.l1z) hx fun g2 b1 s2 => wpAny_pure ?_))))
  have p2 : IsPair g2 TO a b := s2.extBut _ _ D.TOi1 (s1.extBut _ _ D.TOz hTO)
  refine wpAny_bind (wpAny_seqItems p2 rfl (wpAny_bind (wpAny_updateSeq_pair p2 fun g3 p3 s3 => wpAny_bind (wpAny_letGo (wpAny_pure ?_)))))
  have p3 : IsPair g3 TO x b := p3
  -- the other side
  have m2 := side_move S2 (side_move S2 (side_move S2 a2 s1.extBut D.i2z) s2.extBut D.i12.symm) s3.extBut D.TOi2.symm
  have q2 := side_stay S2 (side_stay S2 (side_stay S2 o2 s1.extBut D.l2z) s2.extBut D.l2i1) s3.extBut D.l2TO
  refine wpAny_bind (wpAny_bind (wpAny_onRaise (show wpAny _ _ (Builtin.SmallTypes.nextOf (.ref i2) >>= _) _ _ _ from wpAny_bind (S2.next m2 q2 hy fun g4 b2 s4 => wpAny_pure ?_))))
  have p4 : IsPair g4 TO x b := s4.extBut _ _ D.TOi2 p3
  refine wpAny_bind (wpAny_seqItems p4 rfl (wpAny_bind (wpAny_updateSeq_pair p4 fun g5 p5 s5 => wpAny_bind (wpAny_letGo (wpAny_pure (wpAny_pure ?_))))))
  have p5 : IsPair g5 TO x y := p5
  refine wpAny_bind (wpAny_seqItems p5 rfl (wpAny_bind (wpAny_newTuple ?_)))
  have size : g5.objs.size = s.heap.objs.size := by rw [s5.1, s4.1, s3.1, s2.1, s1.1]
  have z5 : IsZip g5 z TI TO .ellipsis := s5.extBut _ _ D.TOz.symm (s4.extBut _ _ D.i2z.symm (s3.extBut _ _ D.TOz.symm (s2.extBut _ _ D.i1z.symm z1)))
  have old : ∀ c o, c ≠ z → c ≠ TO → c ≠ i1 → c ≠ i2 → s.heap.get? c = some o → g5.get? c = some o := fun c o n1 n2 n3 n4 e => s5.extBut _ _ n2 (s4.extBut _ _ n4 (s3.extBut _ _ n2 (s2.extBut _ _ n3 (s1.extBut _ _ n1 e))))
  have c1 : S1.At (k + 1) g5 := side_move S1 (side_move S1 (side_move S1 b1 s3.extBut D.TOi1.symm) s4.extBut D.i12) s5.extBut D.TOi1.symm
  have c2 : S2.At (k + 1) g5 := side_move S2 b2 s5.extBut D.TOi2.symm
  have lz : z < g5.objs.size := Heap.lt_size z5
  show wpAny _ _ (Builtin.SmallTypes.ownedTupleHandOut (.ref z) (.ref g5.objs.size) >>= _) _ _ _
  unfold Builtin.SmallTypes.ownedTupleHandOut
  have z6 : IsZip (g5.push { cls := .type "tuple", data := .seq #[x, y] }) z TI TO .ellipsis := Heap.get?_push_of_some _ z5
  refine wpAny_bind (wpAny_bind (wpAny_setField_rec z6 (by simp) fun g7 z7 s7 => ?_))
  have z7 : IsZip g7 z TI TO (rawInt g5.objs.size) := z7
  refine wpAny_setField_rec z7 (by simp) fun g8 z8 s8 => wpAny_pure ⟨_, rfl, ?_⟩
  have z8 : IsZip g8 z TI TO (rawInt g5.objs.size) := z8
  have up : ∀ c o, c ≠ z → g5.get? c = some o → g8.get? c = some o := fun c o n e => s8.extBut _ _ n (s7.extBut _ _ n (Heap.get?_push_of_some _ e))
  have t8 : IsPair g8 g5.objs.size x y := s8.extBut _ _ (Nat.ne_of_gt lz) (s7.extBut _ _ (Nat.ne_of_gt lz) (Heap.get?_push_size _ rfl))
  have n8 : g8.objs.size = g5.objs.size + 1 := by rw [s8.1, s7.1, Heap.size_push]
  show Q (.ref g5.objs.size) _
  rw [size] at z8 t8 n8 ⊢
  exact hQ g8 z8 (up _ _ D.TOz p5) (S1.move c1 fun o e => up _ o D.i1z e) (S2.move c2 fun o e => up _ o D.i2z e) t8 n8 fun c o n1 n2 n3 n4 e => up c o n1 (old c o n1 n2 n3 n4 e)
theorem side_end (S1 : ZSide P w i1 l1) (S2 : ZSide P w i2 l2) {Q : Fin → Shared → Prop} (hh : A.handled = none) (D : ZipApart z TI TO i1 i2 l1 l2) (hz : IsZip s.heap z TI TO .none) (hTI : IsPair s.heap TI (.ref i1) (.ref i2)) (hTO : IsPair s.heap TO a b)
    (a1 : S1.At k s.heap) (a2 : S2.At k s.heap) (o1 : S1.Of xs s.heap) (o2 : S2.Of ys s.heap) (hend : xs[k]? = none ∨ ys[k]? = none)
    (hE : ∀ h' e, (∀ c o, c ≠ z → c ≠ TO → c ≠ i1 → c ≠ i2 → s.heap.get? c = some o → h'.get? c = some o) → (∃ o, h'.get? e = some o ∧ o.cls = .type "StopIteration") → E (.ref e) { s with heap := h' }) :
    wpAny (model P w) A (Builtin.«zip.__next__» ⟨[.ref z], []⟩) Q E s := by
  show wpAny _ _ (field (.ref z) 2 >>= _) _ _ _
  refine wpAny_bind (wpAny_field hz rfl (x := .bool false) rfl (show wpAny _ _ (field (.ref z) 3 >>= _) _ _ _ from wpAny_bind (wpAny_field hz rfl (x := .ref TI) rfl (wpAny_bind (wpAny_seqItems hTI rfl ?_)))))
  show wpAny _ _ (Builtin.SmallTypes.ownedTupleIsFree (.ref z) >>= _) _ _ _
  unfold Builtin.SmallTypes.ownedTupleIsFree
  refine wpAny_bind (wpAny_bind (wpAny_field hz rfl (x := .none) rfl (wpAny_pure ?_)))
  rw [if_pos rfl]
  refine wpAny_bind (wpAny_rule (wpAny_bind (wpAny_field hz rfl (x := .ref TO) rfl (wpAny_bind (wpAny_setField_rec hz (by simp) fun g1 z1 s1 => ?_)))))
  have z1 : IsZip g1 z TI TO .ellipsis := z1
  refine wpAny_bind ?_
  simp only [List.zipIdx_cons, List.zipIdx_nil, List.forIn_cons, List.forIn_nil]
  refine wpAny_bind (wpAny_bind (wpAny_onRaise ?_))
  show wpAny _ _ (Builtin.SmallTypes.nextOf (.ref i1) >>= _) _ _ _
  have m1 := side_move S1 a1 s1.extBut D.i1z
  have q1 := side_stay S1 o1 s1.extBut D.l1z
  cases hx : xs[k]? with
  | none =>
    refine wpAny_bind (S1.over hh m1 q1 hx fun g2 e s2 ⟨oe, hoe, hce⟩ => ?_)
    have z2 : IsZip g2 z TI TO .ellipsis := s2 _ _ D.i1z.symm z1
    have ne : e ≠ z := fun q => by
      rw [q, z2] at hoe
      cases hoe
      simp at hce
    exact wpAny_setField_rec z2 (by simp) fun g3 _ s3 => hE g3 e (fun c o n1 _ n3 _ q => s3.extBut _ _ n1 (s2 _ _ n3 (s1.extBut _ _ n1 q))) ⟨oe, s3.extBut _ _ ne hoe, hce⟩
  | some x =>
    have hy : ys[k]? = none := hend.elim (fun q => by rw [hx] at q; cases q) id
    refine wpAny_bind (S1.next m1 q1 hx fun g2 b1 s2 => wpAny_pure ?_)
    have p2 : IsPair g2 TO a b := s2.extBut _ _ D.TOi1 (s1.extBut _ _ D.TOz hTO)
    refine wpAny_bind (wpAny_seqItems p2 rfl (wpAny_bind (wpAny_updateSeq_pair p2 fun g3 p3 s3 => wpAny_bind (wpAny_letGo (wpAny_pure ?_)))))
    have m2 := side_move S2 (side_move S2 (side_move S2 a2 s1.extBut D.i2z) s2.extBut D.i12.symm) s3.extBut D.TOi2.symm
    have q2 := side_stay S2 (side_stay S2 (side_stay S2 o2 s1.extBut D.l2z) s2.extBut D.l2i1) s3.extBut D.l2TO
    refine wpAny_bind (wpAny_bind (wpAny_onRaise (show wpAny _ _ (Builtin.SmallTypes.nextOf (.ref i2) >>= _) _ _ _ from wpAny_bind (S2.over hh m2 q2 hy fun g4 e s4 ⟨oe, hoe, hce⟩ => ?_))))
    have z4 : IsZip g4 z TI TO .ellipsis := s4 _ _ D.i2z.symm (s3.extBut _ _ D.TOz.symm (s2.extBut _ _ D.i1z.symm z1))
    have ne : e ≠ z := fun q => by
      rw [q, z4] at hoe
      cases hoe
      simp at hce
    exact wpAny_setField_rec z4 (by simp) fun g5 _ s5 => hE g5 e (fun c o n1 n2 n3 n4 q => s5.extBut _ _ n1 (s4 _ _ n4 (s3.extBut _ _ n2 (s2.extBut _ _ n3 (s1.extBut _ _ n1 q))))) ⟨oe, s5.extBut _ _ ne hoe, hce⟩
/-- next(a zip) -/
theorem side_nextI (S1 : ZSide P w i1 l1) (S2 : ZSide P w i2 l2) {Q : Option Value → Shared → Prop} (D : ZipApart z TI TO i1 i2 l1 l2) (hz : IsZip s.heap z TI TO .none) (hTI : IsPair s.heap TI (.ref i1) (.ref i2)) (hTO : IsPair s.heap TO a b)
    (a1 : S1.At k s.heap) (a2 : S2.At k s.heap) (o1 : S1.Of xs s.heap) (o2 : S2.Of ys s.heap) (hx : xs[k]? = some x) (hy : ys[k]? = some y)
    (hQ : ∀ h', IsZip h' z TI TO (rawInt s.heap.objs.size) → IsPair h' TO x y → S1.At (k + 1) h' → S2.At (k + 1) h' → IsPair h' s.heap.objs.size x y → h'.objs.size = s.heap.objs.size + 1 → (∀ c o, c ≠ z → c ≠ TO → c ≠ i1 → c ≠ i2 → s.heap.get? c = some o → h'.get? c = some o) → Q (some (.ref s.heap.objs.size)) { s with heap := h' }) :
    wpAny (model P w) A (pyNext (.ref z)) Q E s := by
  have ty : s.TypeIs (.ref z) "zip" := ⟨_, hz, rfl⟩
  unfold pyNext
  exact wpAny_bind (wpAny_attempt (wpAny_callSpecial?_slot (name := Str.ofString "__next__") ty F.slot_zip_next (wpAny_call_entry F.slot_zip_next ty F.entry_zip_next
    (side_item S1 S2 D hz hTI hTO a1 a2 o1 o2 hx hy fun h' c1 c2 c3 c4 c5 c6 c7 => wpAny_pure (hQ h' c1 c2 c3 c4 c5 c6 c7)) (F.args_zip_next_1 _))))
theorem side_nextE (S1 : ZSide P w i1 l1) (S2 : ZSide P w i2 l2) {Q : Option Value → Shared → Prop} (hh : A.handled = none) (D : ZipApart z TI TO i1 i2 l1 l2) (hz : IsZip s.heap z TI TO .none) (hTI : IsPair s.heap TI (.ref i1) (.ref i2)) (hTO : IsPair s.heap TO a b)
    (a1 : S1.At k s.heap) (a2 : S2.At k s.heap) (o1 : S1.Of xs s.heap) (o2 : S2.Of ys s.heap) (hend : xs[k]? = none ∨ ys[k]? = none)
    (hQ : ∀ h', (∀ c o, c ≠ z → c ≠ TO → c ≠ i1 → c ≠ i2 → s.heap.get? c = some o → h'.get? c = some o) → Q none { s with heap := h' }) : wpAny (model P w) A (pyNext (.ref z)) Q E s := by
  have ty : s.TypeIs (.ref z) "zip" := ⟨_, hz, rfl⟩
  unfold pyNext
  refine wpAny_bind (wpAny_attempt (wpAny_callSpecial?_slot (name := Str.ofString "__next__") ty F.slot_zip_next (wpAny_call_entry F.slot_zip_next ty F.entry_zip_next (side_end S1 S2 hh D hz hTI hTO a1 a2 o1 o2 hend fun h' e hk ⟨o, ho, hc⟩ => ?_) (F.args_zip_next_1 _))))
  exact wpAny_bind (wpAny_isInstance (T := "StopIteration") (b := true) ⟨o, ho, hc⟩ isSubtype_stop (wpAny_pure (hQ _ hk)))
end
/-! zip(a tuple, a list), made -/
abbrev zmH (h : Heap) (n l : Addr) (c : String) : Heap := h.push { cls := .type c, data := .fields #[.ref l, .int 0 0] }
abbrev zm1 (h : Heap) (l1 : Addr) : Heap := zmH h 0 l1 "tuple_iterator"
abbrev zm2 (h : Heap) (l1 l2 : Addr) : Heap := zmH (zm1 h l1) 0 l2 "list_iterator"
abbrev zm3 (h : Heap) (l1 l2 : Addr) : Heap := (zm2 h l1 l2).push { cls := .type "tuple", data := .seq #[.ref h.objs.size, .ref (zm1 h l1).objs.size] }
abbrev zm4 (h : Heap) (l1 l2 : Addr) : Heap := (zm3 h l1 l2).push { cls := .type "tuple", data := .seq #[.none, .none] }
abbrev zm5 (h : Heap) (l1 l2 : Addr) : Heap := (zm4 h l1 l2).push { cls := .type "zip", data := .fields #[.none, .bool false, .bool false, .ref (zm2 h l1 l2).objs.size, .ref (zm3 h l1 l2).objs.size] }
theorem meets_zipM (l1 l2 : Addr) (xs ys : Array Value) :
    Meets (Builtin.«zip.__new__» ⟨[.type "zip", .ref l1, .ref l2], []⟩) (fun _ R s => s.heap.IsTuple l1 xs ∧ s.heap.IsList l2 ys ∧ R (.ok (.ret (.ref (zm4 s.heap l1 l2).objs.size))) { s with heap := zm5 s.heap l1 l2 }) :=
  .of_wp fun prog w A R s h => by
    obtain ⟨hp, g, d, tk, os⟩ := s; obtain ⟨t1, t2, h⟩ := h
    have hsub := sub_zip
    have u1 : Heap.IsTuple (Shared.heap ⟨hp, g, d, tk, os⟩) l1 xs := t1
    have u2 : Heap.IsList (Shared.heap ⟨hp.push { cls := .type "tuple_iterator", data := .fields #[.ref l1, .int 0 0] }, g, d, tk, os⟩) l2 ys := Heap.IsList.push t2 _
    wp_walk using wpAny_pyIter_tuple u1, wpAny_pyIter_list u2
    exact ⟨_, rfl, h⟩
theorem call_zipM {prog : Program} {w : World} {A : Around} {E : Value → Shared → Prop} {s : Shared} {l1 l2 : Addr} {xs ys : Array Value} {Q : Value → Shared → Prop} (t1 : s.heap.IsTuple l1 xs) (t2 : s.heap.IsList l2 ys)
    (h : ∀ h', IsZip h' (s.heap.objs.size + 4) (s.heap.objs.size + 2) (s.heap.objs.size + 3) .none → IsPair h' (s.heap.objs.size + 2) (.ref s.heap.objs.size) (.ref (s.heap.objs.size + 1)) → IsPair h' (s.heap.objs.size + 3) .none .none →
      h'.IsTupleIter s.heap.objs.size l1 0 → h'.IsListIter (s.heap.objs.size + 1) l2 0 → (∀ c o, s.heap.get? c = some o → h'.get? c = some o) → Q (.ref (s.heap.objs.size + 4)) { s with heap := h' }) :
    wpAny (model prog w) A (call (.type "zip") [.ref l1, .ref l2]) Q E s := by
  refine callType_new F.called_zip (by decide) (F.typeCall_zip_2 _ _) (F.newCall_zip_2 _ _) (fun obj => F.args_object_init_3 obj _ _) F.entry_zip_new (meets_zipM l1 l2 xs ys) ⟨t1, t2, ?_⟩
  have n1 : (zm1 s.heap l1).objs.size = s.heap.objs.size + 1 := Heap.size_push ..
  have n2 : (zm2 s.heap l1 l2).objs.size = s.heap.objs.size + 2 := by rw [Heap.size_push, n1]
  have n3 : (zm3 s.heap l1 l2).objs.size = s.heap.objs.size + 3 := by rw [Heap.size_push, n2]
  have n4 : (zm4 s.heap l1 l2).objs.size = s.heap.objs.size + 4 := by rw [Heap.size_push, n3]
  have e5 : (zm5 s.heap l1 l2).get? (zm4 s.heap l1 l2).objs.size = some _ := Heap.get?_push_size _ rfl
  have e4 : (zm5 s.heap l1 l2).get? (zm3 s.heap l1 l2).objs.size = some _ := Heap.get?_push_of_some _ (Heap.get?_push_size _ rfl)
  have e3 : (zm5 s.heap l1 l2).get? (zm2 s.heap l1 l2).objs.size = some _ := Heap.get?_push_of_some _ (Heap.get?_push_of_some _ (Heap.get?_push_size _ rfl))
  have e2 : (zm5 s.heap l1 l2).get? (zm1 s.heap l1).objs.size = some _ := Heap.get?_push_of_some _ (Heap.get?_push_of_some _ (Heap.get?_push_of_some _ (Heap.get?_push_size _ rfl)))
  have e1 : (zm5 s.heap l1 l2).get? s.heap.objs.size = some _ := Heap.get?_push_of_some _ (Heap.get?_push_of_some _ (Heap.get?_push_of_some _ (Heap.get?_push_of_some _ (Heap.get?_push_size _ rfl))))
  show _ ∧ _
  rw [n2, n3, n4] at e5
  rw [n1, n2] at e3
  rw [n3] at e4
  rw [n1] at e2
  rw [n4]
  exact ⟨⟨_, e5, rfl⟩, h _ e5 e3 e4 ⟨_, e1, rfl, rfl⟩ ⟨_, e2, rfl, rfl⟩ fun c o q => Heap.get?_push_of_some _ (Heap.get?_push_of_some _ (Heap.get?_push_of_some _ (Heap.get?_push_of_some _ (Heap.get?_push_of_some _ q))))⟩
/-! as a walk -/
def ItzM (K : PySem.W.Frag) (a b : Addr) : It :=
  ⟨fun i H => ∃ (xs ys : List V) (x y : V), SqT K H a xs ∧ SqL K H b ys ∧ xs[i]? = some x ∧ ys[i]? = some y,
    fun i H v H' => ∃ T x y, v = .ref T ∧ H T = none ∧ H' = upd H T (.tup [x, y]) ∧ (∀ xs, SqT K H a xs → xs[i]? = some x) ∧ ∀ ys, SqL K H b ys → ys[i]? = some y,
    fun i H => ∃ xs ys : List V, SqT K H a xs ∧ SqL K H b ys ∧ (xs.length ≤ i ∨ ys.length ≤ i)⟩
theorem five_mem {c z TI TO i1 i2 : Addr} {p : Addr → Prop} (h : c ∈ [z, TI, TO, i1, i2]) (a : p z) (b : p TI) (d : p TO) (e : p i1) (f : p i2) : p c := by
  simp only [List.mem_cons, List.not_mem_nil, or_false] at h
  rcases h with rfl | rfl | rfl | rfl | rfl <;> assumption
theorem turn_zipM {P : Program} {w : World} {K : PySem.W.Frag} {elts : List Expr} {kk : Nat} {tpos : Pos} {a b z TI TO i1 i2 : Addr} (D : ZipApart z TI TO i1 i2 a b) :
    Turn P w K (.Tuple elts kk tpos) (ItzM K a b) [z, TI, TO, i1, i2] z (fun i h => IsZip h z TI TO .none ∧ IsPair h TI (.ref i1) (.ref i2) ∧ (∃ x y, IsPair h TO x y) ∧ (sideT P w i1 a).At i h ∧ (sideL P w i2 b).At i h) where
  mem := List.mem_cons_self
  obj := fun i h ⟨hz, hTI, ⟨x, y, hTO⟩, h1, h2⟩ c hc => five_mem (p := fun c => ∃ o, h.get? c = some o ∧ ∀ v, o.data ≠ .cell v) hc ⟨_, hz, fun v q => nomatch q⟩ ⟨_, hTI, fun v q => nomatch q⟩ ⟨_, hTO, fun v q => nomatch q⟩ ((sideT P w i1 a).there h1) ((sideL P w i2 b).there h2)
  keep := fun i h h' ⟨hz, hTI, ⟨x, y, hTO⟩, h1, h2⟩ k => ⟨k z (by simp) _ hz, k TI (by simp) _ hTI, ⟨x, y, k TO (by simp) _ hTO⟩, (sideT P w i1 a).move h1 fun o q => k i1 (by simp) o q, (sideL P w i2 b).move h2 fun o q => k i2 (by simp) o q⟩
  item := by
    intro X hP hw hK hc i pins s σ H E I hf st hg
    subst hP hw hK
    obtain ⟨hz, hTI, ⟨x0, y0, hTO⟩, h1, h2⟩ := st
    obtain ⟨xs, ys, x, y, hqx, hqy, hx, hy⟩ := hg
    obtain ⟨its, rv, p, _⟩ := I.tuple hqx
    obtain ⟨its2, rv2, p2, _⟩ := I.list hqy
    obtain ⟨u, hu, ru⟩ := rv.get hx
    obtain ⟨u2, hu2, ru2⟩ := rv2.get hy
    have there : ∀ c ∈ [z, TI, TO, i1, i2], c < s.heap.objs.size := fun c hcm => five_mem (p := fun c => c < s.heap.objs.size) hcm (Heap.lt_size hz) (Heap.lt_size hTI) (Heap.lt_size hTO) (let ⟨_, e, _⟩ := h1; Heap.lt_size e) (let ⟨_, e, _⟩ := h2; Heap.lt_size e)
    refine side_nextI (sideT X.prog X.w i1 a) (sideL X.prog X.w i2 b) D hz hTI hTO h1 h2 (xs := its.toArray) (ys := its2.toArray) p p2.isList (x := u) (y := u2) (by simpa using hu) (by simpa using hu2) fun h' z' TO' h1' h2' hT hsz hk => ?_
    refine ⟨_, rfl, wpAny_letOwnedTupleGo_zip (s := { s with heap := h' }) z' fun h'' z'' sb => ?_⟩
    have hT2 : h''.get? s.heap.objs.size = some { cls := .type "tuple", data := .seq #[u, u2] } := (sb.2 _ (Nat.ne_of_gt (there z (by simp)))).trans hT
    have I1 : Inv X pins σ (upd H s.heap.objs.size (.tup [x, y])) { s with heap := h'' } :=
      I.turnedNew (t' := s.toks) (ch := [z, TI, TO, i1, i2]) (fun c o hb q => (sb.2 c (fun q' => hb (by simp [q']))).trans (hk c o (fun q' => hb (by simp [q'])) (fun q' => hb (by simp [q'])) (fun q' => hb (by simp [q'])) (fun q' => hb (by simp [q'])) q)) hf (Nat.le_refl _)
        ⟨by show 2 ≤ sizeLine; decide, [u, u2], .cons ru (.cons ru2 .nil), ⟨_, hT2, rfl, _, rfl⟩⟩
    refine ⟨.ref s.heap.objs.size, _, I1, rfl, ⟨_, x, y, rfl, I.hok.fresh (Nat.le_refl _), rfl, fun l hl => by rw [I.tuple_inj hl hqx]; exact hx, fun l hl => by rw [I.list_inj hl hqy]; exact hy⟩, ⟨z'', (sb.2 _ D.TIz).trans (hk _ _ D.TIz D.TITO D.TIi1 D.TIi2 hTI), ⟨u, u2, (sb.2 _ D.TOz).trans TO'⟩,
      (sideT X.prog X.w i1 a).move h1' fun o q => (sb.2 _ D.i1z).trans q, (sideL X.prog X.w i2 b).move h2' fun o q => (sb.2 _ D.i2z).trans q⟩, fun c hcm => ?_⟩
    rw [upd_ne (Nat.ne_of_lt (there c hcm))]
    exact (hf c hcm).1
  done := by
    intro X hP hw hK hc i pins s σ H E I hf st hg
    subst hP hw hK
    obtain ⟨hz, hTI, ⟨x0, y0, hTO⟩, h1, h2⟩ := st
    obtain ⟨xs, ys, hqx, hqy, hend⟩ := hg
    obtain ⟨its, rv, p, _⟩ := I.tuple hqx
    obtain ⟨its2, rv2, p2, _⟩ := I.list hqy
    have e1 := rv.length
    have e2 := rv2.length
    have he : its.toArray[i]? = none ∨ its2.toArray[i]? = none := hend.imp (fun q => by simp; omega) fun q => by simp; omega
    exact side_nextE (sideT X.prog X.w i1 a) (sideL X.prog X.w i2 b) (I.ok.hd hc) D hz hTI hTO h1 h2 (xs := its.toArray) (ys := its2.toArray) p p2.isList he fun h' hk => ⟨rfl, I.turnedL (t' := s.toks) (ch := [z, TI, TO, i1, i2]) (fun c o hb q =>
      hk c o (fun q' => hb (by simp [q'])) (fun q' => hb (by simp [q'])) (fun q' => hb (by simp [q'])) (fun q' => hb (by simp [q'])) q) hf⟩
  self := fun A i s Q E st h => wpAny_pyIter_zip st.1 h
def iZipM (K : PySem.W.Frag) (ta : TA) : TI := fun σ H R => ta σ H fun vs H1 => ∃ a b xs ys, vs = [.ref a, .ref b] ∧ SqT K H1 a xs ∧ SqL K H1 b ys ∧ R (ItzM K a b) H1
theorem pi_zipM {X : Cx} {e e2 : Expr} {ta : TA} {p pos tpos : Pos} {elts : List Expr} {kk : Nat} (hg : Gl X "zip") (hm : X.mg "zip" = none) (ha : PA X [e, e2] ta)
    (hs : starEach [e, e2] X.env = (false, eval e X.env) :: starEach [e2] X.env := by rfl) (hpl : (backTo pos (starEach [e2] X.env)).any (·.1) = false := by rfl) : PI X (.Tuple elts kk tpos) (.Call (.Name "zip" p) [e, e2] [] pos) (iZipM X.K ta) := by
  refine ⟨fun pins s σ H R I h => ?_⟩
  refine Call_ (ld_blt I hg hm PyProof.Rows.boot_zip (PyProof.Rows.callWith_type1 (thn (ha.run pos pins s σ H _ I h) fun us s1 ⟨vs, H1, I1, r1, q1⟩ => ?_) hs hpl))
  obtain ⟨a, b, xs, ys, ex, hqx, hqy, q⟩ := q1
  subst ex
  cases r1 with
  | cons r rr =>
    cases rr with
    | cons r' rr =>
      cases rr
      cases r
      cases r'
      obtain ⟨its, rv, p1, _⟩ := I1.tuple hqx
      obtain ⟨its2, rv2, p2, _⟩ := I1.list hqy
      refine call_zipM (show s1.heap.IsTuple a its.toArray from p1) p2.isList fun h' hz hTI hTO h1 h2 hk => wpAny_pyIter_zip hz ?_
      have J : Inv X pins σ H1 { s1 with heap := h' } := I1.kept (t' := s1.toks) hk
      refine ⟨s1.heap.objs.size + 4, [s1.heap.objs.size + 4, s1.heap.objs.size + 2, s1.heap.objs.size + 3, s1.heap.objs.size, s1.heap.objs.size + 1], _, _, H1, rfl, J, turn_zipM (PySem.W.ktu_apart s1.heap.objs.size a b p1.lt p2.lt), ⟨hz, hTI, ⟨_, _, hTO⟩, h1, h2⟩, fun c hcm => ?_, q⟩
      have hle : s1.heap.objs.size ≤ c := five_mem (p := fun c => s1.heap.objs.size ≤ c) hcm (Nat.le_add_right _ _) (Nat.le_add_right _ _) (Nat.le_add_right _ _) (Nat.le_refl _) (Nat.le_add_right _ _)
      exact I1.fpOk hle (I1.hok.fresh hle)
theorem walk_zipM {K : PySem.W.Frag} {a b : Addr} {xs ys : List V} {n : Nat} (hn : n = min xs.length ys.length) : Walk (ItzM K a b) n (fun H => SqT K H a xs ∧ SqL K H b ys) (YPair (fun i => xs[i]?) (fun i => ys[i]?)) := by
  subst hn
  refine ⟨fun i _ hi q => ?_, fun _ q => ⟨xs, ys, q.1, q.2, by omega⟩, fun i H v H' _ q y => ?_⟩
  · have h1 : i < xs.length := by omega
    have h2 : i < ys.length := by omega
    exact ⟨xs, ys, xs[i], ys[i], q.1, q.2, by simp [h1], by simp [h2]⟩
  · obtain ⟨T, x, z, h1, h2, h3, h4, h5⟩ := y
    exact ⟨T, x, z, h1, h2, h3, h4 xs q.1, h5 ys q.2⟩
end Nf

set_option Elab.async false
set_option linter.all false
set_option maxRecDepth 100000
set_option maxHeartbeats 4000000
namespace Nf
open PySem PySem.Spec PyProof.Rows L2
variable {P : Program} {w : World} {K : PySem.W.Frag} {mg : Str → Option Value} {base : Heap}
theorem scTaken : FnScope ["_law_row", "_law_many", "_law_found", "_law_cell"] ["_law_row", "_law_many"] (defScope lTaken) := ⟨rfl, rfl, rfl, by decide +kernel, rfl, by decide +kernel, by decide +kernel⟩
def spTaken (K : PySem.W.Frag) : Sp := fun vs H Q _ => ∃ (r a : Addr) (ns : List Int) (n : Int), vs = [.ref r, .int n] ∧ RowAt K H r a ns ∧ 0 < n ∧ n < 1073741824 ∧
  ∀ v H', 0 ≤ v → v < n → RowAt K H' r a ns → Sx r H H' → Q (.int v) H'
theorem ok_taken {f : Addr} {fd : FuncData} (F : Fun K "_law_taken" "_law_taken" lTaken f fd) (B : Blt mg) : FnOk P w K mg base CX0 1 f fd ["_law_row", "_law_many"] (spTaken K) := by
  refine F.ok scTaken (fun vs H Q E h => ?_) (fun cdv A outer s H vs Q E hr h => ?_)
  · obtain ⟨r, a, ns, n, rfl, _⟩ := h
    rfl
  · obtain ⟨r, a, ns, n, rfl, hR, hn0, hn1, q⟩ := h
    refine ⟨_, pss_cons (ps_if (pt_cmpR op_gt (pe_ix ix_list (pv 0) pe_int (fun _ _ => rfl)) pe_int (nomark _))
        (pss_cons (ps_set (i := 2) scTaken.nd rfl (.inl rfl) (pe_op op_mod (pe_ix ix_list (pv 0) pe_int (fun _ _ => rfl)) (pv 1)))
        (pss_cons (ps_asg (pe_op op_fdiv (pe_ix ix_list (pv 0) pe_int (fun _ _ => rfl)) (pv 1)) (pg_sub (pv 0) pe_int set_list))
        (pss_one (ps_ret (pv 2))))) pss_nil)
      (pss_cons (ps_asg (pe_op op_add (pe_ix ix_list (pv 0) pe_int (fun _ _ => rfl)) pe_int) (pg_sub (pv 0) pe_int set_list))
      (pss_cons (ps_if (pt_cmpR op_gt (pe_ix ix_list (pv 0) pe_int (fun _ _ => rfl)) (pe_callB call_len_seq (by rfl) B.len PySem.boot_len (pa_cons (pe_ix ix_list (pv 0) pe_int (fun _ _ => rfl)) pa_nil)) (nomark _))
        (pss_cons (ps_asg (pe_op op_mod (pe_op op_add (pe_op op_mul (pe_ix ix_list (pv 0) pe_int (fun _ _ => rfl)) pe_int) pe_int) pe_int) (pg_sub (pv 0) pe_int set_list))
        (pss_one (ps_ret (pe_op op_mod (pe_op op_fdiv (pe_ix ix_list (pv 0) pe_int (fun _ _ => rfl)) pe_int) (pv 1))))) pss_nil)
      (pss_cons (ps_set (i := 3) scTaken.nd rfl (.inl rfl) (pe_ix ix_list (pe_ix ix_list (pv 0) pe_int (fun _ _ => rfl)) (pe_op op_sub (pe_ix ix_list (pv 0) pe_int (fun _ _ => rfl)) pe_int) (fun _ _ => rfl)))
      (pss_cons (ps_asg (pe_op op_mod (pe_op op_add (pe_op op_add (pe_op op_mul (pe_ix ix_list (pv 0) pe_int (fun _ _ => rfl)) pe_int) (pv 3)) pe_int) pe_int) (pg_sub (pv 0) pe_int set_list))
      (pss_cons (ps_asg (pe_ifExp (pt_cmpR op_ge (pv 3) (pe_op op_pow pe_int pe_int) (nomark _)) (pe_op op_fdiv (pv 3) (pv 1)) pe_int) (pg_sub (pv 0) pe_int set_list))
      (pss_one (ps_ret (pe_op op_mod (pv 3) (pv 1))))))))), ?_⟩
    obtain ⟨i, z, c, hrow, hi0, hz0, hz1⟩ := hR.row
    have hS : SqL K H r [.ref a, .int i, .int z, .int c] := SqL.of hrow
    -- row[3] > 0
    refine ⟨.ref r, rfl, r, _, 3, _, rfl, rfl, hS, rfl, _, _, rfl, rfl, _, rfl, ite2 (fun hc => ?_) (fun hc => ?_)⟩
    · refine ⟨.ref r, rfl, r, _, 3, _, rfl, rfl, hS, rfl, .int n, rfl, _, _, rfl, rfl, hn0, ?_⟩
      refine ⟨.ref r, rfl, r, _, 3, _, rfl, rfl, hS, rfl, .int n, rfl, _, _, rfl, rfl, ⟨hn0, hn1⟩, ?_⟩
      refine ⟨.ref r, rfl, r, _, 3, 3, rfl, rfl, hrow, rfl, ?_⟩
      refine ⟨_, rfl, ?_⟩
      exact q _ _ (Int.emod_nonneg _ (by omega)) (Int.emod_lt_of_pos _ hn0) (hR.set hi0 hz0 hz1) Sx.upd
    · -- row[1] = row[1] + 1
      refine ⟨.ref r, rfl, r, _, 1, _, rfl, rfl, hS, rfl, _, _, rfl, rfl, .ref r, rfl, r, _, 1, 1, rfl, rfl, hrow, rfl, ?_⟩
      have R1 : RowAt K (upd H r (.lst [.ref a, .int (i + 1), .int z, .int c])) r a ns := hR.set (by omega) hz0 hz1
      have S1 : SqL K (upd H r (.lst [.ref a, .int (i + 1), .int z, .int c])) r [.ref a, .int (i + 1), .int z, .int c] := SqL.of upd_same
      -- row[1] > len(row[0])
      refine ⟨.ref r, rfl, r, _, 1, _, rfl, rfl, S1, rfl, .ref r, rfl, r, _, 0, _, rfl, rfl, S1, rfl, a, _, rfl, .inl R1.sc, _, _, rfl, rfl, _, rfl, ite2 (fun hl => ?_) (fun hl => ?_)⟩
      · refine ⟨.ref r, rfl, r, _, 2, _, rfl, rfl, S1, rfl, _, _, rfl, rfl, .inl ⟨by omega, by omega⟩, _, _, rfl, rfl, _, _, rfl, rfl, (by show (0 : Int) < 2147483647; decide), ?_⟩
        refine ⟨.ref r, rfl, r, _, 2, 2, rfl, rfl, upd_same, rfl, ?_⟩
        refine ⟨.ref r, rfl, r, _, 2, _, rfl, rfl, SqL.of upd_same, rfl, _, _, rfl, rfl, ⟨by decide, by decide⟩, .int n, rfl, _, _, rfl, rfl, hn0, ?_⟩
        rw [upd_upd]
        exact q _ _ (Int.emod_nonneg _ (by omega)) (Int.emod_lt_of_pos _ hn0) (hR.set (by omega) (Int.emod_nonneg _ (by decide)) (Int.emod_lt_of_pos _ (by decide))) Sx.upd
      · have hlt : i.toNat < ns.length := by
          have h2 : ¬ ((((ns.map V.int).length : Nat) : Int) < i + 1) := fun z => hl (decide_eq_true z)
          rw [List.length_map] at h2
          omega
        refine ⟨.ref r, rfl, r, _, 0, _, rfl, rfl, S1, rfl, .ref r, rfl, r, _, 1, _, rfl, rfl, S1, rfl, _, _, rfl, rfl, a, _, _, .int ns[i.toNat], rfl, rfl, R1.sc, ?_, ?_⟩
        · have e : i + 1 - 1 = ((i.toNat : Nat) : Int) := by omega
          rw [e]
          exact atI_nat (int_getElem? (List.getElem?_eq_getElem hlt))
        -- row[2] = ..
        refine ⟨.ref r, rfl, r, _, 2, _, rfl, rfl, S1, rfl, _, _, rfl, rfl, .inl ⟨by omega, by omega⟩, .int ns[i.toNat], rfl, _, _, rfl, rfl, _, _, rfl, rfl, _, _, rfl, rfl, (by show (0 : Int) < 2147483647; decide), ?_⟩
        refine ⟨.ref r, rfl, r, _, 2, 2, rfl, rfl, upd_same, rfl, ?_⟩
        rw [upd_upd]
        -- row[3] = ..
        refine ⟨.int ns[i.toNat], rfl, _, _, rfl, rfl, ⟨by decide, by decide, by decide⟩, _, _, rfl, rfl, _, rfl, ite2 (fun hb => ?_) (fun hb => ?_)⟩
        · refine ⟨.int ns[i.toNat], rfl, .int n, rfl, _, _, rfl, rfl, ⟨hn0, hn1⟩, .ref r, rfl, r, _, 3, 3, rfl, rfl, upd_same, rfl, ?_⟩
          refine ⟨.int ns[i.toNat], rfl, .int n, rfl, _, _, rfl, rfl, hn0, ?_⟩
          rw [upd_upd]
          exact q _ _ (Int.emod_nonneg _ (by omega)) (Int.emod_lt_of_pos _ hn0) (hR.set (by omega) (Int.emod_nonneg _ (by decide)) (Int.emod_lt_of_pos _ (by decide))) Sx.upd
        · refine ⟨.ref r, rfl, r, _, 3, 3, rfl, rfl, upd_same, rfl, ?_⟩
          refine ⟨.int ns[i.toNat], rfl, .int n, rfl, _, _, rfl, rfl, hn0, ?_⟩
          rw [upd_upd]
          exact q _ _ (Int.emod_nonneg _ (by omega)) (Int.emod_lt_of_pos _ hn0) (hR.set (by omega) (Int.emod_nonneg _ (by decide)) (Int.emod_lt_of_pos _ (by decide))) Sx.upd
end Nf

set_option Elab.async false
set_option linter.all false
set_option maxRecDepth 100000
set_option maxHeartbeats 4000000
namespace Nf
open PySem PySem.Spec PyProof.Rows L2
variable {P : Program} {w : World} {K : PySem.W.Frag} {mg : Str → Option Value} {base : Heap}
/-! ### rises -/
theorem cut1 (xs : List V) : cutV xs (some 1) none = xs.drop 1 := by
  unfold cutV
  rw [show HT.sIx xs.length 0 (some 1) = min 1 xs.length from HT.sIx_nat xs.length 0 1, HT.sIx_none]
  cases xs with
  | nil => rfl
  | cons x r =>
    rw [show min 1 (x :: r).length = 1 by
      rw [List.length_cons]
      omega]
    show (List.take ((x :: r).length - 1) r) = r
    rw [List.length_cons, Nat.add_sub_cancel]
    exact List.take_length
def upB (ns : Tbl) : List Bool := (ns.zip (ns.drop 1)).map fun p => decide (p.1 < p.2)
theorem upB_rises (ns : Tbl) : (upB ns).all id = rises ns := by
  unfold upB rises
  rw [List.all_map]
  rfl
theorem upB_len (ns : Tbl) : (upB ns).length = min (ns.map V.int).length ((ns.map V.int).drop 1).length := by
  simp [upB]
theorem upB_at {ns : Tbl} {i : Nat} {x y : Int} (h1 : ns[i]? = some x) (h2 : (ns.drop 1)[i]? = some y) : (upB ns)[i]? = some (decide (x < y)) := by
  unfold upB
  rw [List.getElem?_map, List.getElem?_zip_eq_some (z := (x, y)) |>.mpr ⟨h1, h2⟩]
  rfl
theorem scRises : FnScope ["numbers", "low", "high"] ["numbers"] (defScope sRises) := ⟨rfl, rfl, rfl, by decide +kernel, rfl, by decide +kernel, by decide +kernel⟩
def spRises (K : PySem.W.Frag) : Sp := fun vs H Q _ => ∃ (a : Addr) (ns : List Int), vs = [.ref a] ∧ (SqL K H a (ns.map V.int) ∨ SqT K H a (ns.map V.int)) ∧ ns.length ≤ 100000 ∧ ∀ H', Same H H' → Q (.bl (rises ns)) H'
theorem ok_rises {f : Addr} {fd : FuncData} (F : Fun K "rises" "rises" sRises f fd) (B : Blt mg) : FnOk P w K mg base CX0 1 f fd ["numbers"] (spRises K) := by
  refine F.ok scRises (fun vs H Q E h => ?_) (fun cdv A outer s H vs Q E hr h => ?_)
  · obtain ⟨a, ns, rfl, _⟩ := h
    rfl
  · obtain ⟨a, ns, rfl, hS, hlen, q⟩ := h
    refine ⟨_, pss_one (ps_ret (pe_callB (cr_all rfl) (by rfl) B.all (by decide +kernel) (pa_cons
      (pe_lc (own := [("low", 1), ("high", 2)]) (g := gTup K 2 (gCons (gName 1) (gCons (gName 2) gNil))) (tt := tYes) (te := tOp (rI0 fun i j => .bl (decide (i < j))) (tVar 1) (tVar 2)) (by rfl) scRises.nd (RZ.pi_zipA (by rfl) B.zip (pa_cons (pv 0) (pa_cons (pe_slice (SlR.or sl_list sl_tupA) (pv 0) (po_some pe_int) po_none) pa_nil)))
        (blkOk_by (N := ["numbers", "low", "high"]) (sc := defScope sRises) (by decide +kernel)) (fun _ _ _ _ _ => pg_tup rfl (pgs_cons (pg_name (i := 1) (x := "low") scRises.nd rfl (.inl rfl) (.inr rfl)) (pgs_cons (pg_name (i := 2) (x := "high") scRises.nd rfl (.inl rfl) (.inr rfl)) pgs_nil)))
        (fun _ _ _ _ _ => pts_nil) (fun _ _ _ _ _ => pe_cmpR op_lt (pv 1) (pv 2) (nomark _))) pa_nil))), ?_⟩
    -- one turn, whatever is walked
    have turn : ∀ (H1 : Hp) (D : Addr) (i : Nat) (x : V) (H2 H3 : Hp), H1 D = none → i < (upB ns).length → (Same H1 H2 ∧ H2 D = some (.lst (((upB ns).take i).map V.bl))) → YPair (fun i => (ns.map V.int)[i]?) (fun i => ((ns.map V.int).drop 1)[i]?) i H2 x H3 →
        gTup K 2 (gCons (gName 1) (gCons (gName 2) gNil)) x (wipe [some (.ref a), none, none] [1, 2]) H3 fun σ2 H2 => wipe σ2 [1, 2] = wipe [some (.ref a), none, none] [1, 2] ∧ tYes σ2 H2 fun b H3 =>
          if b = true then tOp (rI0 fun i j => .bl (decide (i < j))) (tVar 1) (tVar 2) σ2 H3 fun y H4 => ∃ acc, H4 D = some (.lst acc) ∧ acc.length < sizeLine ∧ (Same H1 (upd H4 D (.lst (acc ++ [y]))) ∧ (upd H4 D (.lst (acc ++ [y]))) D = some (.lst (((upB ns).take (i + 1)).map V.bl)))
          else (Same H1 H3 ∧ H3 D = some (.lst (((upB ns).take (i + 1)).map V.bl))) := fun H1 D i x H2 H3 hDn hi p y => by
      obtain ⟨T, y1, y2, rfl, hT, rfl, g1, g2⟩ := y
      obtain ⟨n1, e1, rfl⟩ := getElem?_int g1
      rw [← List.map_drop] at g2
      obtain ⟨n2, e2, rfl⟩ := getElem?_int g2
      obtain ⟨sm, hD⟩ := p
      have nDT : D ≠ T := ne_of_none hD hT
      refine ⟨T, _, rfl, SqT.of upd_same, rfl, _, _, rfl, _, _, rfl, ⟨rfl, rfl, yesT ⟨_, rfl, _, rfl, n1, n2, rfl, rfl, _, (upd_ne nDT).trans hD, ?_, same_put (sm.trans (same_new hT)) hDn, ?_⟩⟩⟩
      · rw [List.length_map, List.length_take]
        have := upB_len ns
        simp only [List.length_map, List.length_drop] at this
        have hz : (100000 : Nat) < sizeLine := by decide
        omega
      · rw [upd_same, takeSucc (upB_at e1 e2), List.map_append]
        rfl
    have fin : ∀ (D : Addr) (H2 : Hp), Same H H2 → H2 D = some (.lst (((upB ns).take (upB ns).length).map V.bl)) → rAll K [.ref D] H2 Q := fun D H2 sm hD => by
      refine ⟨D, upB ns, rfl, SqL.of ?_, ?_⟩
      · rw [List.take_of_length_le (Nat.le_refl _)] at hD
        exact hD
      · rw [upB_rises]
        exact q _ sm
    rcases hS with hS | hS
    · refine ⟨.ref a, rfl, .ref a, rfl, 1, rfl, .inl ⟨a, _, rfl, hS, fun c nc => ?_⟩⟩
      have s1 := same_new (o := .lst (cutV (ns.map V.int) (some 1) none)) nc
      refine ⟨a, c, ns.map V.int, _, rfl, .inl ⟨s1.seq hS, SqL.of upd_same, fun D nD => ?_⟩⟩
      rw [cut1] at *
      exact lc_it (walk_zip (upB_len ns)) (fun i H2 => Same _ H2 ∧ H2 D = some (.lst (((upB ns).take i).map V.bl))) ⟨same_new nD, upd_same⟩ (fun i H2 _ p => ⟨p.1.seq (s1.seq hS), p.1.seq (SqL.of upd_same)⟩) (fun i x H2 H3 hi p y => turn _ D i x H2 H3 nD hi p y) (fun H2 p => fin D H2 (s1.trans p.1) p.2)
    · refine ⟨.ref a, rfl, .ref a, rfl, 1, rfl, .inr ⟨a, _, rfl, hS, fun hw => ?_, fun hw c nc => ?_⟩⟩
      · have e0 : (ns.map V.int).drop 1 = ns.map V.int := by
          have := hw.1
          rw [show HT.sIx (ns.map V.int).length 0 (some 1) = min 1 (ns.map V.int).length from HT.sIx_nat _ 0 1] at this
          cases ns with
          | nil => rfl
          | cons x r =>
            rw [List.length_map, List.length_cons] at this
            omega
        refine ⟨a, a, ns.map V.int, ns.map V.int, rfl, .inr ⟨hS, hS, fun D nD => ?_⟩⟩
        exact lc_it (Nf.walk_zipT (upB_len ns)) (fun i H2 => Same _ H2 ∧ H2 D = some (.lst (((upB ns).take i).map V.bl))) ⟨same_new nD, upd_same⟩ (fun i H2 _ p => ⟨sqt_same hS p.1, by rw [e0]; exact sqt_same hS p.1⟩) (fun i x H2 H3 hi p y => turn _ D i x H2 H3 nD hi p y) (fun H2 p => fin D H2 p.1 p.2)
      · have s1 := same_new (o := .tup (cutV (ns.map V.int) (some 1) none)) nc
        refine ⟨a, c, ns.map V.int, _, rfl, .inr ⟨sqt_same hS s1, SqT.of upd_same, fun D nD => ?_⟩⟩
        rw [cut1] at *
        exact lc_it (Nf.walk_zipT (upB_len ns)) (fun i H2 => Same _ H2 ∧ H2 D = some (.lst (((upB ns).take i).map V.bl))) ⟨same_new nD, upd_same⟩ (fun i H2 _ p => ⟨sqt_same (sqt_same hS s1) p.1, sqt_same (SqT.of upd_same) p.1⟩) (fun i x H2 H3 hi p y => turn _ D i x H2 H3 nD hi p y) (fun H2 p => fin D H2 (s1.trans p.1) p.2)
end Nf

set_option Elab.async false
set_option linter.all false
set_option maxRecDepth 100000
set_option maxHeartbeats 4000000
namespace Nf
open PySem PySem.Spec PyProof.Rows L2
variable {P : Program} {w : World} {K : PySem.W.Frag} {mg : Str → Option Value} {base : Heap}
/-! ### the class of parties -/
theorem ms_ : ¬ (("many" : Str) = "seats") := by decide +kernel
def pf (g s : Int) : List (Str × V) := putF "seats" (.int s) (putF "many" (.int g) [])
theorem pf_many (g s : Int) : (pf g s).lookup ("many" : Str) = some (.int g) := by
  unfold pf
  rw [lookup_putF, if_neg ms_, lookup_putF, if_pos rfl]
theorem pf_seats (g s : Int) : (pf g s).lookup ("seats" : Str) = some (.int s) := by
  unfold pf
  rw [lookup_putF, if_pos rfl]
theorem pf_no (g s : Int) {m : Str} (h1 : ¬ m = "seats") (h2 : ¬ m = "many") : (pf g s).lookup m = none := by
  unfold pf
  rw [lookup_putF, if_neg h1, lookup_putF, if_neg h2]
  all_goals rfl
def PartyV (C : Addr) (H : Hp) (p : Addr) (g s : Int) : Prop := ∃ dx, H p = some (.ins C dx (pf g s))
theorem PartyV.same {C : Addr} {H H' : Hp} {p : Addr} {g s : Int} (h : PartyV C H p g s) (z : Same H H') : PartyV C H' p g s := by
  obtain ⟨dx, e⟩ := h
  exact ⟨dx, z _ _ e⟩
structure Txt (K : PySem.W.Frag) (mg : Str → Option Value) (C : Addr) : Prop where
  cl : Cls K C
  nM : NoAttr K C "many"
  nS : NoAttr K C "seats"
  mgC : mg "Party" = some (.ref C)
  fg : ∃ t, mg "FEWEST_GUESTS" = some (.int 2 t)
  mo : ∃ t, mg "MOST_GUESTS" = some (.int 64 t)
  ss : ∃ t, mg "SMALLEST_SIZE" = some (.int 2 t)
  ls : ∃ t, mg "LARGEST_SIZE" = some (.int 8 t)
theorem scGuests : FnScope ["self"] ["self"] (defScope sGuests) := ⟨rfl, rfl, rfl, by decide +kernel, rfl, by decide +kernel, by decide +kernel⟩
def spGuests (C : Addr) : Sp := fun vs H Q _ => ∃ (p : Addr) (g s : Int), vs = [.ref p] ∧ PartyV C H p g s ∧ Q (.int g) H
theorem ok_guests {f C : Addr} {fd : FuncData} (F : Fun K "guests" "Party.guests" sGuests f fd) (T : Txt K mg C) : FnOk P w K mg base CX0 1 f fd ["self"] (spGuests C) := by
  refine F.ok scGuests (fun vs H Q E h => ?_) (fun cdv A outer s H vs Q E hr h => ?_)
  · obtain ⟨p, g, s, rfl, _⟩ := h
    rfl
  · obtain ⟨p, g, s, rfl, ⟨dx, hp⟩, q⟩ := h
    exact ⟨_, pss_one (ps_ret (pe_fld (pv 0) rfl)), _, rfl, p, C, dx, _, _, rfl, hp, T.cl, T.nM, pf_many _ _, q⟩
theorem scSize : FnScope ["self"] ["self"] (defScope sSize) := ⟨rfl, rfl, rfl, by decide +kernel, rfl, by decide +kernel, by decide +kernel⟩
def spSize (C : Addr) : Sp := fun vs H Q _ => ∃ (p : Addr) (g s : Int), vs = [.ref p] ∧ PartyV C H p g s ∧ Q (.int s) H
theorem ok_size {f C : Addr} {fd : FuncData} (F : Fun K "size" "Party.size" sSize f fd) (T : Txt K mg C) : FnOk P w K mg base CX0 1 f fd ["self"] (spSize C) := by
  refine F.ok scSize (fun vs H Q E h => ?_) (fun cdv A outer s H vs Q E hr h => ?_)
  · obtain ⟨p, g, s, rfl, _⟩ := h
    rfl
  · obtain ⟨p, g, s, rfl, ⟨dx, hp⟩, q⟩ := h
    exact ⟨_, pss_one (ps_ret (pe_fld (pv 0) rfl)), _, rfl, p, C, dx, _, _, rfl, hp, T.cl, T.nS, pf_seats _ _, q⟩
theorem scTables : FnScope ["self"] ["self"] (defScope sTables) := ⟨rfl, rfl, rfl, by decide +kernel, rfl, by decide +kernel, by decide +kernel⟩
def spTables (C : Addr) : Sp := fun vs H Q _ => ∃ (p : Addr) (g s : Int), vs = [.ref p] ∧ PartyV C H p g s ∧ 0 < s ∧ s < 1073741824 ∧ Q (.int (g / s)) H
theorem ok_tables {f C : Addr} {fd : FuncData} (F : Fun K "tables" "Party.tables" sTables f fd) (T : Txt K mg C) : FnOk P w K mg base CX0 1 f fd ["self"] (spTables C) := by
  refine F.ok scTables (fun vs H Q E h => ?_) (fun cdv A outer s H vs Q E hr h => ?_)
  · obtain ⟨p, g, s, rfl, _⟩ := h
    rfl
  · obtain ⟨p, g, s, rfl, ⟨dx, hp⟩, h0, h1, q⟩ := h
    exact ⟨_, pss_one (ps_ret (pe_op op_fdiv (pe_fld (pv 0) rfl) (pe_fld (pv 0) rfl))), _, rfl, p, C, dx, _, _, rfl, hp, T.cl, T.nM, pf_many _ _, _, rfl, p, C, dx, _, _, rfl, hp, T.cl, T.nS, pf_seats _ _, _, _, rfl, rfl, ⟨h0, h1⟩, q⟩
/-- a party's bounds -/
structure IsParty (g s : Int) : Prop where
  g2 : 2 ≤ g
  g64 : g ≤ 64
  s2 : 2 ≤ s
  s8 : s ≤ 8
  dv : g % s = 0
theorem scIsParty : FnScope ["guests", "size"] ["guests", "size"] (defScope sIsParty) := ⟨rfl, rfl, rfl, by decide +kernel, rfl, by decide +kernel, by decide +kernel⟩
def spIsParty : Sp := fun vs H Q _ => ∃ (g s : Int), vs = [.int g, .int s] ∧ ∀ b, (b = true ↔ IsParty g s) → Q (.bl b) H
theorem ok_isParty {f C : Addr} {fd : FuncData} (F : Fun K "is_party" "is_party" sIsParty f fd) (T : Txt K mg C) : FnOk P w K mg base CX0 1 f fd ["guests", "size"] spIsParty := by
  obtain ⟨t1, m1⟩ := T.fg
  obtain ⟨t2, m2⟩ := T.mo
  obtain ⟨t3, m3⟩ := T.ss
  obtain ⟨t4, m4⟩ := T.ls
  refine F.ok scIsParty (fun vs H Q E h => ?_) (fun cdv A outer s H vs Q E hr h => ?_)
  · obtain ⟨g, s, rfl, _⟩ := h
    rfl
  · obtain ⟨g, z, rfl, q⟩ := h
    refine ⟨_, pss_cons (ps_if (pt_not (pt_chain op_le op_le (pe_glob (v := .int 2) (by rfl) m1 ⟨_, rfl⟩) (pv 0) (pe_glob (v := .int 64) (by rfl) m2 ⟨_, rfl⟩))) (pss_one (ps_ret pe_bl)) pss_nil)
      (pss_cons (ps_if (pt_not (pt_chain op_le op_le (pe_glob (v := .int 2) (by rfl) m3 ⟨_, rfl⟩) (pv 1) (pe_glob (v := .int 8) (by rfl) m4 ⟨_, rfl⟩))) (pss_one (ps_ret pe_bl)) pss_nil)
      (pss_one (ps_ret (pe_cmpR op_eq (pe_op op_mod (pv 0) (pv 1)) pe_int (nomark _))))), ?_⟩
    have no : ¬ IsParty g z → Q (.bl false) H := fun h => q false ⟨(fun e => by cases e), fun e => absurd e h⟩
    refine ⟨.int g, rfl, 2, g, rfl, rfl, _, rfl, ite2 (fun h1 => ?_) (fun h1 => ?_)⟩
    · have h1 := of_decide_eq_true h1
      refine ⟨g, 64, rfl, rfl, _, rfl, ite2 (fun h2 => ?_) (fun h2 => ?_)⟩
      · exact no fun z => by
          have := z.g64
          simp [this] at h2
      · have h2 : g ≤ 64 := by simpa using h2
        refine ⟨.int z, rfl, 2, z, rfl, rfl, _, rfl, ite2 (fun h3 => ?_) (fun h3 => ?_)⟩
        · have h3 := of_decide_eq_true h3
          refine ⟨z, 8, rfl, rfl, _, rfl, ite2 (fun h4 => ?_) (fun h4 => ?_)⟩
          · exact no fun y => by
              have := y.s8
              simp [this] at h4
          · have h4 : z ≤ 8 := by simpa using h4
            refine ⟨.int g, rfl, .int z, rfl, g, z, rfl, rfl, (by omega : (0 : Int) < z), rfl, ?_⟩
            refine q _ ⟨fun e => ?_, fun e => ?_⟩
            · have e' := V.int.inj (of_decide_eq_true e)
              exact ⟨h1, h2, h3, h4, e'⟩
            · exact decide_eq_true (congrArg V.int e.dv)
        · refine ⟨_, rfl, iteT ?_⟩
          exact no fun y => h3 (decide_eq_true y.s2)
    · refine ⟨_, rfl, iteT ?_⟩
      exact no fun y => h1 (decide_eq_true y.g2)
theorem scInit : FnScope ["self", "guests", "size"] ["self", "guests", "size"] (defScope sInit) := ⟨rfl, rfl, rfl, by decide +kernel, rfl, by decide +kernel, by decide +kernel⟩
def spInit (C : Addr) : Sp := fun vs H Q _ => ∃ (p dx : Addr) (g s : Int), vs = [.ref p, .int g, .int s] ∧ H p = some (.ins C dx []) ∧ IsParty g s ∧ Q .non (upd H p (.ins C dx (pf g s)))
theorem ok_init {f fP C : Addr} {fd fdP : FuncData} (F : Fun K "__init__" "Party.__init__" sInit f fd) (T : Txt K mg C) (FP : Fun K "is_party" "is_party" sIsParty fP fdP) (bP : Binds K fdP ["guests", "size"] []) (gP : mg "is_party" = some (.ref fP)) :
    FnOk P w K mg base CX0 2 f fd ["self", "guests", "size"] (spInit C) := by
  have GP : FnOk P w K mg base CX0 1 fP fdP ["guests", "size"] spIsParty := ok_isParty FP T
  refine F.ok scInit (fun vs H Q E h => ?_) (fun cdv A outer s H vs Q E hr h => ?_)
  · obtain ⟨p, dx, g, s, rfl, _⟩ := h
    rfl
  · obtain ⟨p, dx, g, z, rfl, hp, hI, q⟩ := h
    refine ⟨_, pss_cons (ps_if (pt_not (pt_val (pe_call GP hr (by rfl) gP FP.kp bP .nil pass0 (pa_cons (pv 1) (pa_cons (pv 2) pa_nil))))) pss_never pss_nil)
      (pss_cons (ps_fld (pv 0) (pv 1) rfl) (pss_one (ps_fld (pv 0) (pv 2) rfl))), ?_⟩
    refine ⟨.int g, rfl, .int z, rfl, g, z, rfl, fun b hb => ?_⟩
    have eb : b = true := hb.mpr hI
    subst eb
    refine ⟨_, rfl, iteF ?_⟩
    refine ⟨.int g, rfl, _, rfl, p, C, dx, [], rfl, hp, T.cl, T.nM, (by show 0 < 1000; decide), ?_⟩
    refine ⟨.int z, rfl, _, rfl, p, C, dx, _, rfl, upd_same, T.cl, T.nS, (by show 1 < 1000; decide), ?_⟩
    rw [upd_upd]
    exact q
end Nf

set_option Elab.async false
set_option linter.all false
set_option maxRecDepth 100000
set_option maxHeartbeats 4000000
namespace Nf
open PySem PySem.Spec PyProof.Rows L2
variable {P : Program} {w : World} {K : PySem.W.Frag} {mg : Str → Option Value} {base : Heap}
/-! ### mixed -/
theorem scMixed : FnScope ["_law_row", "_law_some_here", "_law_left", "_law_found"] ["_law_row", "_law_some_here"] (defScope lMixed) := ⟨rfl, rfl, rfl, by decide +kernel, rfl, by decide +kernel, by decide +kernel⟩
def spMixed (K : PySem.W.Frag) : Sp := fun vs H Q _ => ∃ (r a b : Addr) (ns l : List Int), vs = [.ref r, .ref b] ∧ RowAt K H r a ns ∧ SqL K H b (l.map V.int) ∧ l.length ≤ 100000 ∧
  ∀ (q : Addr) (H' : Hp) (l' : List Int), RowAt K H' r a ns → Sx r H H' → H q = none → H' q = some (.lst (l'.map V.int)) → l'.Perm l → Q (.ref q) H'
theorem eqv_nil (l : List Int) : PyData.eqv (.list (l.map .int)) (.list []) = l.isEmpty := by
  cases l <;> simp [PyData.eqv, PyData.eqvAll]
theorem shNil : SeqAt.shaped (.list []) = true := by decide +kernel
theorem erase_map : ∀ (l : List Int) (j : Nat), (l.map V.int).eraseIdx j = (l.eraseIdx j).map V.int
  | [], _ => rfl
  | _ :: _, 0 => rfl
  | x :: l, j + 1 => by
    simp only [List.map_cons, List.eraseIdx_cons_succ, erase_map l j]
theorem seqIx {l : List Int} {v : Int} (h0 : 0 ≤ v) (h1 : v < l.length) : seqIndex? v (l.map V.int).length = some v.toNat := by
  unfold seqIndex?
  rw [List.length_map]
  have h2 : ¬ v < 0 := by omega
  simp [h2]
  omega
theorem ok_mixed {f fT : Addr} {fd fdT : FuncData} (F : Fun K "_law_mixed" "_law_mixed" lMixed f fd) (B : Blt mg) (FT : Fun K "_law_taken" "_law_taken" lTaken fT fdT) (bT : Binds K fdT ["_law_row", "_law_many"] []) (gT : mg "_law_taken" = some (.ref fT)) : FnOk P w K mg base CX0 2 f fd ["_law_row", "_law_some_here"] (spMixed K) := by
  have GT : FnOk P w K mg base CX0 1 fT fdT ["_law_row", "_law_many"] (spTaken K) := ok_taken FT B
  refine F.ok scMixed (fun vs H Q E h => ?_) (fun cdv A outer s H vs Q E hr h => ?_)
  · obtain ⟨r, a, b, ns, l, rfl, _⟩ := h
    rfl
  · obtain ⟨r, a, b, ns, l, rfl, hR, hS, hlen, q⟩ := h
    refine ⟨_, pss_cons (ps_set (i := 2) scMixed.nd rfl (.inl rfl) (pe_callTy call_list_of (by rfl) B.list (by decide +kernel) (pa_cons (pv 1) pa_nil)))
      (pss_cons (ps_set (i := 3) scMixed.nd rfl (.inl rfl) (pe_lst pa_nil))
      (pss_cons (ps_while PassesOwn.never (pt_cmpR (op_neD hr.units) (pv 2) (pe_lst pa_nil) (nomark _))
        (pss_one (ps_expr (pe_bm PySem.F.plainAttrs_list PySem.F.slot_list_append PySem.F.type_list_append mt_append (pv 3) (pa_cons
          (pe_bm PySem.F.plainAttrs_list PySem.F.slot_list_pop PySem.F.type_list_pop mt_popAt (pv 2) (pa_cons (pe_call GT hr (by rfl) gT FT.kp bT .nil pass0 (pa_cons (pv 0) (pa_cons (pe_callB call_len_seq (by rfl) B.len PySem.boot_len (pa_cons (pv 2) pa_nil)) pa_nil))) pa_nil)) pa_nil)))))
      (pss_one (ps_ret (pv 3))))), ?_⟩
    have big : (100000 : Nat) < sizeLine := by decide
    refine ⟨.ref b, rfl, b, _, rfl, .inl hS, fun c nc => ?_⟩
    have s1 : Same H (upd H c (.lst (l.map V.int))) := same_new nc
    refine ⟨Nat.zero_le _, fun d nd => ?_⟩
    have s2 := s1.trans (same_new (o := .lst []) nd)
    have hcd : c ≠ d := ne_of_none upd_same nd
    have nd0 : H d = none := s1.free nd
    obtain ⟨xr0, hxr0⟩ := hR.lst
    have ncr : c ≠ r := fun e => by
      rw [e, hxr0] at nc
      cases nc
    have ndr : d ≠ r := fun e => by
      rw [e, hxr0] at nd0
      cases nd0
    refine while_by (fun σ H2 => ∃ (m k : List Int), σ = [some (.ref r), some (.ref b), some (.ref c), some (.ref d)] ∧ RowAt K H2 r a ns ∧ Sx r H H2 ∧ H2 c = some (.lst (m.map V.int)) ∧ H2 d = some (.lst (k.map V.int)) ∧ (k ++ m).Perm l)
      (fun σ H2 => match H2 c with | some (.lst xs) => xs.length | _ => 0) ⟨l, [], rfl, hR.keep s2, same_sx s2, ?_, upd_same, by simp⟩ (fun σ H2 h => ?_) (fun σ H2 Q1 Q2 hq h => ?_)
    · rw [upd_ne hcd]
      exact upd_same
    · obtain ⟨m, k, rfl, R2, sx, hc, hd, hp⟩ := h
      obtain ⟨xr, hxr⟩ := R2.lst
      have hml : k.length + m.length = l.length := by
        rw [← hp.length_eq, List.length_append]
      refine ⟨.ref c, rfl, Nat.zero_le _, fun e ne => ?_⟩
      have s3 : Same H2 (upd H2 e (.lst [])) := same_new ne
      refine ⟨.list (m.map .int), .list [], .lst (SqL.of (s3 _ _ hc)) (dpAll_ints m), .lst (SqL.of upd_same) .nil, shInts m, shNil, _, rfl, ?_⟩
      rw [eqv_nil]
      cases m with
      | nil =>
        refine iteF ?_
        have hkp : k.Perm l := by simpa using hp
        exact ⟨.ref d, rfl, q d _ k (R2.keep s3) (sx.trans (same_sx s3)) nd0 (s3 _ _ hd) hkp⟩
      | cons m0 m' =>
        refine iteT ?_
        refine ⟨.ref d, rfl, .inl ⟨rfl, _, SqL.of (s3 _ _ hd)⟩, .ref c, rfl, .inl ⟨rfl, _, SqL.of (s3 _ _ hc)⟩, .ref r, rfl, .ref c, rfl, c, _, rfl, .inl (SqL.of (s3 _ _ hc)), r, a, ns, _, rfl, R2.keep s3, ?_, ?_, fun v H4 v0 v1 R4 s4 => ?_⟩
        · rw [List.length_map, List.length_cons]
          omega
        · rw [List.length_map]
          omega
        rw [List.length_map] at v1
        have hc4 := s4 _ _ ncr (s3 _ _ hc)
        have hd4 := s4 _ _ ndr (s3 _ _ hd)
        have hlt : v.toNat < (m0 :: m').length := by omega
        refine ⟨c, _, v, v.toNat, .int (m0 :: m')[v.toNat], rfl, rfl, hc4, by omega, ?_, seqIx v0 v1, int_getElem? (List.getElem?_eq_getElem hlt), ?_⟩
        · rw [List.length_cons] at *
          omega
        have hd5 : (upd H4 c (.lst (((m0 :: m').map V.int).eraseIdx v.toNat))) d = some (.lst (k.map V.int)) := by
          rw [upd_ne hcd.symm]
          exact hd4
        refine ⟨d, _, _, rfl, rfl, hd5, ?_, ?_⟩
        · rw [List.length_map]
          rw [List.length_cons] at hml
          omega
        refine ⟨⟨(m0 :: m').eraseIdx v.toNat, k ++ [(m0 :: m')[v.toNat]], rfl, ?_, ?_, ?_, ?_, ?_⟩, ?_⟩
        · exact row_put hR nd0 (row_put hR nc R4)
        · exact sx_put (sx_put ((sx.trans (same_sx s3)).trans s4) nc) nd0
        · rw [upd_ne hcd, upd_same, erase_map]
        · rw [upd_same, List.map_append]
          rfl
        · refine List.Perm.trans ?_ hp
          rw [List.append_assoc]
          exact List.Perm.append_left _ (perm_erase hlt)
        · show (match (upd (upd H4 c _) d _) c with | some (.lst xs) => xs.length | _ => 0) < (match H2 c with | some (.lst xs) => xs.length | _ => 0)
          rw [upd_ne hcd, upd_same, hc]
          show (((m0 :: m').map V.int).eraseIdx v.toNat).length < ((m0 :: m').map V.int).length
          rw [erase_map, List.length_map, List.length_map, List.length_eraseIdx_of_lt hlt]
          simp
    · obtain ⟨v, e, z, h⟩ := h
      exact ⟨v, e, z, fun p np => by
        obtain ⟨d1, e1, h1, h2, h3, h4, k1, ek, hk⟩ := h p np
        exact ⟨d1, e1, h1, h2, h3, h4, k1, ek, hq _ _ hk⟩⟩
end Nf

set_option Elab.async false
set_option linter.all false
set_option maxRecDepth 100000
set_option maxHeartbeats 4000000
namespace Nf
open PySem PySem.Spec PyProof.Rows L2
variable {P : Program} {w : World} {K : PySem.W.Frag} {mg : Str → Option Value} {base : Heap}
/-! ### the law's pairs, known, new -/
theorem scLPairs : FnScope ["_law_tables", "_law_found", "_law_table", "_law_k", "_law_other"] ["_law_tables"] (defScope lPairs) := ⟨rfl, rfl, rfl, by decide +kernel, rfl, by decide +kernel, by decide +kernel⟩
def spLPairs : Sp := fun vs H Q _ => ∃ (x : V) (r : Rnd), vs = [x] ∧ RndV H x r ∧ (pairsR r).length ≤ 100000 ∧ (∀ t ∈ r, t.length ≤ 100000) ∧
  ∀ H' q ys, Same H H' → H q = none → H' q = some (.lst ys) → Paired (PairV H') ys (pairsR r) → Q (.ref q) H'
theorem ok_lpairs {f : Addr} {fd : FuncData} (F : Fun K "_law_pairs" "_law_pairs" lPairs f fd) (B : Blt mg) : FnOk P w K mg base CX0 1 f fd ["_law_tables"] spLPairs := by
  refine F.ok scLPairs (fun vs H Q E h => ?_) (fun cdv A outer s H vs Q E hr h => ?_)
  · obtain ⟨x, r, rfl, _⟩ := h
    rfl
  · obtain ⟨x, r, rfl, ⟨p, xs, rfl, hp, hxs⟩, hlen, htl, q⟩ := h
    refine ⟨_, pss_cons (ps_set (i := 1) scLPairs.nd rfl (.inl rfl) (pe_lst pa_nil))
      (pss_cons (ps_for PassesOwn.never rfl (pi_tup (pv 0)) (pg_name (i := 2) scLPairs.nd rfl (.inl rfl))
        (pss_one (ps_for PassesOwn.never rfl (pi_range1 (by rfl) B.range (pa_cons (pe_callB call_len_seq (by rfl) B.len PySem.boot_len (pa_cons (pv 2) pa_nil)) pa_nil)) (pg_name (i := 3) scLPairs.nd rfl (.inl rfl))
          (pss_one (ps_for PassesOwn.never rfl (pi_tup (pe_slice sl_tupA (pv 2) (po_some (pe_op op_add (pv 3) pe_int)) po_none)) (pg_name (i := 4) scLPairs.nd rfl (.inl rfl))
            (pss_one (ps_expr (pe_bm PySem.F.plainAttrs_list PySem.F.slot_list_append PySem.F.type_list_append mt_append (pv 1) (pa_cons (pe_tup (pa_cons (pe_ix ix_tup (pv 2) (pv 3) (fun _ _ => rfl)) (pa_cons (pv 4) pa_nil))) pa_nil)))))))))
      (pss_one (ps_ret (pv 1)))), ?_⟩
    have hxl := paired_len hxs
    have hpl : (pairsR r).length < sizeLine := Nat.lt_of_le_of_lt hlen (by decide)
    refine ⟨Nat.zero_le _, fun D nD => ?_⟩
    have s0 : Same H (upd H D (.lst [])) := same_new nD
    refine ⟨.ref p, rfl, p, rfl, ⟨_, SqT.of (s0 _ _ hp)⟩, ?_⟩
    refine for_it (walk_tup (xs := xs)) (fun i σ H2 => ∃ (y2 y3 y4 : Option V), σ = [some (.ref p), some (.ref D), y2, y3, y4] ∧ PrI H D r H2 (pairsR (r.drop i))) ⟨none, none, none, rfl, s0, [], [], upd_same, .nil, by simp⟩ (fun i σ H2 _ h => ?_) (fun i x σ H2 H3 hi hI y => ?_) (fun σ H2 hI => ?_)
    · obtain ⟨_, _, _, _, h⟩ := h
      exact SqT.of (h.1 _ _ hp)
    · obtain ⟨y2, y3, y4, rfl, hI⟩ := hI
      obtain ⟨rfl, hx⟩ := y
      obtain ⟨t, ht, a, rfl, ha⟩ := paired_getL hxs hx
      have haT : ∀ {H' : Hp}, Same H H' → SqT K H' a (t.map V.int) := fun sm => SqT.of (sm _ _ ha)
      have ht5 := htl t (List.mem_of_getElem? ht)
      refine ⟨.ref a, rfl, a, _, rfl, .inr (haT hI.1), _, rfl, by omega, by rw [List.length_map]; omega, ?_⟩
      refine for_it walk_range (fun j σ H2 => ∃ (y3 y4 : Option V), σ = [some (.ref p), some (.ref D), some (.ref a), y3, y4] ∧ PrI H D r H2 (pairsT (t.drop j) ++ pairsR (r.drop (i + 1)))) ⟨y3, y4, rfl, hI.rem (by rw [List.drop_zero]; exact pairsR_drop ht)⟩ (fun _ _ _ _ _ => trivial) (fun j x σ H2 H3 hj hJ y => ?_) (fun σ H2 hJ => ?_)
      · obtain ⟨y3, y4, rfl, hJ⟩ := hJ
        obtain ⟨rfl, rfl⟩ := y
        have hjt : j < t.length := by
          rw [List.length_map] at hj
          omega
        have hn : t[j]? = some t[j] := List.getElem?_eq_getElem hjt
        generalize t[j] = n at hn
        have ej : (0 : Int) + (j : Nat) = ((j : Nat) : Int) := by omega
        have e1 : (0 : Int) + (j : Nat) + 1 = ((j + 1 : Nat) : Int) := by omega
        refine ⟨.ref a, rfl, .int (0 + (j : Nat)), rfl, _, _, rfl, rfl, _, rfl, a, _, rfl, haT hJ.1, fun hw => ?_, fun hw c nc => ?_⟩
        · have hz := hw.1
          rw [e1, HT.sIx_nat] at hz
          rw [List.length_map] at hz
          omega
        rw [e1, cutFrom, ← List.map_drop]
        have hJ2 := hJ.keep (same_new (o := .tup ((t.drop (j + 1)).map V.int)) nc)
        refine ⟨c, rfl, ⟨_, SqT.of upd_same⟩, ?_⟩
        refine for_it (walk_tup (xs := (t.drop (j + 1)).map V.int)) (fun m σ H2 => ∃ y4 : Option V, σ = [some (.ref p), some (.ref D), some (.ref a), some (.int (0 + (j : Nat))), y4] ∧ PrI H D r H2 (((t.drop (j + 1)).drop m).map (fun b => (n, b)) ++ (pairsT (t.drop (j + 1)) ++ pairsR (r.drop (i + 1)))) ∧ H2 c = some (.tup ((t.drop (j + 1)).map V.int)))
          ⟨y4, rfl, hJ2.rem (by rw [List.drop_zero, pairsT_drop hn, List.append_assoc]), upd_same⟩ (fun m σ H2 _ h => ?_) (fun m x σ H2 H3 hm hM y => ?_) (fun σ H2 hM => ?_)
        · obtain ⟨_, _, _, h⟩ := h
          exact SqT.of h
        · obtain ⟨y4, rfl, ⟨sm, acc, ps, hD, hps, e⟩, hc⟩ := hM
          obtain ⟨rfl, hx⟩ := y
          obtain ⟨b, hb, rfl⟩ := getElem?_int hx
          refine ⟨.ref D, rfl, .inl ⟨rfl, _, SqL.of hD⟩, .ref a, rfl, .int (0 + (j : Nat)), rfl, a, _, _, .int n, rfl, rfl, haT sm, ?_, .int b, rfl, two_le, fun T2 nT2 => ?_⟩
          · rw [ej]
            exact atI_nat (int_getElem? hn)
          have nDT : D ≠ T2 := ne_of_none hD nT2
          rw [dropCons hb, List.map_cons, List.cons_append] at e
          have s3 : Same H3 (upd H3 T2 (.tup [.int n, .int b])) := same_new nT2
          refine ⟨D, acc, _, rfl, rfl, (upd_ne nDT).trans hD, ?_, ⟨_, rfl, ⟨same_put (sm.trans s3) nD, acc ++ [.ref T2], ps ++ [(n, b)], upd_same, ?_, ?_⟩, ?_⟩⟩
          · have hl : ps.length ≤ (pairsR r).length := by
              rw [← e, List.length_append]
              omega
            have := paired_len hps
            omega
          · have keepT : ∀ {z : V} {pr : Int × Int}, PairV (upd H3 T2 (.tup [.int n, .int b])) z pr → PairV (upd (upd H3 T2 (.tup [.int n, .int b])) D (.lst (acc ++ [.ref T2]))) z pr := fun {z pr} h => by
              obtain ⟨u, rfl, hu⟩ := h
              refine ⟨u, rfl, ?_⟩
              rw [upd_ne (ne_of hu ((upd_ne nDT).trans hD) (by intro z; cases z))]
              exact hu
            exact paired_snoc (paired_mono (fun z pr h => keepT (h.mono (same_toT s3))) hps) (keepT ⟨T2, rfl, upd_same⟩)
          · rw [List.append_assoc]
            exact e
          · have ncD : c ≠ D := ne_of hc hD (by intro z; cases z)
            rw [upd_ne ncD]
            exact s3 _ _ hc
        · obtain ⟨y4, rfl, hM, _⟩ := hM
          exact ⟨_, _, rfl, hM.rem (by rw [List.length_map, List.drop_of_length_le (Nat.le_refl _)]; rfl)⟩
      · obtain ⟨y3, y4, rfl, hJ⟩ := hJ
        refine ⟨_, _, _, rfl, hJ.rem ?_⟩
        rw [List.length_map, show (((t.length : Nat) : Int)).toNat = t.length by omega, List.drop_of_length_le (Nat.le_refl _)]
        rfl
    · obtain ⟨y2, y3, y4, rfl, sm, acc, ps, hD, hps, e⟩ := hI
      rw [hxl, List.drop_of_length_le (Nat.le_refl _)] at e
      have e2 : ps = pairsR r := by simpa [pairsR] using e
      subst e2
      exact ⟨.ref D, rfl, q H2 D acc sm nD hD hps⟩
/-- the pairs that a dict knows -/
def key2 (p : Int × Int) : List Key := [Sum.inl p.1, Sum.inl p.2]
theorem key2_inj {p q : Int × Int} (h : key2 p = key2 q) : p = q := by
  obtain ⟨a, b⟩ := p
  obtain ⟨x, y⟩ := q
  obtain ⟨h1, h2⟩ := key2_ne.mp h
  exact Prod.ext h1 h2
theorem mem_key2 {ks : List (Int × Int)} {p : Int × Int} : key2 p ∈ ks.map key2 ↔ p ∈ ks := by
  constructor
  · intro h
    obtain ⟨q, hq, e⟩ := List.mem_map.mp h
    rw [← key2_inj e]
    exact hq
  · exact fun h => List.mem_map.mpr ⟨p, h, rfl⟩
theorem anyKey {κ : Type} [DecidableEq κ] (kvs : List (κ × V)) (k : κ) : ((kvs.any fun kv => decide (kv.1 = k)) = true) ↔ k ∈ kvs.map (·.1) := by
  simp only [List.any_eq_true, decide_eq_true_eq, List.mem_map]
theorem keysPut_old {κ : Type} [DecidableEq κ] {kvs : List (κ × V)} {k : κ} (v : V) (h : k ∈ kvs.map (·.1)) : (putK kvs k v).map (·.1) = kvs.map (·.1) := by
  unfold putK
  rw [if_pos ((anyKey kvs k).mpr h), List.map_map]
  refine List.map_congr_left fun kv _ => ?_
  show (if kv.1 = k then (kv.1, v) else kv).1 = kv.1
  split <;> rfl
theorem keysPut_new {κ : Type} [DecidableEq κ] {kvs : List (κ × V)} {k : κ} (v : V) (h : k ∉ kvs.map (·.1)) : (putK kvs k v).map (·.1) = kvs.map (·.1) ++ [k] := by
  unfold putK
  rw [if_neg (fun z => h ((anyKey kvs k).mp z))]
  simp
def KnS (H : Hp) (d : Addr) (ps : List (Int × Int)) (N : Nat) : Prop := ∃ kvs : List (List Key × V), H d = some (.dT kvs) ∧ kvs.length ≤ N ∧ (∀ a b : Int, (valV kvs [Sum.inl a, Sum.inl b]).isSome = true ↔ (a, b) ∈ ps) ∧ ∃ ks : List (Int × Int), kvs.map (·.1) = ks.map key2 ∧ ks.Nodup
/-- its keys: each pair once -/
theorem KnS.keys {H : Hp} {d : Addr} {ps : List (Int × Int)} {N : Nat} (h : KnS H d ps N) : ∃ (kvs : List (List Key × V)) (ks : List (Int × Int)), H d = some (.dT kvs) ∧ kvs.length ≤ N ∧ kvs.map (·.1) = ks.map key2 ∧ ks.Nodup ∧ ∀ p, p ∈ ks ↔ p ∈ ps := by
  obtain ⟨kvs, e, hl, hv, ks, hk, hn⟩ := h
  refine ⟨kvs, ks, e, hl, hk, hn, fun ⟨a, b⟩ => ?_⟩
  rw [← hv a b, ← valV_any, anyKey, hk]
  exact mem_key2.symm
theorem knS_same {H H' : Hp} {d : Addr} {ps : List (Int × Int)} {N : Nat} (h : KnS H d ps N) (s : Same H H') : KnS H' d ps N := by
  obtain ⟨kvs, e, q⟩ := h
  exact ⟨kvs, s _ _ e, q⟩
theorem knS_put {H : Hp} {d T : Addr} {N : Nat} {x y : Int} {ps : List (Int × Int)} {v : V} (h : KnS H d ps N) (hT : H T = some (.tup [.int x, .int y])) (hN : N < sizeLine) :
    ∃ kvs', DPut H d (.ref T) v (upd H d (.dT kvs')) ∧ KnS (upd H d (.dT kvs')) d (ps ++ [(x, y)]) (N + 1) := by
  obtain ⟨kvs, e, hl, hv, ks, hk, hn⟩ := h
  refine ⟨putK kvs [Sum.inl x, Sum.inl y] v, DPut.t (k := [Sum.inl x, Sum.inl y]) e hT (by omega), _, upd_same, ?_, fun a b => ?_, ?_⟩
  · have := length_putK kvs [Sum.inl x, Sum.inl y] v
    omega
  · rw [valV_put]
    by_cases h : a = x ∧ b = y
    · obtain ⟨rfl, rfl⟩ := h
      rw [if_pos rfl]
      simp
    · rw [if_neg (fun z => h (key2_ne.mp z)), hv]
      simp only [List.mem_append, List.mem_singleton, Prod.mk.injEq]
      exact ⟨fun z => .inl z, fun z => z.elim id fun z => absurd z h⟩
  · by_cases m : (x, y) ∈ ks
    · exact ⟨ks, by rw [keysPut_old v (by rw [hk]; exact mem_key2.mpr m), hk], hn⟩
    · refine ⟨ks ++ [(x, y)], by rw [keysPut_new v (by rw [hk]; exact fun z => m (mem_key2 (p := (x, y)) |>.mp z)), hk, List.map_append]; rfl, ?_⟩
      refine List.nodup_append.mpr ⟨hn, by simp, fun a ha b hb => ?_⟩
      rw [List.mem_singleton.mp hb]
      rintro rfl
      exact m ha
theorem scLKnown : FnScope ["_law_plan_here", "_law_found", "_law_tables", "_law_pair"] ["_law_plan_here"] (defScope lKnown) := ⟨rfl, rfl, rfl, by decide +kernel, rfl, by decide +kernel, by decide +kernel⟩
def spLKnown (K : PySem.W.Frag) : Sp := fun vs H Q _ => ∃ (l : Addr) (rs : List Rnd), vs = [.ref l] ∧ PlanV K H l rs ∧ rs.length ≤ 1000 ∧ (∀ r ∈ rs, (pairsR r).length ≤ 4096 ∧ ∀ t ∈ r, t.length ≤ 100000) ∧
  ∀ H' d, Same H H' → H d = none → KnS H' d (rs.flatMap pairsR) 5000000 → Q (.ref d) H'
theorem ok_lknown {f fP : Addr} {fd fdP : FuncData} (F : Fun K "_law_known" "_law_known" lKnown f fd) (B : Blt mg) (FP : Fun K "_law_pairs" "_law_pairs" lPairs fP fdP) (bP : Binds K fdP ["_law_tables"] []) (gP : mg "_law_pairs" = some (.ref fP)) : FnOk P w K mg base CX0 2 f fd ["_law_plan_here"] (spLKnown K) := by
  have GP : FnOk P w K mg base CX0 1 fP fdP ["_law_tables"] spLPairs := ok_lpairs FP B
  refine F.ok scLKnown (fun vs H Q E h => ?_) (fun cdv A outer s H vs Q E hr h => ?_)
  · obtain ⟨l, rs, rfl, _⟩ := h
    rfl
  · obtain ⟨l, rs, rfl, ⟨xs, hl, hxs⟩, hn, hS, q⟩ := h
    have hu := hu_of hr
    refine ⟨_, pss_cons (ps_set (i := 1) scLKnown.nd rfl (.inl rfl) pe_dnewT)
      (pss_cons (ps_for PassesOwn.never rfl (pi_list (pv 0)) (pg_name (i := 2) scLKnown.nd rfl (.inl rfl))
        (pss_one (ps_for PassesOwn.never rfl (pi_list (pe_call GP hr (by rfl) gP FP.kp bP .nil pass0 (pa_cons (pv 2) pa_nil))) (pg_name (i := 3) scLKnown.nd rfl (.inl rfl))
          (pss_one (ps_dput hu (pv 1) (pv 3) pe_bl rfl)))))
      (pss_one (ps_ret (pv 1)))), ?_⟩
    have hxl := paired_len hxs
    have big : (5000000 : Nat) < sizeLine := by decide
    intro d nd
    have s0 : Same H (upd H d (.dT [])) := same_new nd
    refine ⟨.ref l, rfl, l, rfl, ⟨_, s0.seq hl⟩, ?_⟩
    refine for_it (walk_list (xs := xs)) (fun i σ H2 => ∃ (y2 y3 : Option V), σ = [some (.ref l), some (.ref d), y2, y3] ∧ Same H H2 ∧ KnS H2 d ((rs.take i).flatMap pairsR) (i * 4096)) ⟨none, none, rfl, s0, [], upd_same, Nat.le_refl _, fun a b => by simp [valV], [], rfl, .nil⟩ (fun i σ H2 _ h => ?_) (fun i x σ H2 H3 hi hI y => ?_) (fun σ H2 hI => ?_)
    · obtain ⟨_, _, _, sm, _⟩ := h
      exact sm.seq hl
    · obtain ⟨y2, y3, rfl, sm, hK⟩ := hI
      obtain ⟨rfl, hx⟩ := y
      obtain ⟨r, hr0, hrx⟩ := paired_getL hxs hx
      obtain ⟨hp1, hp2⟩ := hS r (List.mem_of_getElem? hr0)
      refine ⟨x, rfl, x, r, rfl, hrx.mono (same_toT sm), by omega, hp2, fun H4 u ys s4 nu hu4 hys => ?_⟩
      refine ⟨u, rfl, ⟨_, SqL.of hu4⟩, ?_⟩
      have hyl := paired_len hys
      refine for_it (walk_list (xs := ys)) (fun m σ H5 => ∃ y3 : Option V, σ = [some (.ref l), some (.ref d), some x, y3] ∧ Same H H5 ∧ H5 u = some (.lst ys) ∧ Paired (PairV H5) ys (pairsR r) ∧ KnS H5 d ((rs.take i).flatMap pairsR ++ (pairsR r).take m) (i * 4096 + m))
        ⟨y3, rfl, sm.trans s4, hu4, hys, by rw [List.take_zero, List.append_nil]; exact knS_same hK s4⟩ (fun m σ H5 _ h => ?_) (fun m z σ H5 H6 hm hM y => ?_) (fun σ H5 hM => ?_)
      · obtain ⟨_, _, _, h, _⟩ := h
        exact SqL.of h
      · obtain ⟨y3, rfl, s5, hu5, hy5, hK5⟩ := hM
        obtain ⟨rfl, hz⟩ := y
        obtain ⟨⟨a, b⟩, hab, T, rfl, hT⟩ := paired_getL hy5 hz
        obtain ⟨kvs', hput, hK6⟩ := knS_put (v := .bl true) hK5 hT (by omega)
        obtain ⟨kv0, hd0, _⟩ := id hK5
        have nud : u ≠ d := ne_of hu5 hd0 (by intro e; cases e)
        refine ⟨.ref d, rfl, .ref T, rfl, d, _, rfl, hput, _, rfl, same_put s5 nd, by rw [upd_ne nud]; exact hu5, paired_mono (fun v pr h => ?_) hy5, ?_⟩
        · obtain ⟨w1, rfl, hw⟩ := h
          exact ⟨w1, rfl, by rw [upd_ne (ne_of hw hd0 (by intro e; cases e))]; exact hw⟩
        · rw [takeSucc hab, ← List.append_assoc]
          exact hK6
      · obtain ⟨y3, rfl, s5, hu5, hy5, hK5⟩ := hM
        rw [hyl, List.take_of_length_le (Nat.le_refl _)] at hK5
        refine ⟨_, _, rfl, s5, ?_⟩
        rw [takeSucc hr0, List.flatMap_append]
        obtain ⟨kvs, e, h1, h2⟩ := hK5
        exact ⟨kvs, e, by omega, by simpa using h2.1, h2.2⟩
    · obtain ⟨y2, y3, rfl, sm, hK⟩ := hI
      rw [hxl, List.take_of_length_le (Nat.le_refl _)] at hK
      obtain ⟨kvs, e, h1, h2⟩ := hK
      exact ⟨.ref d, rfl, q H2 d sm nd ⟨kvs, e, by omega, h2⟩⟩
theorem scLNew : FnScope ["_law_tables", "_law_plan_here", "_law_known_here", "_law_pair"] ["_law_tables", "_law_plan_here"] (defScope lNew) := ⟨rfl, rfl, rfl, by decide +kernel, rfl, by decide +kernel, by decide +kernel⟩
def spLNew (K : PySem.W.Frag) : Sp := fun vs H Q _ => ∃ (x : V) (l : Addr) (r : Rnd) (rs : List Rnd), vs = [x, .ref l] ∧ RndV H x r ∧ (pairsR r).length ≤ 100000 ∧ (∀ t ∈ r, t.length ≤ 100000) ∧ PlanV K H l rs ∧ rs.length ≤ 1000 ∧ (∀ r ∈ rs, (pairsR r).length ≤ 4096 ∧ ∀ t ∈ r, t.length ≤ 100000) ∧
  ∀ b H', Same H H' → (b = true ↔ ∀ p ∈ pairsR r, p ∉ rs.flatMap pairsR) → Q (.bl b) H'
def dP (p : Int × Int) : PyData := .tuple [.int p.1, .int p.2]
theorem shPairs (ps : List (Int × Int)) : SeqAt.shaped (.list (ps.map dP)) = true := by
  have l : ∀ ps : List (Int × Int), PyData.canLayAll0 (ps.map dP) = true := fun ps => by
    induction ps with
    | nil => rfl
    | cons x ps ih => simp [PyData.canLayAll0, PyData.canLay0, dP, ih]
  have h : ∀ ps : List (Int × Int), PyData.depthAll (ps.map dP) ≤ 1 := fun ps => by
    induction ps with
    | nil => simp [PyData.depthAll]
    | cons x ps ih =>
      have e : (dP x).depth ≤ 1 := by simp [dP, PyData.depth, PyData.depthAll]
      simp only [List.map_cons, PyData.depthAll]
      omega
  have h := h ps
  unfold SeqAt.shaped
  rw [Bool.and_eq_true]
  refine ⟨by simp [PyData.canLay0, l], decide_eq_true ?_⟩
  simp only [PyData.depth]
  omega
theorem eqv_nilP (ps : List (Int × Int)) : PyData.eqv (.list (ps.map dP)) (.list []) = ps.isEmpty := by
  cases ps <;> simp [PyData.eqv, PyData.eqvAll]
theorem ok_lnew {f fP fK : Addr} {fd fdP fdK : FuncData} (F : Fun K "_law_new" "_law_new" lNew f fd) (B : Blt mg) (FP : Fun K "_law_pairs" "_law_pairs" lPairs fP fdP) (bP : Binds K fdP ["_law_tables"] []) (gP : mg "_law_pairs" = some (.ref fP))
    (FK : Fun K "_law_known" "_law_known" lKnown fK fdK) (bK : Binds K fdK ["_law_plan_here"] []) (gK : mg "_law_known" = some (.ref fK)) : FnOk P w K mg base CX0 3 f fd ["_law_tables", "_law_plan_here"] (spLNew K) := by
  have GP : FnOk P w K mg base CX0 1 fP fdP ["_law_tables"] spLPairs := ok_lpairs FP B
  have GK : FnOk P w K mg base CX0 2 fK fdK ["_law_plan_here"] (spLKnown K) := ok_lknown FK B FP bP gP
  refine F.ok scLNew (fun vs H Q E h => ?_) (fun cdv A outer s H vs Q E hr h => ?_)
  · obtain ⟨x, l, r, rs, rfl, _⟩ := h
    rfl
  · obtain ⟨x, l, r, rs, rfl, hx, hpl, htl, hPl, hn, hS, q⟩ := h
    have hr1 : Room 1 _ := hr.mono (by decide)
    have hu := hu_of hr
    refine ⟨_, pss_cons (ps_set (i := 2) scLNew.nd rfl (.inr rfl) (pe_call GK hr (by rfl) gK FK.kp bK .nil pass0 (pa_cons (pv 1) pa_nil)))
      (pss_one (ps_ret (pe_cmpR (op_eqD hr.units) (pe_lc (own := [("_law_pair", 3)]) (g := gName 3) (tt := tB (tDIn (tVar 3) (tVar 2))) (te := tVar 3) (by rfl) scLNew.nd (pi_list (pe_call GP hr1 (by rfl) gP FP.kp bP .nil pass0 (pa_cons (pv 0) pa_nil)))
        (blkOk_by (N := ["_law_tables", "_law_plan_here", "_law_known_here", "_law_pair"]) (sc := defScope lNew) (by decide +kernel)) (fun _ _ _ _ _ => pg_name (i := 3) (x := "_law_pair") scLNew.nd rfl (.inl rfl) (.inr rfl))
        (fun _ _ _ _ _ => pts_one (pt_cmp (pc_din hu (pv 3) (pv 2)))) (fun _ _ _ _ _ => pv 3)) (pe_lst pa_nil) (nomark _)))), ?_⟩
    refine ⟨.ref l, rfl, l, rs, rfl, hPl, hn, hS, fun H1 d s1 nd hK => ?_⟩
    refine ⟨x, rfl, x, r, rfl, hx.mono (same_toT s1), hpl, htl, fun H2 u ys s2 nu hu2 hys => ?_⟩
    have hK2 := knS_same hK s2
    refine ⟨u, rfl, ⟨_, SqL.of hu2⟩, fun D nD => ?_⟩
    have s3 : Same H2 (upd H2 D (.lst [])) := same_new nD
    have hpl' : (pairsR r).length < sizeLine := Nat.lt_of_le_of_lt hpl (by decide)
    have hyl := paired_len hys
    refine lc_it (walk_list (xs := ys)) (fun i H5 => Same H2 H5 ∧ ∃ acc ps, H5 D = some (.lst acc) ∧ Paired (PairV H5) acc ps ∧ ps.length ≤ i ∧ (ps = [] ↔ ∀ p ∈ (pairsR r).take i, p ∉ rs.flatMap pairsR)) ⟨s3, [], [], upd_same, .nil, Nat.le_refl _, by simp⟩ (fun i H5 _ p => SqL.of (p.1 _ _ hu2)) (fun i z H5 H6 hi hI y => ?_) (fun H5 hI => ?_)
    · obtain ⟨rfl, hz⟩ := y
      obtain ⟨sm, acc, ps, hD, hps, hle, he⟩ := hI
      obtain ⟨⟨a, b⟩, hab, T, rfl, hT⟩ := paired_getL hys hz
      have hT6 := sm _ _ hT
      obtain ⟨kvs, hd, hkl, hkv, _⟩ := knS_same hK2 sm
      refine ⟨wipe_put (by decide), ?_⟩
      refine ⟨.ref T, rfl, .ref d, rfl, d, _, rfl, DGet.t (k := [Sum.inl a, Sum.inl b]) hd hT6, _, rfl, ite2 (fun hc => ?_) (fun hc => ?_)⟩
      · refine ⟨.ref T, rfl, acc, hD, ?_, same_put sm nD, acc ++ [.ref T], ps ++ [(a, b)], upd_same, ?_, ?_, ?_⟩
        · have := paired_len hps
          omega
        · have keepT : ∀ {z : V} {pr : Int × Int}, PairV H6 z pr → PairV (upd H6 D (.lst (acc ++ [.ref T]))) z pr := fun {z pr} h => by
            obtain ⟨u, rfl, hu⟩ := h
            exact ⟨u, rfl, by rw [upd_ne (ne_of hu hD (by intro z; cases z))]; exact hu⟩
          exact paired_snoc (paired_mono (fun z pr h => keepT h) hps) (keepT ⟨T, rfl, hT6⟩)
        · simp only [List.length_append, List.length_singleton]
          omega
        · constructor
          · intro z
            simp at z
          · intro z
            exact absurd ((hkv a b).mp hc) (z (a, b) (by rw [takeSucc hab]; simp))
      · refine ⟨sm, acc, ps, hD, hps, by omega, ?_⟩
        rw [he, takeSucc hab]
        constructor
        · intro z p hp
          rcases List.mem_append.mp hp with hp | hp
          · exact z p hp
          · rw [List.mem_singleton.mp hp]
            exact fun m => hc ((hkv a b).mpr m)
        · exact fun z p hp => z p (List.mem_append_left _ hp)
    · obtain ⟨sm, acc, ps, hD, hps, hle, he⟩ := hI
      rw [hyl, List.take_of_length_le (Nat.le_refl _)] at he
      refine ⟨Nat.zero_le _, fun e ne => ?_⟩
      have s6 : Same H5 (upd H5 e (.lst [])) := same_new ne
      refine ⟨.list (ps.map dP), .list [], dp_lst (fun _ _ h => dp_pair h) (SqL.of (s6 _ _ hD)) (paired_mono (fun _ _ h => h.mono (same_toT s6)) hps), .lst (SqL.of upd_same) .nil, shPairs ps, shNil, ?_⟩
      rw [eqv_nilP]
      refine q _ _ (((s1.trans s2).trans sm).trans s6) ?_
      rw [← he]
      cases ps <;> simp
end Nf

set_option Elab.async false
set_option linter.all false
set_option maxRecDepth 100000
set_option maxHeartbeats 4000000
namespace Nf
open PySem PySem.Spec PyProof.Rows L2
/-! ### d.update(e), keys that are pairs -/
/-- the hash of a pair of small numbers -/
def hP (a b : Nat) : Int := reduceHash (Builtin.Tuple.tupleHashOf [hashInt (a : Nat), hashInt (b : Nat)])
def pairL : List (Nat × Nat) := (List.range 64).flatMap fun a => (List.range 64).filterMap fun b => if a < b then some (a, b) else none
/-- all unlike, looked up in a number's bits -/
def unlikeB {α : Type} (f : α → Nat) : List α → Nat → Bool
  | [], _ => true
  | x :: xs, m => !(m.testBit (f x)) && unlikeB f xs (m ||| 1 <<< f x)
theorem unlikeB_nodup {α : Type} (f : α → Nat) : ∀ (l : List α) (m : Nat), unlikeB f l m = true → l.Pairwise (fun x y => f x ≠ f y) ∧ ∀ x ∈ l, m.testBit (f x) = false
  | [], _, _ => ⟨.nil, fun _ h => by simp at h⟩
  | x :: l, m, h => by
    simp only [unlikeB, Bool.and_eq_true, Bool.not_eq_true'] at h
    obtain ⟨h1, h2⟩ := unlikeB_nodup f l _ h.2
    have key : ∀ y ∈ l, f x ≠ f y ∧ m.testBit (f y) = false := fun y hy => by
      have := h2 y hy
      rw [Nat.testBit_or, Bool.or_eq_false_iff] at this
      refine ⟨fun e => ?_, this.1⟩
      have z := this.2
      rw [← e, Nat.one_shiftLeft, Nat.testBit_two_pow_self] at z
      cases z
    refine ⟨List.pairwise_cons.mpr ⟨fun y hy => (key y hy).1, h1⟩, fun y hy => ?_⟩
    rcases List.mem_cons.mp hy with rfl | hy
    · exact h.1
    · exact (key y hy).2
theorem pair_hash : unlikeB (fun p : Nat × Nat => (hP p.1 p.2 % 18057).toNat) pairL 0 = true := by decide +kernel
theorem mem_pairL {a b : Nat} (h : a < b) (hb : b < 64) : (a, b) ∈ pairL := by
  unfold pairL
  rw [List.mem_flatMap]
  refine ⟨a, List.mem_range.mpr (by omega), ?_⟩
  rw [List.mem_filterMap]
  exact ⟨b, List.mem_range.mpr hb, if_pos h⟩
theorem pw_inj {α : Type} {β : Type} {f : α → β} : ∀ {l : List α}, l.Pairwise (fun x y => f x ≠ f y) → ∀ x ∈ l, ∀ y ∈ l, f x = f y → x = y
  | [], _, x, hx, _, _, _ => by simp at hx
  | z :: l, h, x, hx, y, hy, e => by
    obtain ⟨h1, h2⟩ := List.pairwise_cons.mp h
    rcases List.mem_cons.mp hx with ex | hx
    · rcases List.mem_cons.mp hy with ey | hy
      · rw [ex, ey]
      · rw [ex] at e
        exact absurd e (h1 y hy)
    · rcases List.mem_cons.mp hy with ey | hy
      · rw [ey] at e
        exact absurd e.symm (h1 x hx)
      · exact pw_inj h2 x hx y hy e
theorem hP_inj {a b c d : Nat} (h1 : a < b) (h2 : b < 64) (h3 : c < d) (h4 : d < 64) (e : hP a b = hP c d) : a = c ∧ b = d := by
  have z := pw_inj (unlikeB_nodup _ _ _ pair_hash).1 (a, b) (mem_pairL h1 h2) (c, d) (mem_pairL h3 h4) (by
    show (hP a b % 18057).toNat = (hP c d % 18057).toNat
    rw [e])
  exact Prod.mk.inj z
/-- a pair that can stand at a table -/
def PairOk (p : Int × Int) : Prop := 0 ≤ p.1 ∧ p.1 < p.2 ∧ p.2 < 64
theorem hash_pairs {P : Program} {w : World} : ∀ {ks : List (Int × Int)}, ks.Nodup → (∀ p ∈ ks, PairOk p) → (ks.map fun p => tupleKeyHash (mixKind P w) (key2 p)).Nodup
  | [], _, _ => by simp
  | x :: ks, hn, hk => by
    obtain ⟨h1, h2⟩ := List.nodup_cons.mp hn
    rw [List.map_cons]
    refine List.nodup_cons.mpr ⟨fun h => ?_, hash_pairs h2 fun p hp => hk p (by simp [hp])⟩
    obtain ⟨y, hy, e⟩ := List.mem_map.mp h
    obtain ⟨a1, a2, a3⟩ := hk x (by simp)
    obtain ⟨b1, b2, b3⟩ := hk y (by simp [hy])
    obtain ⟨xa, xb⟩ := x
    obtain ⟨ya, yb⟩ := y
    simp only at a1 a2 a3 b1 b2 b3
    obtain ⟨na, rfl⟩ := Int.eq_ofNat_of_zero_le a1
    obtain ⟨nb, rfl⟩ := Int.eq_ofNat_of_zero_le (show 0 ≤ xb by omega)
    obtain ⟨ma, rfl⟩ := Int.eq_ofNat_of_zero_le b1
    obtain ⟨mb, rfl⟩ := Int.eq_ofNat_of_zero_le (show 0 ≤ yb by omega)
    have e : hP ma mb = hP na nb := e
    obtain ⟨z1, z2⟩ := hP_inj (by omega) (by omega) (by omega) (by omega) e
    exact h1 (by rw [← z1, ← z2]; exact hy)
section
variable {X : Cx}
theorem kt_all {H : Hp} : ∀ {more : List (List L2.Key × V)} {ys : List (List L2.Key × Addr × Value)}, KT H more ys → ∀ {kvs : List (List L2.Key × V)} {xs : List (List L2.Key × Addr × Value)}, KT H kvs xs → KT H (more.foldl (fun acc p => putK acc p.1 p.2) kvs) (storedAllH xs ys)
  | _, _, .nil, _, _, h => h
  | _, _, .cons (a := p) (b := q) r t, kvs, xs, h => by
    obtain ⟨r1, r2, r3⟩ := r
    rw [List.foldl_cons]
    refine kt_all t (xs := storedH xs q.1 q.2.1 q.2.2) ?_
    rw [← r1]
    exact KT.put h p.1 r2 r3
theorem putAll_len : ∀ (more kvs : List (List L2.Key × V)), (more.foldl (fun acc p => putK acc p.1 p.2) kvs).length ≤ kvs.length + more.length
  | [], kvs => Nat.le_refl _
  | p :: more, kvs => by
    have h1 := putAll_len more (putK kvs p.1 p.2)
    have h2 := length_putK kvs p.1 p.2
    rw [List.foldl_cons, List.length_cons]
    omega
def rUpdT (P : Program) (w : World) : V → List V → Hp → VK → Prop := fun x xs H Q => ∃ (a b : Addr) (kvs more : List (List L2.Key × V)), x = .ref a ∧ xs = [.ref b] ∧ a ≠ b ∧ H a = some (.dT kvs) ∧ H b = some (.dT more) ∧
  (kvs ≠ [] ∨ (more.map fun p => tupleKeyHash (mixKind P w) p.1).Nodup) ∧ kvs.length + more.length ≤ sizeLine ∧ Q .non (upd H a (.dT (more.foldl (fun acc p => putK acc p.1 p.2) kvs)))
theorem mt_updT (hu : X.A.units + 1 < cLine) : MtR X "dict.update" (rUpdT X.prog X.w) := by
  intro pins s σ H x xs v us Q I rx rxs h
  obtain ⟨a, b, kvs, more, rfl, rfl, nab, ha, hb, hap, hsz, q⟩ := h
  cases rx
  rw [Vals.ref1 rxs]
  obtain ⟨z1, hd1, xs1, rel1, dd1⟩ := dt_of I.hok ha
  obtain ⟨z2, hd2, xs2, rel2, dd2⟩ := dt_of I.hok hb
  have l1 : xs1.length = kvs.length := (Paired.length rel1).symm
  have l2 : xs2.length = more.length := (Paired.length rel2).symm
  have ek : ∀ {l : List (List L2.Key × V)} {m : List (List L2.Key × Addr × Value)}, KT H l m → m.map (fun x => (tupleKind (mixKind X.prog X.w)).hash x.1) = l.map fun p => tupleKeyHash (mixKind X.prog X.w) p.1 := fun {l m} r => by
    induction r with
    | nil => rfl
    | cons h t ih =>
      rw [List.map_cons, List.map_cons, ih, ← h.1]
      rfl
  refine call_update_dictH (knd := tupleKind (mixKind X.prog X.w)) (tupleKind_room_in1 hu) nab hd2 dd1 dd2 ?_ (by omega) fun h' d1 d2 hs => ?_
  · rcases hap with z | z
    · refine .inl fun e => z ?_
      rw [e] at l1
      exact List.eq_nil_of_length_eq_zero l1.symm
    · refine .inr ⟨fun x hx => ?_, by rw [ek rel2]; exact z⟩
      obtain ⟨_, _, _, _, _, _, _, his, _⟩ := dd2
      exact IsTupleKey.typeIs (his x hx)
  · obtain ⟨o, es, ep, hq, h2, h3, h4, _, h5⟩ := d1
    have hl := putAll_len more kvs
    have I2 : Inv X pins σ (upd H a (.dT (more.foldl (fun acc p => putK acc p.1 p.2) kvs))) { s with heap := h', toks := s.toks } :=
      d_write I (by rw [ha]; exact True.intro) hs ⟨o, hq⟩ ⟨by omega, hd1, _, (kt_all rel2 rel1).keeps (fun c ys ec => (by rw [upd_ne (ne_of ec ha (fun z => nomatch z))]; exact ec)), o, es, ep, hq, h2, h3, h4, h5⟩
    exact ⟨.non, _, I2, rfl, q⟩
end
/-- the keys of a dict are these pairs -/
def KnK (kvs : List (List L2.Key × V)) (ps : List (Int × Int)) : Prop := (∀ a b : Int, (valV kvs [Sum.inl a, Sum.inl b]).isSome = true ↔ (a, b) ∈ ps) ∧ ∃ ks : List (Int × Int), kvs.map (·.1) = ks.map key2 ∧ ks.Nodup
theorem knK_put {kvs : List (List L2.Key × V)} {ps : List (Int × Int)} (h : KnK kvs ps) (p : Int × Int) (v : V) : KnK (putK kvs (key2 p) v) (ps ++ [p]) := by
  obtain ⟨h1, ks, h2, h3⟩ := h
  refine ⟨fun a b => ?_, ?_⟩
  · rw [valV_put, List.mem_append, List.mem_singleton, ← h1]
    by_cases e : key2 (a, b) = key2 p
    · have e2 := key2_inj e
      have e3 : ([Sum.inl a, Sum.inl b] : List L2.Key) = key2 p := e
      rw [if_pos e3]
      simp [e2]
    · have e3 : ¬ ([Sum.inl a, Sum.inl b] : List L2.Key) = key2 p := e
      rw [if_neg e3]
      constructor
      · exact .inl
      · rintro (z | z)
        · exact z
        · exact absurd (by rw [z]) e
  · by_cases m : key2 p ∈ kvs.map (·.1)
    · exact ⟨ks, by rw [keysPut_old v m]; exact h2, h3⟩
    · refine ⟨ks ++ [p], by rw [keysPut_new v m, h2, List.map_append]; rfl, List.nodup_append.mpr ⟨h3, by simp, fun a ha b hb => ?_⟩⟩
      rw [List.mem_singleton.mp hb]
      rintro rfl
      exact m (by rw [h2]; exact mem_key2.mpr ha)
theorem knK_all : ∀ {more kvs : List (List L2.Key × V)} {ps ks : List (Int × Int)}, KnK kvs ps → more.map (·.1) = ks.map key2 → KnK (more.foldl (fun acc p => putK acc p.1 p.2) kvs) (ps ++ ks)
  | [], kvs, ps, ks, h, e => by
    have : ks = [] := by
      cases ks with
      | nil => rfl
      | cons _ _ => simp at e
    rw [this, List.append_nil]
    exact h
  | p :: more, kvs, ps, [], h, e => by simp at e
  | p :: more, kvs, ps, k :: ks, h, e => by
    rw [List.map_cons, List.map_cons] at e
    injection e with e1 e2
    rw [List.foldl_cons, e1]
    have := knK_all (knK_put h k p.2) e2
    rwa [List.append_assoc] at this
/-- known.update(known of another plan) -/
theorem knS_update {P : Program} {w : World} {H : Hp} {d e : Addr} {ps qs : List (Int × Int)} {N M : Nat} {Q : VK} (h1 : KnS H d ps N) (h2 : KnS H e qs M) (n : d ≠ e) (hb : ∀ p ∈ qs, PairOk p) (hz : N + M ≤ sizeLine)
    (q : ∀ o, KnS (upd H d o) d (ps ++ qs) (N + M) → Q .non (upd H d o)) : rUpdT P w (.ref d) [.ref e] H Q := by
  obtain ⟨kvs, hd, hl, hv, hk⟩ := h1
  obtain ⟨more, he, hm, hv2, ks, hk2, hn⟩ := h2
  have hmem : ∀ p, p ∈ ks ↔ p ∈ qs := fun p => by
    rw [← hv2 p.1 p.2, ← mem_key2, ← hk2, ← anyKey, ← valV_any]
    rfl
  refine ⟨d, e, kvs, more, rfl, rfl, n, hd, he, .inr ?_, by omega, q _ ?_⟩
  · have : (more.map fun p => tupleKeyHash (mixKind P w) p.1) = ks.map fun p => tupleKeyHash (mixKind P w) (key2 p) := by
      have e1 : (more.map fun p => tupleKeyHash (mixKind P w) p.1) = (more.map (·.1)).map (tupleKeyHash (mixKind P w)) := by rw [List.map_map]; rfl
      rw [e1, hk2, List.map_map]
      rfl
    rw [this]
    exact hash_pairs hn fun p hp => hb p ((hmem p).mp hp)
  · obtain ⟨k1, k2⟩ := knK_all (ps := ps) ⟨hv, hk⟩ hk2
    refine ⟨_, upd_same, Nat.le_trans (putAll_len _ _) (by omega), fun a b => ?_, k2⟩
    rw [k1 a b, List.mem_append, List.mem_append, hmem]
end Nf

set_option Elab.async false
set_option linter.all false
set_option maxRecDepth 100000
set_option maxHeartbeats 4000000
namespace Nf
open PySem PySem.Spec PyProof.Rows L2
/-! ### the walk of a set's table meets each slot -/
def walkL (m : Nat) : Nat → Nat → List Nat
  | 0, _ => []
  | n + 1, x => x :: walkL m n ((x * 5 + 1) % (m + 1))
theorem walkL_at (m : Nat) : ∀ (n x k : Nat), k < n → (walkL m n x)[k]? = some (lcgI m x k)
  | 0, _, _, h => absurd h (Nat.not_lt_zero _)
  | n + 1, x, 0, _ => rfl
  | n + 1, x, k + 1, h => by
    show (walkL m n ((x * 5 + 1) % (m + 1)))[k]? = _
    rw [walkL_at m n _ k (by omega)]
    have e : ∀ k, lcgI m ((x * 5 + 1) % (m + 1)) k = lcgI m x (k + 1) := fun k => by
      induction k with
      | zero => rfl
      | succ k ih =>
        show (lcgI m ((x * 5 + 1) % (m + 1)) k * 5 + 1) % (m + 1) = (lcgI m x (k + 1) * 5 + 1) % (m + 1)
        rw [ih]
    rw [e]
theorem walkL_len (m : Nat) : ∀ (n x : Nat), (walkL m n x).length = n
  | 0, _ => rfl
  | n + 1, x => by
    show (walkL m n _).length + 1 = n + 1
    rw [walkL_len m n]
/-- the walk from 0 goes round once through all slots -/
def roundB (m : Nat) : Bool := unlikeB id (walkL m (m + 1) 0) 0 && (walkL m (m + 2) 0)[m + 1]? == some 0
structure FullM (m : Nat) : Prop where
  big : 7 ≤ m ∧ m ≤ 8191
  odd : m % 2 = 1
  rnd : roundB m = true
  one : m = 7 ∨ m = 31 ∨ m = 127 ∨ m = 511 ∨ m = 2047 ∨ m = 8191
theorem full7 : FullM 7 := ⟨by decide, rfl, by decide +kernel, by decide⟩
theorem full31 : FullM 31 := ⟨by decide, rfl, by decide +kernel, by decide⟩
theorem full127 : FullM 127 := ⟨by decide, rfl, by decide +kernel, by decide⟩
theorem full511 : FullM 511 := ⟨by decide, rfl, by decide +kernel, by decide⟩
theorem full2047 : FullM 2047 := ⟨by decide, rfl, by decide +kernel, by decide⟩
theorem full8191 : FullM 8191 := ⟨by decide, rfl, by decide +kernel, by decide⟩
theorem lcgI_le (m : Nat) {x : Nat} (hx : x ≤ m) : ∀ k, lcgI m x k ≤ m
  | 0 => hx
  | k + 1 => Nat.le_of_lt_succ (Nat.mod_lt _ (Nat.succ_pos _))
theorem lcgI_add (m x a : Nat) : ∀ k, lcgI m (lcgI m x a) k = lcgI m x (a + k)
  | 0 => rfl
  | k + 1 => by
    show (lcgI m (lcgI m x a) k * 5 + 1) % (m + 1) = (lcgI m x (a + k) * 5 + 1) % (m + 1)
    rw [lcgI_add m x a k]
theorem FullM.zero {m : Nat} (F : FullM m) : lcgI m 0 (m + 1) = 0 := by
  have h := F.rnd
  unfold roundB at h
  rw [Bool.and_eq_true, beq_iff_eq, walkL_at m (m + 2) 0 (m + 1) (by omega)] at h
  exact Option.some.inj h.2
theorem FullM.from0 {m : Nat} (F : FullM m) {j : Nat} (hj : j ≤ m) : ∃ b, b ≤ m ∧ lcgI m 0 b = j := by
  have h := F.rnd
  unfold roundB at h
  rw [Bool.and_eq_true] at h
  have nd : (walkL m (m + 1) 0).Nodup := (unlikeB_nodup _ _ _ h.1).1
  have sub : ∀ x ∈ walkL m (m + 1) 0, x ∈ List.range (m + 1) := fun x hx => by
    obtain ⟨k, hk⟩ := List.mem_iff_getElem?.mp hx
    have hlt : k < m + 1 := by
      have := (List.getElem?_eq_some_iff.mp hk).1
      rwa [walkL_len] at this
    rw [walkL_at m (m + 1) 0 k hlt] at hk
    rw [← Option.some.inj hk]
    exact List.mem_range.mpr (Nat.lt_succ_of_le (lcgI_le m (Nat.zero_le _) k))
  have all : ∀ x ∈ List.range (m + 1), x ∈ walkL m (m + 1) 0 := fun x hx => by
    rcases Classical.em (x ∈ walkL m (m + 1) 0) with c | c
    · exact c
    · have z := nat_nodup_len (x :: walkL m (m + 1) 0) (List.range (m + 1)) (List.nodup_cons.mpr ⟨c, nd⟩) fun y hy => by
        rcases List.mem_cons.mp hy with e | hy
        · rw [e]
          exact hx
        · exact sub y hy
      rw [List.length_cons, walkL_len, List.length_range] at z
      omega
  obtain ⟨b, hb⟩ := List.mem_iff_getElem?.mp (all j (List.mem_range.mpr (by omega)))
  have hlt : b < m + 1 := by
    have := (List.getElem?_eq_some_iff.mp hb).1
    rwa [walkL_len] at this
  rw [walkL_at m (m + 1) 0 b hlt] at hb
  exact ⟨b, by omega, Option.some.inj hb⟩
theorem FullM.meets {m : Nat} (F : FullM m) {i j : Nat} (hi : i ≤ m) (hj : j ≤ m) : ∃ k, k ≤ m ∧ lcgI m i k = j := by
  obtain ⟨a, ha, rfl⟩ := F.from0 hi
  obtain ⟨b, hb, rfl⟩ := F.from0 hj
  by_cases c : a ≤ b
  · refine ⟨b - a, by omega, ?_⟩
    rw [lcgI_add]
    congr 1
    omega
  · refine ⟨b + (m + 1) - a, by omega, ?_⟩
    rw [lcgI_add, show a + (b + (m + 1) - a) = m + 1 + b by omega, ← lcgI_add, F.zero]
/-- each slot begins a run of a search, early enough -/
theorem FullM.run {m : Nat} (F : FullM m) (h : Int) {j : Nat} (hj : j ≤ m) : ∃ n, n ≤ m + 12 ∧ runI m (SetTable.bits h) n = j := by
  obtain ⟨k, hk, e⟩ := F.meets (runI_le m (SetTable.bits h) 12) hj
  refine ⟨12 + k, by omega, ?_⟩
  rw [runI_tail (bits_lt h), e]
theorem FullM.slot {m : Nat} (F : FullM m) (h : Int) {j : Nat} (hj : j ≤ m) : ∃ k, k < 10 * SetTable.turns m ∧ way m h k = j := by
  obtain ⟨n, hn, e⟩ := F.run h hj
  obtain ⟨k, hk, e2⟩ := run_nth m (SetTable.bits h) n
  refine ⟨k, by unfold SetTable.turns; omega, ?_⟩
  show (nth m (runAt m (SetTable.bits h % (m + 1)) (SetTable.bits h)) k).j = j
  rw [e2, ← e]
  rfl
theorem way_in (m : Nat) (h : Int) (k : Nat) : way m h k ≤ m := by
  have e := runEnd_bd (show SetTable.bits h % (m + 1) ≤ m from Nat.le_of_lt_succ (Nat.mod_lt _ (Nat.succ_pos _)))
  have z := nth_in (m := m) k (runAt m (SetTable.bits h % (m + 1)) (SetTable.bits h)) (by unfold runAt; dsimp only; omega)
  exact Nat.le_trans (Nat.le_add_right _ _) z
end Nf

set_option Elab.async false
set_option linter.all false
set_option maxRecDepth 100000
set_option maxHeartbeats 4000000
namespace Nf
open PySem PySem.Spec PyProof.Rows L2
/-! ### a set's table of any of the six masks -/
/-- each element is found on the way that its hash begins -/
structure TabF (t : SetTable) (hs : List Int) : Prop where
  up : Ris t.place.toList
  nod : t.dummies = #[]
  cnt : t.place.toList.length = hs.length
  full : FullM t.mask
  low : ∀ x ∈ t.place.toList, x ≤ t.mask
  way : ∀ (i : Nat) (h : Int) (j : Nat), hs[i]? = some h → t.place.toList[i]? = some j → ∃ k, L2.way t.mask h k = j ∧ ∀ c, c < k → L2.way t.mask h c ∈ t.place.toList
section
variable {t : SetTable} {hs : List Int}
/-- the first empty place on a way -/
theorem TabF.gap (T : TabF t hs) (hl : hs.length ≤ t.mask) (h : Int) : ∃ K, K < 10 * SetTable.turns t.mask ∧ L2.way t.mask h K ∉ t.place.toList ∧ ∀ c, c < K → L2.way t.mask h c ∈ t.place.toList := by
  obtain ⟨j, hj, hn⟩ := st_missing t.place.toList (t.mask + 1) (by have := T.cnt; omega)
  obtain ⟨k, hk, e⟩ := T.full.slot h (show j ≤ t.mask by omega)
  obtain ⟨K, k1, k2, k3⟩ := st_least (p := fun c => L2.way t.mask h c ∉ t.place.toList) k (by rw [e]; exact hn)
  exact ⟨K, by omega, k2, fun c hc => Classical.byContradiction (k3 c hc)⟩
/-- an element's place comes ahead of the first gap on its way -/
theorem TabF.ahead (T : TabF t hs) {h : Int} {K i j : Nat} (hK : L2.way t.mask h K ∉ t.place.toList) (hi : hs[i]? = some h) (hj : t.place.toList[i]? = some j) : ∃ k, k < K ∧ L2.way t.mask h k = j := by
  obtain ⟨k, e, b⟩ := T.way i h j hi hj
  refine ⟨k, Classical.byContradiction fun c => ?_, e⟩
  by_cases z : K = k
  · exact hK (by rw [z, e]; exact List.mem_of_getElem? hj)
  · exact hK (b K (by omega))
/-- one put in at the first gap -/
theorem TabF.add (T : TabF t hs) {h : Int} {K : Nat} (hK : L2.way t.mask h K ∉ t.place.toList) (hb : ∀ c, c < K → L2.way t.mask h c ∈ t.place.toList) :
    ∃ t1 p, t.put (L2.way t.mask h K) = (t1, p) ∧ p ≤ hs.length ∧ TabF t1 (hs.take p ++ h :: hs.drop p) ∧ t1.mask = t.mask ∧ t1.led = t.led ∧ t1.plain = t.plain ∧ t1.fill = hs.length + 1 := by
  generalize hq : L2.way t.mask h K = j at hK
  obtain ⟨b1, _, _⟩ := below_cut T.up j
  have hp : SetTable.below t.place j ≤ hs.length := by
    rw [← T.cnt]
    exact b1
  have hp' : SetTable.below t.place j ≤ t.place.toList.length := b1
  have epl := put_place t j
  have edm := put_dm T.nod j
  refine ⟨(t.put j).1, SetTable.below t.place j, rfl, hp, ?_, rfl, rfl, rfl, ?_⟩
  · refine ⟨ris_insert T.up fun e => hK (List.mem_of_getElem? (by rw [Array.getElem?_toList]; exact e)), edm, ?_, T.full, fun x hx => ?_, fun i h2 j2 e1 e2 => ?_⟩
    · rw [epl, len_ins _ hp', len_ins _ hp, T.cnt]
    · rw [epl] at hx
      rcases mem_ins.mp hx with e | hx
      · rw [e, ← hq]
        exact way_in _ _ _
      · exact T.low x hx
    · have keep : ∀ {x : Nat}, x ∈ t.place.toList → x ∈ (t.put j).1.place.toList := fun {x} hx => by
        rw [epl]
        exact mem_ins.mpr (.inr hx)
      rw [tins_get _ hp] at e1
      rw [epl, tins_get _ hp'] at e2
      by_cases c1 : i < SetTable.below t.place j
      · rw [if_pos c1] at e1 e2
        obtain ⟨k, w1, w2⟩ := T.way i h2 j2 e1 e2
        exact ⟨k, w1, fun c hc => keep (w2 c hc)⟩
      · by_cases c2 : i = SetTable.below t.place j
        · rw [if_neg c1, if_pos c2] at e1 e2
          cases e1
          cases e2
          exact ⟨K, hq, fun c hc => keep (hb c hc)⟩
        · rw [if_neg c1, if_neg c2] at e1 e2
          obtain ⟨k, w1, w2⟩ := T.way (i - 1) h2 j2 e1 e2
          exact ⟨k, w1, fun c hc => keep (w2 c hc)⟩
  · have el := congrArg List.length epl
    rw [len_ins _ hp', T.cnt] at el
    unfold SetTable.fill
    rw [edm, ← Array.length_toList, el]
    rfl
end
/-! laid anew -/
theorem free_at {m : Nat} (F : FullM m) (owner : Array (Option Nat)) (h : Int) {j : Nat} (hj : j ≤ m) (hf : oAt owner j = none) :
    ∃ K, SetTable.layClean.free m owner (SetTable.turns m) (SetTable.bits h % (m + 1)) (SetTable.bits h) = some (way m h K) ∧ oAt owner (way m h K) = none ∧ ∀ c, c < K → oAt owner (way m h c) ≠ none := by
  obtain ⟨n, hn, e⟩ := F.run h hj
  have at_n : way m h (off m (SetTable.bits h % (m + 1)) (SetTable.bits h) n) = j := by
    unfold way
    rw [nth_off, itL_run, ← e]
    rfl
  obtain ⟨K, k1, k2, k3⟩ := st_least (p := fun c => oAt owner (way m h c) = none) _ (by rw [at_n]; exact hf)
  have no : ∀ {x : Option Nat}, x ≠ none → x.isNone = false := fun {x} hx => by
    cases x with
    | none => exact absurd rfl hx
    | some _ => rfl
  exact ⟨K, free_spec m owner _ n _ _ K (by unfold SetTable.turns; omega) k1 (fun c hc => no (k3 c hc)) (by rw [show oAt owner (nth m (runAt m (SetTable.bits h % (m + 1)) (SetTable.bits h)) K).j = none from k2]; rfl), k2, k3⟩
theorem own_step {m : Nat} (F : FullM m) {done : List Int} {owner : Array (Option Nat)} (W : Own m done owner) (hl : done.length ≤ m) (h : Int) :
    ∃ j, SetTable.layClean.free m owner (SetTable.turns m) (SetTable.bits h % (m + 1)) (SetTable.bits h) = some j ∧ Own m (done ++ [h]) (owner.setIfInBounds j (some done.length)) := by
  obtain ⟨ps, hps, hin⟩ := W.ps
  obtain ⟨j0, h0, hn0⟩ := st_missing ps (m + 1) (by omega)
  have hj0 : oAt owner j0 = none := Classical.byContradiction fun z => hn0 (hin j0 (by omega) z)
  obtain ⟨K, e1, e2, e3⟩ := free_at F owner h (show j0 ≤ m by omega) hj0
  have hw := way_in m h K
  have hsz : way m h K < owner.size := by
    have := W.sz
    omega
  generalize hq : way m h K = j at e1 e2 hw hsz
  have hs := oAt_set_self (some done.length) hsz
  have hn : ∀ {i : Nat}, i ≠ j → oAt (owner.setIfInBounds j (some done.length)) i = oAt owner i := fun {i} hi => oAt_set_ne _ hi
  have more : ∀ {i : Nat}, oAt owner i ≠ none → oAt (owner.setIfInBounds j (some done.length)) i ≠ none := fun {i} hi => by
    by_cases c : i = j
    · rw [c, hs]
      simp
    · rw [hn c]
      exact hi
  have pre : ∀ {k : Nat} {x : Int}, done[k]? = some x → (done ++ [h])[k]? = some x := fun {k x} hk => by
    rw [List.getElem?_append_left (List.getElem?_eq_some_iff.mp hk).1]
    exact hk
  refine ⟨j, e1, ⟨by rw [Array.size_setIfInBounds]; exact W.sz, fun i k hi e => ?_, fun k hk => ?_, j :: ps, by simp [hps], fun i hi e => ?_⟩⟩
  · by_cases c : i = j
    · rw [c, hs] at e
      have ek := Option.some.inj e
      refine ⟨h, K, ?_, hq.trans c.symm, fun c' hc' => more (e3 c' hc')⟩
      rw [← ek]
      simp
    · rw [hn c] at e
      obtain ⟨x, K', a1, a2, a3⟩ := W.at_ i k hi e
      exact ⟨x, K', pre a1, a2, fun c' hc' => more (a3 c' hc')⟩
  · by_cases c : k < done.length
    · obtain ⟨i, hi, e⟩ := W.all k c
      have ne : i ≠ j := fun z => by
        rw [z, e2] at e
        cases e
      exact ⟨i, hi, by rw [hn ne]; exact e⟩
    · have ek : k = done.length := by
        rw [List.length_append, List.length_singleton] at hk
        omega
      exact ⟨j, hw, by rw [hs, ek]⟩
  · by_cases c : i = j
    · simp [c]
    · rw [hn c] at e
      exact List.mem_cons_of_mem _ (hin i hi e)
theorem own_all {m : Nat} (F : FullM m) : ∀ (rest done : List Int) (owner : Array (Option Nat)), Own m done owner → done.length + rest.length ≤ m →
    ∃ o2, rest.foldl (stepF m) (some (owner, done.length)) = some (o2, (done ++ rest).length) ∧ Own m (done ++ rest) o2
  | [], done, owner, W, _ => ⟨owner, by simp, by simpa using W⟩
  | x :: rest, done, owner, W, hl => by
    have hl' : done.length + (rest.length + 1) ≤ m := hl
    obtain ⟨j, e, W2⟩ := own_step F W (by omega) x
    obtain ⟨o2, f, W3⟩ := own_all F rest (done ++ [x]) _ W2 (by rw [List.length_append, List.length_singleton]; omega)
    have ea : done ++ [x] ++ rest = done ++ x :: rest := by simp
    rw [ea] at f W3
    refine ⟨o2, ?_, W3⟩
    rw [List.foldl_cons, stepF_some e]
    rwa [List.length_append, List.length_singleton] at f
theorem lay_clean {m : Nat} (F : FullM m) {hs : Array Int} (hn : hs.size ≤ m) : ∃ owner, SetTable.layClean m hs = some owner ∧ Own m hs.toList owner := by
  obtain ⟨o2, f, W⟩ := own_all F hs.toList [] _ (Own.init m) (by
    have z : hs.toList.length = hs.size := rfl
    rw [List.length_nil, z]
    omega)
  rw [List.nil_append] at f W
  refine ⟨o2, ?_, W⟩
  rw [layClean_eq]
  have f : hs.toList.foldl (stepF m) (some (Array.replicate (m + 1) none, 0)) = some (o2, hs.toList.length) := f
  rw [f]
  rfl
theorem laid_anew (t : SetTable) {hs : Array Int} {wanted M : Nat} (hw : SetTable.sizeAbove wanted - 1 = M) (F : FullM M) (hn : hs.size ≤ M) :
    ∃ t2 order, t.relaid hs wanted = some (t2, order) ∧ order.toList.Perm (List.range hs.size) ∧ TabF t2 (order.toList.map fun i => hs.getD i 0) ∧ t2.mask = M ∧ t2.led = t.led ∧ t2.plain = t.plain := by
  obtain ⟨owner, e, W⟩ := lay_clean F hn
  obtain ⟨r1, r2⟩ := ris_live (fun j => owner.getD j none) (List.range (M + 1)) (show List.Pairwise _ _ from List.pairwise_lt_range)
  have r1 : Ris ((liveOf M owner).map (·.1)) := r1
  have r2 : ∀ x ∈ (liveOf M owner).map (·.1), x ∈ List.range (M + 1) := r2
  have nd : ((liveOf M owner).map (·.1)).Nodup := List.Pairwise.imp (fun z => Nat.ne_of_lt z) r1
  have live : ∀ {j k : Nat}, (j, k) ∈ liveOf M owner ↔ j ≤ M ∧ oAt owner j = some k := mem_live W.sz
  have all : ∀ k, k < hs.size → k ∈ (liveOf M owner).map (·.2) := fun k hk => by
    obtain ⟨j, b1, b2⟩ := W.all k (by rw [Array.length_toList]; exact hk)
    exact List.mem_map.mpr ⟨(j, k), live.mpr ⟨b1, b2⟩, rfl⟩
  have hlen : (liveOf M owner).length = hs.size := by
    obtain ⟨ps, p1, p2⟩ := W.ps
    have a := nat_nodup_len ((liveOf M owner).map (·.1)) ps nd fun x hx => by
      obtain ⟨⟨y, k⟩, hq, e1⟩ := List.mem_map.mp hx
      obtain ⟨b1, b2⟩ := live.mp hq
      have e1 : y = x := e1
      rw [← e1]
      exact p2 y b1 (by rw [b2]; simp)
    have b := nat_nodup_len (List.range hs.size) ((liveOf M owner).map (·.2)) List.nodup_range fun k hk => all k (List.mem_range.mp hk)
    have z : hs.toList.length = hs.size := rfl
    rw [List.length_map, p1, z] at a
    rw [List.length_map, List.length_range] at b
    omega
  refine ⟨tabOf t M owner, ((liveOf M owner).map (·.2)).toArray, by rw [relaid_eq, hw, e]; rfl, ?_, ⟨r1, rfl, ?_, F, fun x hx => ?_, fun i h j h1 h2 => ?_⟩, rfl, rfl, rfl⟩
  · exact perm_range hs.size _ (by simpa using hlen) fun k hk => by simpa using all k hk
  · show ((liveOf M owner).map (·.1)).length = _
    simp
  · have := List.mem_range.mp (r2 x hx)
    show x ≤ M
    omega
  · have h1 : (((liveOf M owner).map (·.2)).map fun i => hs.getD i 0)[i]? = some h := h1
    have h2 : ((liveOf M owner).map (·.1))[i]? = some j := h2
    rw [List.getElem?_map, List.getElem?_map] at h1
    rw [List.getElem?_map] at h2
    obtain ⟨⟨y, k⟩, q1, q2⟩ := Option.map_eq_some_iff.mp h2
    rw [q1] at h1
    have ey : y = j := q2
    have eh : hs.getD k 0 = h := Option.some.inj h1
    subst ey
    obtain ⟨b1, b2⟩ := live.mp (List.mem_of_getElem? q1)
    obtain ⟨x, K, a1, a2, a3⟩ := W.at_ y k b1 b2
    have ex : hs.getD k 0 = x := by
      rw [Array.getD_eq_getD_getElem?, ← Array.getElem?_toList, a1]
      rfl
    have ex : x = h := ex.symm.trans eh
    subst ex
    refine ⟨K, a2, fun c hc => ?_⟩
    show L2.way M x c ∈ (liveOf M owner).map (·.1)
    obtain ⟨k2, z⟩ := Option.ne_none_iff_exists'.mp (a3 c hc)
    exact List.mem_map.mpr ⟨(L2.way M x c, k2), live.mpr ⟨way_in _ _ _, z⟩, rfl⟩
end Nf

set_option Elab.async false
set_option linter.all false
set_option maxRecDepth 100000
set_option maxHeartbeats 4000000
namespace Nf
open PySem PySem.Spec PyProof.Rows L2
/-! ### keys that are tuples in tuples, of numbers: what a set asks of them -/
mutual
def numsK : NestedKey → Bool
  | .none => false
  | .num _ => true
  | .text _ => false
  | .tup ks => numsKs ks
def numsKs : List NestedKey → Bool
  | [] => true
  | k :: ks => numsK k && numsKs ks
end
section
variable {P : Program} {w : World}
def ByVal (P : Program) (w : World) (n : Nat) (s : Shared) (v : Value) : Prop := ∀ (A : Around) (E : Value → Shared → Prop) (Q : Bool → Shared → Prop), Q true s → wpAny (model P w) A (hashByValue n v) Q E s
def NoStm (P : Program) (w : World) (n : Nat) (s : Shared) (v : Value) : Prop := ∀ (A : Around) (E : Value → Shared → Prop) (Q : Bool → Shared → Prop), Q false s → wpAny (model P w) A (ofAClassStatement n v) Q E s
theorem byVal_tup {n : Nat} {s : Shared} {b : Addr} {o : Obj} {vs : Array Value} {m : Nat} (ho : s.heap.get? b = some o) (hc : o.cls = .type "tuple") (hd : o.data = .seq vs m) (hq : ∀ v ∈ vs.toList, ByVal P w n s v) : ByVal P w (n + 1) s (.ref b) := fun A E Q h => by
  have hT : s.TypeIs (.ref b) "tuple" := ⟨o, ho, hc⟩
  unfold hashByValue
  refine wpAny_bind (wpAny_specialOf hT F.slot_tuple_hash.lookup ?_)
  show wpAny _ _ (seqItems? (.ref b) >>= _) _ _ s
  refine wpAny_bind (wpAny_seqItems ho hd ?_)
  refine wpAny_bind ?_
  show wpAny _ _ (forIn vs _ _) _ _ s
  rw [← Array.forIn_toList]
  refine wpAny_forIn_list _ (fun rest r s' => r.1 = none ∧ s' = s ∧ ∀ v ∈ rest, ByVal P w n s v) _ ?_ ?_ _ _ ⟨rfl, rfl, hq⟩
  · rintro v rest r s' ⟨hr, rfl, hall⟩
    refine wpAny_bind (hall v List.mem_cons_self _ _ _ ?_)
    simp only [Bool.not_true, Bool.false_eq_true, if_false]
    exact wpAny_pure ⟨rfl, rfl, fun u hu' => hall u (List.mem_cons_of_mem _ hu')⟩
  · rintro ⟨r1, r2⟩ s' ⟨hr, rfl, _⟩
    simp only at hr
    subst hr
    exact wpAny_pure h
theorem noStm_tup {n : Nat} {s : Shared} {b : Addr} {o : Obj} {vs : Array Value} {m : Nat} (ho : s.heap.get? b = some o) (hc : o.cls = .type "tuple") (hd : o.data = .seq vs m) (hq : ∀ v ∈ vs.toList, NoStm P w n s v) : NoStm P w (n + 1) s (.ref b) := fun A E Q h => by
  have hT : s.TypeIs (.ref b) "tuple" := ⟨o, ho, hc⟩
  unfold ofAClassStatement
  refine wpAny_bind (wpAny_typeOf hT ?_)
  dsimp only
  have e : (("tuple" : String) == "tuple") = true := by decide
  simp only [e, if_true, Bool.not_true, Bool.false_eq_true, if_false]
  try refine wpAny_bind (wpAny_pure ?_)
  try simp only [Bool.not_true, Bool.false_eq_true, if_false]
  show wpAny _ _ (seqItems? (.ref b) >>= _) _ _ s
  refine wpAny_bind (wpAny_seqItems ho hd ?_)
  dsimp only
  refine wpAny_bind ?_
  show wpAny _ _ (forIn vs _ _) _ _ s
  rw [← Array.forIn_toList]
  refine wpAny_forIn_list _ (fun rest r s' => r.1 = none ∧ s' = s ∧ ∀ v ∈ rest, NoStm P w n s v) _ ?_ ?_ _ _ ⟨rfl, rfl, hq⟩
  · rintro v rest r s' ⟨hr, rfl, hall⟩
    refine wpAny_bind (hall v List.mem_cons_self _ _ _ ?_)
    simp only [Bool.false_eq_true, if_false]
    exact wpAny_pure ⟨rfl, rfl, fun u hu' => hall u (List.mem_cons_of_mem _ hu')⟩
  · rintro ⟨r1, r2⟩ s' ⟨hr, rfl, _⟩
    simp only at hr
    subst hr
    exact wpAny_pure h
mutual
theorem byVal_key : ∀ (k : NestedKey) (v : Value) (n : Nat) (s : Shared), NestedIs s.heap k v → numsK k = true → k.depth ≤ n → ByVal P w n s v
  | .none, _, n, s, _, h, _ => by cases h
  | .num i, _, n, s, x, _, _ => by
    cases x with
    | bool e => exact fun A E Q q => by cases n <;> exact wpAny_pure q
    | int _ t => exact fun A E Q q => by cases n <;> exact wpAny_pure q
  | .text y, _, n, s, _, h, _ => by cases h
  | .tup ks, _, n, s, x, h, hn => by
    cases x with
    | tup hg hc hd hk =>
      simp only [NestedKey.depth] at hn
      cases n with
      | zero => omega
      | succ n => exact byVal_tup hg hc hd (byVal_keys ks _ n s hk h (by omega))
theorem byVal_keys : ∀ (ks : List NestedKey) (vs : List Value) (n : Nat) (s : Shared), NestedAll s.heap ks vs → numsKs ks = true → NestedKey.depthAll ks ≤ n → ∀ v ∈ vs, ByVal P w n s v
  | [], _, n, s, x, _, _, v, hv => by cases x; cases hv
  | k :: ks, _, n, s, x, h, hn, v, hv => by
    cases x with
    | cons x1 x2 =>
      simp only [NestedKey.depthAll] at hn
      have h1 : numsK k = true ∧ numsKs ks = true := by
        have z : (numsK k && numsKs ks) = true := h
        rwa [Bool.and_eq_true] at z
      rcases List.mem_cons.mp hv with e | hv
      · rw [e]; exact byVal_key k _ n s x1 h1.1 (by omega)
      · exact byVal_keys ks _ n s x2 h1.2 (by omega) v hv
end
mutual
theorem noStm_key : ∀ (k : NestedKey) (v : Value) (n : Nat) (s : Shared), NestedIs s.heap k v → numsK k = true → k.depth ≤ n → NoStm P w n s v
  | .none, _, n, s, _, h, _ => by cases h
  | .num i, _, n, s, x, _, _ => by
    cases x with
    | bool e => exact fun A E Q q => by cases n <;> exact wpAny_pure q
    | int _ t => exact fun A E Q q => by cases n <;> exact wpAny_pure q
  | .text y, _, n, s, _, h, _ => by cases h
  | .tup ks, _, n, s, x, h, hn => by
    cases x with
    | tup hg hc hd hk =>
      simp only [NestedKey.depth] at hn
      cases n with
      | zero => omega
      | succ n => exact noStm_tup hg hc hd (noStm_keys ks _ n s hk h (by omega))
theorem noStm_keys : ∀ (ks : List NestedKey) (vs : List Value) (n : Nat) (s : Shared), NestedAll s.heap ks vs → numsKs ks = true → NestedKey.depthAll ks ≤ n → ∀ v ∈ vs, NoStm P w n s v
  | [], _, n, s, x, _, _, v, hv => by cases x; cases hv
  | k :: ks, _, n, s, x, h, hn, v, hv => by
    cases x with
    | cons x1 x2 =>
      simp only [NestedKey.depthAll] at hn
      have h1 : numsK k = true ∧ numsKs ks = true := by
        have z : (numsK k && numsKs ks) = true := h
        rwa [Bool.and_eq_true] at z
      rcases List.mem_cons.mp hv with e | hv
      · rw [e]; exact noStm_key k _ n s x1 h1.1 (by omega)
      · exact noStm_keys ks _ n s x2 h1.2 (by omega) v hv
end
/-- the tuple at b is the key k, of numbers -/
structure IsN (h : Heap) (k : NestedKey) (b : Addr) : Prop where
  is : NestedIs h k (.ref b)
  dep : k.depth ≤ 8
  num : numsK k = true
theorem IsN.knd {h : Heap} {k : NestedKey} {b : Addr} (x : IsN h k b) : (nestedKind P w).is h k b := ⟨x.is, x.dep⟩
theorem IsN.move {h h' : Heap} {k : NestedKey} {b : Addr} (x : IsN h k b) (hk : ∀ c o vs n, h.get? c = some o → o.data = .seq vs n → h'.get? c = some o) : IsN h' k b := ⟨NestedIs.at hk _ _ x.is, x.dep, x.num⟩
theorem IsN.same {h h' : Heap} {k : NestedKey} {a b : Addr} {o : Obj} {es : Array (Int × Value)} {ep : Nat} {t : SetTable} (x : IsN h k b) (ho : h.get? a = some o) (hd : o.data = .set es ep t) (hs : Heap.SameBut a h h') : IsN h' k b := x.move fun c u vs n e q => by
  have hne : c ≠ a := by
    rintro rfl
    obtain rfl : u = o := Option.some.inj (e.symm.trans ho)
    rw [hd] at q
    exact nomatch q
  exact (hs.2 c hne).trans e
/-- a search among such tuples shows nothing -/
theorem seen_n {A : Around} {E : Value → Shared → Prop} {s : Shared} {k : NestedKey} {b : Addr} {Q : Bool → Shared → Prop} (hk : IsN s.heap k b) {ys : List Value} (hy : ∀ y ∈ ys, ∃ k' c, y = Value.ref c ∧ IsN s.heap k' c) (h : Q false s) :
    wpAny (model P w) A (searchCouldBeSeen (.ref b) ys) Q E s := by
  unfold searchCouldBeSeen
  refine wpAny_bind ?_
  refine wpAny_forIn_list _ (fun rest r s' => r.1 = none ∧ s' = s ∧ ∀ y ∈ rest, ∃ k' c, y = Value.ref c ∧ IsN s.heap k' c) _ ?_ ?_ _ _ ⟨rfl, rfl, hy⟩
  · rintro v rest r s' ⟨hr, rfl, hall⟩
    obtain ⟨k', c, rfl, hc⟩ := hall v List.mem_cons_self
    have rest' : ∀ y ∈ rest, ∃ k' c, y = Value.ref c ∧ IsN s'.heap k' c := fun u hu' => hall u (List.mem_cons_of_mem _ hu')
    dsimp only
    by_cases hv : (b == c || (carriedByValue (.ref b) && carriedByValue (.ref c))) = true
    · refine wp_if_pos hv ?_
      exact wpAny_pure ⟨rfl, rfl, rest'⟩
    · refine wp_if_neg hv ?_
      refine wpAny_bind (quiet_key k _ 8 s' hk.is hk.dep _ _ _ ?_)
      simp only [Bool.not_true, Bool.false_eq_true, if_false]
      refine wpAny_bind (quiet_key k' _ 8 s' hc.is hc.dep _ _ _ ?_)
      simp only [Bool.not_true, Bool.false_eq_true, if_false]
      refine wpAny_bind (noStm_key k _ 8 s' hk.is hk.num hk.dep _ _ _ ?_)
      simp only [Bool.false_eq_true, if_false]
      refine wpAny_bind (noStm_key k' _ 8 s' hc.is hc.num hc.dep _ _ _ ?_)
      simp only [Bool.false_eq_true, if_false]
      exact wpAny_pure ⟨rfl, rfl, rest'⟩
  · rintro ⟨r1, r2⟩ s' ⟨hr, rfl, _⟩
    simp only at hr
    subst hr
    exact wpAny_pure h
end
end Nf

set_option Elab.async false
set_option linter.all false
set_option maxRecDepth 100000
set_option maxHeartbeats 4000000
namespace Nf
open PySem PySem.Spec PyProof.Rows L2
/-! ### sets of tuples in tuples -/
theorem grow5n : SetTable.sizeAbove (SetTable.grown 5) = 32 := by decide +kernel
theorem grow19n : SetTable.sizeAbove (SetTable.grown 19) = 128 := by decide +kernel
theorem grow77n : SetTable.sizeAbove (SetTable.grown 77) = 512 := by decide +kernel
theorem grow307n : SetTable.sizeAbove (SetTable.grown 307) = 2048 := by decide +kernel
theorem grow1229n : SetTable.sizeAbove (SetTable.grown 1229) = 8192 := by decide +kernel

def rowsN (w : World) (L : List (Addr × NestedKey)) : List (Int × Value) := L.map fun p => (NestedKey.hash w p.2, Value.ref p.1)
theorem getD_range {α : Type} (d : α) (l : List α) : (List.range l.length).map (fun i => l.getD i d) = l := by
  refine List.ext_getElem? fun i => ?_
  rw [List.getElem?_map]
  by_cases h : i < l.length
  · rw [List.getElem?_range h, List.getElem?_eq_getElem h, Option.map_some, List.getD_eq_getElem?_getD, List.getElem?_eq_getElem h]
    rfl
  · rw [List.getElem?_eq_none (by rw [List.length_range]; omega), List.getElem?_eq_none (by omega)]
    rfl
theorem order_rowsN {w : World} (L : List (Addr × NestedKey)) (es : Array (Int × Value)) (order : Array Nat) (hr : es.toList = rowsN w L) (hp : order.toList.Perm (List.range L.length)) :
    ∃ L2, (order.filterMap (es[·]?)).toList = rowsN w L2 ∧ L2.Perm L ∧ (L2.map fun p => NestedKey.hash w p.2) = order.toList.map fun i => (es.map (·.1)).getD i 0 := by
  have hb : ∀ i ∈ order.toList, i < L.length := fun i hi => List.mem_range.mp (hp.mem_iff.mp hi)
  have he : ∀ i, i < L.length → es[i]? = some (NestedKey.hash w (L.getD i (0, .none)).2, Value.ref (L.getD i (0, .none)).1) := fun i hi => by
    rw [← Array.getElem?_toList, hr]
    unfold rowsN
    rw [List.getElem?_map, List.getElem?_eq_getElem hi, List.getD_eq_getElem?_getD, List.getElem?_eq_getElem hi]
    rfl
  refine ⟨order.toList.map fun i => L.getD i (0, .none), ?_, (hp.map _).trans (.of_eq (getD_range _ L)), ?_⟩
  · have e1 : (order.filterMap (es[·]?)).toList = order.toList.filterMap fun i => es[i]? := by simp
    rw [e1]
    unfold rowsN
    rw [List.map_map]
    clear hp e1
    generalize order.toList = l at hb
    induction l with
    | nil => rfl
    | cons i l ih =>
      rw [List.filterMap_cons_some (he i (hb i List.mem_cons_self)), ih fun j hj => hb j (List.mem_cons_of_mem _ hj)]
      rfl
  · rw [List.map_map]
    refine List.map_congr_left fun i hi => ?_
    have h1 : (es.map (·.1))[i]? = some (NestedKey.hash w (L.getD i (0, .none)).2) := by rw [Array.getElem?_map, he i (hb i hi)]; rfl
    simp [Array.getD_eq_getD_getElem?, h1]
theorem rows_putN {w : World} (L : List (Addr × NestedKey)) (p : Nat) (x : Addr) (k : NestedKey) : rowsN w (L.take p ++ (x, k) :: L.drop p) = (rowsN w L).take p ++ (NestedKey.hash w k, Value.ref x) :: (rowsN w L).drop p := by
  unfold rowsN
  rw [List.map_append, List.map_cons, List.map_take, List.map_drop]
structure SetN (P : Program) (w : World) (h : Heap) (a : Addr) (L : List (Addr × NestedKey)) (es : Array (Int × Value)) (ep : Nat) (t : SetTable) : Prop where
  obj : ∃ o, h.get? a = some o ∧ o.ExactSet ∧ o.data = .set es ep t
  ent : es.toList = rowsN w L
  tab : TabF t (L.map fun p => NestedKey.hash w p.2)
  nod : (L.map (·.2)).Nodup
  pl : t.plain = true
  led : w.params.followText "set-order" = true ∨ t.led = true
  room : L.length * 5 < t.mask * 3
  few : L.length ≤ 4800
section
variable {P : Program} {w : World} {A : Around} {E : Value → Shared → Prop} {s : Shared} {a : Addr} {L : List (Addr × NestedKey)} {es : Array (Int × Value)} {ep : Nat} {t : SetTable}
theorem SetN.sz {h : Heap} (R : SetN P w h a L es ep t) : es.size = L.length := by
  have e := congrArg List.length R.ent
  have z : es.toList.length = es.size := rfl
  rw [z] at e
  rw [e]
  simp [rowsN]
theorem SetN.psz {h : Heap} (R : SetN P w h a L es ep t) : t.place.size = L.length := by
  have e := R.tab.cnt
  rw [List.length_map] at e
  exact e
theorem SetN.fit {h : Heap} (R : SetN P w h a L es ep t) : t.fits es.size = true := by
  have e1 := R.sz
  have e2 := R.psz
  have e3 := R.room
  unfold SetTable.fits SetTable.fill
  rw [R.tab.nod]
  simp only [Bool.and_eq_true, beq_iff_eq, decide_eq_true_eq]
  constructor
  · omega
  · show t.place.size + 0 ≤ t.mask
    omega
theorem SetN.at_ {h : Heap} (R : SetN P w h a L es ep t) {i : Nat} {p : Addr × NestedKey} (e : L[i]? = some p) : es[i]? = some (NestedKey.hash w p.2, Value.ref p.1) := by
  have e2 : es.toList[i]? = some (NestedKey.hash w p.2, Value.ref p.1) := by
    rw [R.ent]
    unfold rowsN
    rw [List.getElem?_map, e]
    rfl
  rwa [Array.getElem?_toList] at e2
theorem SetN.whole {h : Heap} (R : SetN P w h a L es ep t) : ¬ t.gaveWay = true := by
  unfold SetTable.gaveWay
  rw [R.tab.full.odd]
  decide

theorem nth_dm (m : Nat) : ∀ (n : Nat) (p : SetTable.Probe), p.dummy = none → (nth m p n).dummy = none
  | 0, _, h => h
  | n + 1, p, h => nth_dm m n (adv m p) (by unfold adv; split <;> exact h)
/-- the search for one to be put in: at a like hash the tuples are held against each other -/
theorem look_n (R : SetN P w s.heap a L es ep t) (tup : ∀ p ∈ L, IsN s.heap p.2 p.1) {x : Addr} {k : NestedKey} (hx : IsN s.heap k x) (hu : A.units + 8 < cLine) {K : Nat} (k1 : K < 10 * SetTable.turns t.mask)
    (k2 : way t.mask (NestedKey.hash w k) K ∉ t.place.toList) (k3 : ∀ c, c < K → way t.mask (NestedKey.hash w k) c ∈ t.place.toList) {Q : SetFound → Shared → Prop}
    (hin : k ∈ L.map (·.2) → Q (.there none) s) (hout : k ∉ L.map (·.2) → Q (.free (way t.mask (NestedKey.hash w k) K) false) s) :
    ∀ (n q fuel : Nat) (stand : Option SetTable.Probe), q + n = K → n < fuel → stand.getD (t.probeStart (NestedKey.hash w k)) = nth t.mask (t.probeStart (NestedKey.hash w k)) q →
      (∀ (c i : Nat) (p : Addr × NestedKey), c < q → t.place.toList[i]? = some (way t.mask (NestedKey.hash w k) c) → L[i]? = some p → p.2 ≠ k) →
      wpAny (model P w) A (setSearchFrom a (.ref x) (NestedKey.hash w k) true fuel stand) Q E s := by
  obtain ⟨o, ho, hex, hd⟩ := R.obj
  have hlen := R.psz
  have hat : ∀ (i : Nat) (p : Addr × NestedKey), L[i]? = some p → (es[i]?.map (·.1)).getD 0 = NestedKey.hash w p.2 := fun i p hp => by
    rw [R.at_ hp]
    rfl
  have z : t.place.toList.length = t.place.size := rfl
  have find : ∀ (i j : Nat), t.place.toList[i]? = some j → ∃ p, L[i]? = some p ∧ p ∈ L := fun i j hj => by
    have l1 := (List.getElem?_eq_some_iff.mp hj).1
    have l2 : i < L.length := by omega
    exact ⟨_, List.getElem?_eq_getElem l2, List.getElem_mem l2⟩
  intro n
  induction n using Nat.strongRecOn with
  | ind n ih =>
    intro q fuel stand hqn hf hst hbef
    cases fuel with
    | zero => omega
    | succ fuel =>
    have ew : ∀ c, (nth t.mask (nth t.mask (t.probeStart (NestedKey.hash w k)) q) c).j = way t.mask (NestedKey.hash w k) (q + c) := fun c => by
      rw [← nth_add]
      rfl
    rw [setSearchFrom_succ]
    refine wpAny_bind (wpAny_setState_of ho hd R.fit ?_)
    dsimp only
    refine wp_if_neg R.whole ?_
    try refine wpAny_bind (wpAny_pure ?_)
    rw [hst]
    rcases go_spec t R.tab.up R.tab.nod (fun i => (es[i]?.map (·.1)).getD 0) (NestedKey.hash w k) (10 * SetTable.turns t.mask) n (nth t.mask (t.probeStart (NestedKey.hash w k)) q) (nth_dm _ _ _ rfl) (by omega)
        (fun c hc => by rw [ew]; exact k3 _ (by omega)) (by rw [ew, hqn]; exact k2) with ⟨c, i, hc, hi, hh, hno, hpr⟩ | ⟨hno, hpr⟩
    · have hpr2 : t.probe (fun i => (es[i]?.map (·.1)).getD 0) (NestedKey.hash w k) (nth t.mask (t.probeStart (NestedKey.hash w k)) q) = _ := hpr
      rw [hpr2]
      dsimp only
      rw [ew] at hi
      obtain ⟨p, hp, hm⟩ := find i _ hi
      have rest : wpAny (model P w) A (searchRest a (.ref x) (NestedKey.hash w k) true fuel es t (nth t.mask (nth t.mask (t.probeStart (NestedKey.hash w k)) q) c).j i (nth t.mask (nth t.mask (t.probeStart (NestedKey.hash w k)) q) (c + 1))) Q E s := by
        unfold searchRest
        rw [R.at_ hp]
        dsimp only
        refine wpAny_bind (wpAny_holding ((nestedKind P w).eqBool (by show A.units + 8 < cLine; exact hu) (tup p hm).knd hx.knd ?_))
        refine wpAny_bind (wpAny_setState_of ho hd R.fit ?_)
        dsimp only
        by_cases ek : p.2 = k
        · rw [decide_eq_true ek]
          refine wp_if_pos rfl ?_
          exact wpAny_pure (hin (List.mem_map.mpr ⟨p, hm, ek⟩))
        · rw [decide_eq_false ek]
          refine wp_if_neg (by simp) ?_
          try refine wpAny_bind (wpAny_pure ?_)
          rw [sameMem]
          dsimp only
          have hsl : t.slot (nth t.mask (nth t.mask (t.probeStart (NestedKey.hash w k)) q) c).j = .live i := by
            rw [ew]
            exact slot_live R.tab.up hi
          simp only [if_true, hsl, R.at_ hp]
          refine wpAny_bind (wpAny_isSame_ref_self (wpAny_bind (wpAny_pure ?_)))
          simp only [if_true]
          refine wp_if_neg (by simp) ?_
          refine ih (n - (c + 1)) (by omega) (q + (c + 1)) fuel (some _) (by omega) (by omega) (by rw [← nth_add]; rfl) fun c2 i2 p2 h1 h2 h3 => ?_
          rcases Nat.lt_or_ge c2 q with g | g
          · exact hbef c2 i2 p2 g h2 h3
          · by_cases hcc : c2 = q + c
            · subst hcc
              have e1 : i2 = i := by
                have s1 := slot_live R.tab.up h2
                have s2 := slot_live R.tab.up hi
                rw [s1] at s2
                injection s2
              subst e1
              rw [hp] at h3
              cases h3
              exact ek
            · intro e2
              have hlt : c2 - q < c := by omega
              refine hno (c2 - q) i2 hlt (by rw [ew, show q + (c2 - q) = c2 by omega]; exact h2) ?_
              exact (hat i2 p2 h3).trans (by rw [e2])
      by_cases hl : t.led = true
      · refine wp_if_neg (by simp [hl]) ?_
        try refine wpAny_bind (wpAny_pure ?_)
        exact rest
      · refine wp_if_pos (by simp [hl]) ?_
        refine wpAny_bind (seen_n hx (fun y hy => ?_) ?_)
        · obtain ⟨e, he, ee⟩ := List.mem_map.mp hy
          have he1 : e ∈ es.toList := by
            have : e ∈ es ∧ e.1 = NestedKey.hash w k := by simpa using he
            simpa using this.1
          rw [R.ent] at he1
          obtain ⟨p2, hp2, e2⟩ := List.mem_map.mp he1
          exact ⟨p2.2, p2.1, by rw [← ee, ← e2], tup p2 hp2⟩
        · refine wp_if_neg (by decide) ?_
          try refine wpAny_bind (wpAny_pure ?_)
          exact rest
    · have hpr2 : t.probe (fun i => (es[i]?.map (·.1)).getD 0) (NestedKey.hash w k) (nth t.mask (t.probeStart (NestedKey.hash w k)) q) = _ := hpr
      rw [hpr2]
      dsimp only
      rw [ew, hqn]
      refine wpAny_pure (hout fun hm => ?_)
      obtain ⟨p, hp, ek⟩ := List.mem_map.mp hm
      obtain ⟨i, hi⟩ := List.mem_iff_getElem?.mp hp
      have l1 := (List.getElem?_eq_some_iff.mp hi).1
      obtain ⟨j, hj⟩ : ∃ j, t.place.toList[i]? = some j := ⟨_, List.getElem?_eq_getElem (by omega)⟩
      obtain ⟨c, c1, c2⟩ := R.tab.ahead (h := NestedKey.hash w k) k2 (by rw [List.getElem?_map, hi, ← ek]; rfl) hj
      rcases Nat.lt_or_ge c q with g | g
      · exact hbef c i p g (by rw [hj, c2]) hi ek
      · exact hno (c - q) i (by omega) (by rw [ew, show q + (c - q) = c by omega, hj, c2]) ((hat i p hi).trans (by rw [ek]))
end
section
variable {P : Program} {w : World} {A : Around} {E : Value → Shared → Prop} {s : Shared} {a : Addr} {L : List (Addr × NestedKey)} {es : Array (Int × Value)} {ep : Nat} {t : SetTable}
/-- laid anew in a larger table -/
theorem relay_n {o : Obj} (ho : s.heap.get? a = some o) (hex : o.ExactSet) (hd : o.data = .set es ep t) (ent : es.toList = rowsN w L) (hp : t.place.toList.length = L.length) (hdm : t.dummies = #[]) (hfl : L.length ≤ t.mask)
    (nod : (L.map (·.2)).Nodup) (pl : t.plain = true) (led : w.params.followText "set-order" = true ∨ t.led = true) (few : L.length ≤ 4800) {wanted M : Nat} (hw : SetTable.sizeAbove wanted - 1 = M) (F : FullM M) (hw2 : SetTable.sizeAbove wanted ≤ 8192) (room : L.length * 5 < M * 3) {Q : Unit → Shared → Prop}
    (hQ : ∀ h2 L2 es2 ep2 t2, Heap.SameBut a s.heap h2 → SetN P w h2 a L2 es2 ep2 t2 → L2.Perm L → Q () { s with heap := h2 }) : wpAny (model P w) A (setRelay a wanted) Q E s := by
  have esz : es.size = L.length := by
    have e := congrArg List.length ent
    have z : es.toList.length = es.size := rfl
    rw [z] at e
    rw [e]
    simp [rowsN]
  have psz : t.place.size = L.length := hp
  have big : (100000 : Nat) < sizeLine := by decide
  have fit : t.fits es.size = true := by
    unfold SetTable.fits SetTable.fill
    rw [hdm]
    simp only [Bool.and_eq_true, beq_iff_eq, decide_eq_true_eq]
    refine ⟨by omega, ?_⟩
    show t.place.size + 0 ≤ t.mask
    omega
  obtain ⟨t2, order, e, pm, T, em, el, epl⟩ := laid_anew t (hs := es.map (·.1)) hw F (by rw [Array.size_map]; omega)
  rw [Array.size_map, esz] at pm
  obtain ⟨L2, r1, r2, r3⟩ := order_rowsN L es order ent pm
  rw [← r3] at T
  have osz : (order.filterMap (es[·]?)).size = es.size := by
    have e := congrArg List.length r1
    have z : (order.filterMap (es[·]?)).toList.length = (order.filterMap (es[·]?)).size := rfl
    rw [z] at e
    rw [e, esz, ← r2.length_eq]
    simp [rowsN]
  rw [setRelay_eq]
  refine wpAny_bind (wpAny_setState_of ho hd fit ?_)
  dsimp only
  refine wp_if_neg (by omega) ?_
  try refine wpAny_bind (wpAny_pure ?_)
  rw [e]
  dsimp only
  refine wpAny_bind ?_
  refine wp_if_neg (by rw [osz]; simp) ?_
  try refine wpAny_bind (wpAny_pure ?_)
  refine wpAny_pure ?_
  dsimp only
  refine wpAny_storeSet_of ho hd ?_ (by rw [osz, esz]; omega)
  refine hQ _ L2 _ (ep + 1) t2 (Heap.SameBut.update ..) ⟨⟨_, store_at ho hd, ⟨hex.1, hex.2.1, hex.2.2⟩, rfl⟩, r1, T, (r2.map (·.2)).nodup_iff.mpr nod, epl.trans pl, by rw [el]; exact led, ?_, by rw [r2.length_eq]; exact few⟩ r2
  rw [r2.length_eq, em]
  exact room
theorem add_n (R : SetN P w s.heap a L es ep t) (tup : ∀ p ∈ L, IsN s.heap p.2 p.1) {x : Addr} {k : NestedKey} (hx : IsN s.heap k x) (hu : A.units + 8 < cLine) (hfew : L.length + 1 ≤ 4800) {Q : Bool → Shared → Prop}
    (hQ : ∀ b h2 L2 es2 ep2 t2, Heap.SameBut a s.heap h2 → SetN P w h2 a L2 es2 ep2 t2 → (k ∈ L.map (·.2) → L2 = L) → (k ∉ L.map (·.2) → L2.Perm ((x, k) :: L)) → Q b { s with heap := h2 }) :
    wpAny (model P w) A (setAddHashed a (.ref x) (NestedKey.hash w k)) Q E s := by
  obtain ⟨o, ho, hex, hd⟩ := R.obj
  have big : (100000 : Nat) < sizeLine := by decide
  unfold setAddHashed
  refine wpAny_holding ?_
  rw [show (100000 : Nat) = 99999 + 1 from rfl, setAddHashedIn_succ]
  refine wpAny_bind (wpAny_setState_of ho hd R.fit ?_)
  dsimp only
  refine wp_if_neg (by simp [byScan, Value.scannable]) ?_
  try refine wpAny_bind (wpAny_pure ?_)
  have hroom0 := R.room
  obtain ⟨K, k1, hK, hb⟩ := R.tab.gap (by rw [List.length_map]; omega) (NestedKey.hash w k)
  have hbig : K < 100000 := by
    have : SetTable.turns t.mask ≤ 9000 := by
      unfold SetTable.turns
      rcases R.tab.full.one with e | e | e | e | e | e <;> omega
    omega
  unfold setSearch
  refine wpAny_bind (look_n R tup hx hu k1 hK hb (fun hm => ?_) (fun hm => ?_) K 0 100000 none (Nat.zero_add _) hbig rfl fun c i p hc => absurd hc (Nat.not_lt_zero _))
  · exact wpAny_pure (hQ false s.heap L es ep t (Heap.SameBut.refl a s.heap) R (fun _ => rfl) fun z => absurd hm z)
  dsimp only
  refine wpAny_bind (wpAny_setState_of ho hd R.fit ?_)
  dsimp only
  obtain ⟨t1, p, ep1, hp, T1, em, el, epl, ef⟩ := R.tab.add hK hb
  rw [ep1]
  dsimp only
  have pl1 : t1.plain = true := epl.trans R.pl
  first
    | (refine wpAny_bind ?_; refine wp_if_pos pl1 ?_; refine byVal_key k _ 8 _ hx.is hx.num hx.dep _ _ _ ?_)
    | refine wp_if_pos pl1 (wpAny_bind (byVal_key k _ 8 _ hx.is hx.num hx.dep _ _ _ ?_))
  simp only [if_true]
  have epos : p = SetTable.below t.place (way t.mask (NestedKey.hash w k) K) := (congrArg Prod.snd ep1).symm
  have pm := put_perm L p (x, k)
  have ent1 : (SetTable.insertAt es p (NestedKey.hash w k, Value.ref x)).toList = rowsN w (L.take p ++ (x, k) :: L.drop p) := by
    rw [SetTable.toList_insertAt, rows_putN, R.ent]
  have T2 : TabF t1 ((L.take p ++ (x, k) :: L.drop p).map fun p => NestedKey.hash w p.2) := by
    rw [List.map_append, List.map_cons, List.map_take, List.map_drop]
    exact T1
  rw [List.length_map] at ef
  generalize SetTable.insertAt es p (NestedKey.hash w k, Value.ref x) = es1 at ent1 ⊢
  generalize L.take p ++ (x, k) :: L.drop p = L1 at pm ent1 T2
  have l1 : L1.length = L.length + 1 := pm.length_eq
  have nod1 : (L1.map (·.2)).Nodup := (pm.map (·.2)).nodup_iff.mpr (List.nodup_cons.mpr ⟨hm, R.nod⟩)
  have esz1 : es1.size = L1.length := by
    have e := congrArg List.length ent1
    have z : es1.toList.length = es1.size := rfl
    rw [z] at e
    rw [e]
    simp [rowsN]
  refine wpAny_bind (wpAny_storeSet_of ho hd ?_ (by rw [esz1]; omega))
  have sb : Heap.SameBut a s.heap (s.heap.update a (Obj.putSet es1 t1)) := Heap.SameBut.update ..
  have ho1 := store_at (es' := es1) (t' := t1) ho hd
  generalize s.heap.update a (Obj.putSet es1 t1) = h1 at sb ho1 ⊢
  have led1 : w.params.followText "set-order" = true ∨ t1.led = true := by
    rw [el]
    exact R.led
  have hroom := R.room
  have esz := R.sz
  by_cases hf : t1.tooFull = true
  · have full : (L.length + 1) * 5 ≥ t.mask * 3 := by
      have z := hf
      unfold SetTable.tooFull at z
      rw [decide_eq_true_eq, ef, em] at z
      exact z
    have go : ∀ M, SetTable.sizeAbove (SetTable.grown (es.size + 1)) - 1 = M → FullM M → SetTable.sizeAbove (SetTable.grown (es.size + 1)) ≤ 8192 → (L.length + 1) * 5 < M * 3 →
        wpAny (model P w) A (setRelay a (SetTable.grown (es.size + 1))) (fun _ s' => wpAny (model P w) A (pure true) Q E s') E { s with heap := h1 } := fun M g1 g2 g3 g4 => by
      refine relay_n (s := { s with heap := h1 }) ho1 ⟨hex.1, hex.2.1, hex.2.2⟩ rfl ent1 (by rw [T2.cnt, List.length_map]) T2.nod (by rw [em]; omega) nod1 pl1 led1 (by omega) g1 g2 g3 (by rw [l1]; exact g4) ?_
      intro h2 L2 es2 ep2 t2 sb2 R2 pm2
      exact wpAny_pure (hQ true h2 L2 es2 ep2 t2 (sb.trans sb2) R2 (fun z => absurd z hm) fun _ => pm2.trans pm)
    have main : wpAny (model P w) A (setRelay a (SetTable.grown (es.size + 1))) (fun _ s' => wpAny (model P w) A (pure true) Q E s') E { s with heap := h1 } := by
      rcases R.tab.full.one with e | e | e | e | e | e
      · rw [e] at full hroom
        have e2 : es.size + 1 = 5 := by omega
        exact go 31 (by rw [e2, grow5n]) full31 (by rw [e2, grow5n]; decide) (by omega)
      · rw [e] at full hroom
        have e2 : es.size + 1 = 19 := by omega
        exact go 127 (by rw [e2, grow19n]) full127 (by rw [e2, grow19n]; decide) (by omega)
      · rw [e] at full hroom
        have e2 : es.size + 1 = 77 := by omega
        exact go 511 (by rw [e2, grow77n]) full511 (by rw [e2, grow77n]; decide) (by omega)
      · rw [e] at full hroom
        have e2 : es.size + 1 = 307 := by omega
        exact go 2047 (by rw [e2, grow307n]) full2047 (by rw [e2, grow307n]; decide) (by omega)
      · rw [e] at full hroom
        have e2 : es.size + 1 = 1229 := by omega
        exact go 8191 (by rw [e2, grow1229n]) full8191 (by rw [e2, grow1229n]; decide) (by omega)
      · rw [e] at full
        omega
    first
      | (refine wpAny_bind ?_; refine wp_if_pos (by simp [hf]) ?_; exact main)
      | (refine wp_if_pos (by simp [hf]) ?_; exact wpAny_bind main)
  · have hroom1 : L1.length * 5 < t1.mask * 3 := by
      have z := hf
      unfold SetTable.tooFull at z
      rw [decide_eq_true_eq, ef] at z
      omega
    have fin : wpAny (model P w) A (pure true) Q E { s with heap := h1 } :=
      wpAny_pure (hQ true h1 L1 es1 (ep + 1) t1 sb ⟨⟨_, ho1, ⟨hex.1, hex.2.1, hex.2.2⟩, rfl⟩, ent1, T2, nod1, pl1, led1, hroom1, by omega⟩ (fun z => absurd z hm) fun _ => pm)
    first
      | (refine wp_if_neg (by simp [hf]) ?_; exact fin)
      | (refine wpAny_bind ?_; refine wp_if_neg (by simp [hf]) ?_; exact wpAny_pure fin)
end
end Nf

set_option Elab.async false
set_option linter.all false
set_option maxRecDepth 100000
set_option maxHeartbeats 4000000
namespace Nf
open PySem PySem.Spec PyProof.Rows L2
/-! ### len(set(list of texts)), the texts as they may be -/
section
variable {T : Type} [DecidableEq T]
/-- what was met among the first i, each once -/
def metT (val : Nat → T) : Nat → List T
  | 0 => []
  | i + 1 => if val i ∈ metT val i then metT val i else metT val i ++ [val i]
theorem metT_le (val : Nat → T) : ∀ i, (metT val i).length ≤ i
  | 0 => Nat.le_refl _
  | i + 1 => by
    have ih := metT_le val i
    unfold metT
    split
    · omega
    · rw [List.length_append, List.length_singleton]
      omega
theorem metT_mem (val : Nat → T) (x : T) : ∀ i, x ∈ metT val i ↔ ∃ j, j < i ∧ val j = x
  | 0 => by simp [metT]
  | i + 1 => by
    have ih := metT_mem val x i
    have step : x ∈ metT val (i + 1) ↔ (x ∈ metT val i ∨ val i = x) := by
      rw [metT]
      split
      · rename_i h
        constructor
        · exact .inl
        · rintro (z | rfl)
          · exact z
          · exact h
      · rw [List.mem_append, List.mem_singleton]
        exact or_congr Iff.rfl eq_comm
    rw [step, ih]
    constructor
    · rintro (⟨j, h1, h2⟩ | h)
      · exact ⟨j, by omega, h2⟩
      · exact ⟨i, by omega, h⟩
    · rintro ⟨j, h1, h2⟩
      rcases Nat.lt_succ_iff_lt_or_eq.mp h1 with h | rfl
      · exact .inl ⟨j, h, h2⟩
      · exact .inr h2
theorem metT_full (val : Nat → T) : ∀ i, (metT val i).length = i ↔ ∀ j k, j < k → k < i → val j ≠ val k
  | 0 => ⟨fun _ j k _ h => by omega, fun _ => rfl⟩
  | i + 1 => by
    have ih := metT_full val i
    have hm := metT_mem val (val i) i
    have hl := metT_le val i
    rw [metT]
    split
    · rename_i h
      obtain ⟨j, h1, h2⟩ := hm.mp h
      exact ⟨fun e => by omega, fun e => absurd h2 (e j i h1 (Nat.lt_succ_self i))⟩
    · rename_i h
      rw [List.length_append, List.length_singleton]
      constructor
      · intro e j k hj hk
        rcases Nat.lt_succ_iff_lt_or_eq.mp hk with hk | rfl
        · exact ih.mp (by omega) j k hj hk
        · exact fun z => h (hm.mpr ⟨j, hj, z⟩)
      · intro e
        rw [ih.mpr fun j k h1 h2 => e j k h1 (by omega)]
theorem metT_list (xs : List T) (d : T) : (metT (fun i => xs.getD i d) xs.length).length = xs.length ↔ xs.Nodup := by
  rw [metT_full]
  constructor
  · intro h
    refine List.pairwise_iff_getElem.mpr fun i j hi hj hij => ?_
    have z := h i j hij hj
    rwa [List.getD_eq_getElem?_getD, List.getD_eq_getElem?_getD, List.getElem?_eq_getElem hi, List.getElem?_eq_getElem hj] at z
  · intro h i j hij hj
    have hi : i < xs.length := by omega
    have z := List.pairwise_iff_getElem.mp h i j hi hj hij
    rwa [List.getD_eq_getElem?_getD, List.getD_eq_getElem?_getD, List.getElem?_eq_getElem hi, List.getElem?_eq_getElem hj]
end
section
variable {prog : Program} {w : World} {A : Around} {T : Type} [DecidableEq T] {knd : KeyKind prog w T}
/-- the loop that fills a new set from an iterator -/
theorem fill_loop {R : Result → Shared → Prop} {it S : Addr} {fp wr : List Addr} {G : Array GenState → Array GenState → Prop} {n : Nat} {Pv : Nat → Value → Prop} {St : Nat → Shared → Prop} (W : WalksS prog w A.in1 it fp wr G n Pv St) (out : S ∉ fp)
    (val : Nat → T) (hval : ∀ i v, Pv i v → knd.is (val i) v = true ∧ v.scannable = true) (small : n + 1 < scanBound) :
    ∀ (left i : Nat) (s : Shared), n = i + left → St i s → s.heap.SetOf knd S (fun x => decide (x ∈ metT val i)) (metT val i).length →
      (∀ s', Moved (S :: wr) G s s' → s'.heap.SetOf knd S (fun x => decide (x ∈ metT val n)) (metT val n).length → R (.ok (.ret .none)) s') →
      codeAny (model prog w) A (.builtin "set.update.loop" ⟨[.ref S, .ref it], []⟩) R s := by
  have nwr : S ∉ wr := fun h => out (W.sub _ h)
  have more : ∀ b ∈ wr, b ∈ S :: wr := fun _ hb => List.mem_cons_of_mem _ hb
  have kept : ∀ {s s' : Shared} {f : T → Bool} {m : Nat}, Moved wr G s s' → s.heap.SetOf knd S f m → s'.heap.SetOf knd S f m := fun mv h => by
    obtain ⟨o, es, ep, t, ho, r⟩ := h
    exact ⟨o, es, ep, t, mv.heap S _ nwr ho, r⟩
  intro left
  induction left with
  | zero =>
    intro i s hn st hs hR
    obtain rfl : n = i := hn
    refine codeAny_builtin F.entry_set_update_loop ?_
    rw [Around.under_plainId F.plain_set_update_loop _]
    show wpAny _ A.in1 (pyNext (.ref it) >>= _) _ _ s
    refine wpAny_bind (W.done s _ _ st fun s1 mv => ?_)
    show wpAny _ A.in1 (ret Value.none) _ _ s1
    exact wpAny_pure (hR s1 (mv.mono more) (kept mv hs))
  | succ left ih =>
    intro i s hn st hs hR
    refine codeAny_builtin F.entry_set_update_loop ?_
    rw [Around.under_plainId F.plain_set_update_loop _]
    show wpAny _ A.in1 (pyNext (.ref it) >>= _) _ _ s
    refine wpAny_bind (W.item i s _ _ (by omega) st fun v s1 hP st1 mv => ?_)
    obtain ⟨hk, hsc⟩ := hval i v hP
    have hs1 := kept mv hs
    have hroom := metT_le val i
    show wpAny _ A.in1 (holding [v] (setAdd S v) >>= _) _ _ s1
    refine wpAny_bind (wpAny_holding ?_)
    unfold setAdd
    refine wpAny_holding (wpAny_bind (knd.pyHash hk ?_))
    refine wpAny_setAddHashed_of (knd := knd) (s := { s1 with toks := s1.toks + 1 }) hk hsc hs1 (by omega) fun h2 same hs2 => ?_
    have hs3 : h2.SetOf knd S (fun x => decide (x ∈ metT val (i + 1))) (metT val (i + 1)).length := by
      have e1 : (fun x => decide (x ∈ metT val i) || decide (x = val i)) = fun x => decide (x ∈ metT val (i + 1)) := funext fun x => by
        by_cases h : val i ∈ metT val i
        · rw [show metT val (i + 1) = metT val i from if_pos h]
          by_cases hx : x = val i
          · subst hx
            simp [h]
          · simp [hx]
        · rw [show metT val (i + 1) = metT val i ++ [val i] from if_neg h]
          by_cases hx : x = val i <;> by_cases hy : x ∈ metT val i <;> simp [hx, hy]
      have e2 : (if decide (val i ∈ metT val i) = true then (metT val i).length else (metT val i).length + 1) = (metT val (i + 1)).length := by
        by_cases h : val i ∈ metT val i
        · rw [show metT val (i + 1) = metT val i from if_pos h, if_pos (decide_eq_true h)]
        · rw [show metT val (i + 1) = metT val i ++ [val i] from if_neg h, if_neg (by simpa using h), List.length_append, List.length_singleton]
      rw [← e1, ← e2]
      exact hs2
    refine wpAny_pure ⟨plainId_quiet F.plain_set_update_loop _, ih (i + 1) _ (by omega) (W.frame _ s1 _ _ st1 (Nat.le_succ _) fun b hb o e => ?_) hs3 fun s2 mv2 q => ?_⟩
    · exact (same.2 b fun z => out (z ▸ hb)).trans e
    · refine hR s2 (Moved.trans W.gtrans ((mv.mono more).then_heap (Nat.le_succ _) fun b o hb e => ?_) mv2) q
      exact (same.2 b fun z => hb (z ▸ List.mem_cons_self)).trans e
end
end Nf
namespace PySem
open PySem.Spec PyProof.Rows Nf
section
variable {prog : Program} {w : World} {A : Around} {E : Value → Shared → Prop} {s : Shared} {T : Type} [DecidableEq T] {knd : KeyKind prog w T}
abbrev setO (led : Bool) : Obj := { cls := .type "set", dict := none, data := .set #[] 0 (.fresh 0 0 led) }
/-- set(list), of any kind of keys -/
theorem set_of_list {l : Addr} {items : Array Value} {val : Nat → T} {Q : Value → Shared → Prop} (quiet : A.handled = none) (lst : s.heap.IsList l items) (hv : ∀ (i : Nat) (v : Value), items[i]? = some v → knd.is (val i) v = true ∧ v.scannable = true) (small : items.size + 1 < scanBound)
    (h : ∀ (h2 : Heap) (tk : Nat), h2.SetOf knd s.heap.objs.size (fun x => decide (x ∈ metT val items.size)) (metT val items.size).length → (∀ b o, b < s.heap.objs.size → s.heap.get? b = some o → h2.get? b = some o) → Q (.ref s.heap.objs.size) { s with heap := h2, toks := tk }) :
    wpAny (model prog w) A (call (.type "set") [.ref l]) Q E s := by
  obtain ⟨c, tl, w_mro⟩ := F.called_set.mro
  have w_made := F.called_set.made
  have w_sub := F.called_set.sub
  refine wpAny_call (codeAny_of_tree (show wpAny _ _ (callAny (.type "set") _) _ _ _ from ?_))
  refine wpAny_pure (And.intro (Code.quiet_builtin _ (by decide +kernel)) (codeAny_builtin F.entry_type_call ?_))
  rw [Around.under_plain (weight_type_call_type "set" [.ref l] []) rfl]
  have w_nt := F.called_set.notType
  have w_cc := F.called_set.canCreate
  have w_ct := F.typeCall_set_1 (.ref l)
  repeat (any_goals (first | assumption | wp_step))
  refine codeAny_mono (code_set_new_1 (.ref l) (E := E) (Q₁ := fun obj s1 => ∃ led : Bool, obj = .ref s.heap.objs.size ∧ s1 = { s with heap := s.heap.push (setO led) }) (fun led => ⟨led, rfl, rfl⟩)) (fun r s1 hr => ?_)
  cases r with
  | error e => exact hr
  | ok fl =>
    cases fl with
    | ret obj =>
      obtain ⟨led, eo, es⟩ := hr
      subst eo
      subst es
      have at_set : (s.heap.push (setO led)).get? s.heap.objs.size = some (setO led) := Heap.get?_push_size _ rfl
      have is_set : Shared.TypeIs { s with heap := s.heap.push (setO led) } (.ref s.heap.objs.size) "set" := ⟨_, at_set, rfl⟩
      have w_li := F.called_set.init.lookup
      have w_bi := F.called_set.init.bind (.ref s.heap.objs.size)
      repeat (any_goals (first | assumption | wp_step))
      refine codeAny_mono (codeAny_call_builtin (R := wants (fun r s2 => r = .none ∧ ∃ h2 tk, s2 = { s with heap := h2, toks := tk } ∧ h2.SetOf knd s.heap.objs.size (fun x => decide (x ∈ metT val items.size)) (metT val items.size).length ∧ (∀ b o, b < s.heap.objs.size → s.heap.get? b = some o → h2.get? b = some o)) E)
        F.called_set.init.plain F.entry_set_init (check_set_init_1 is_set ?_)) (fun r2 s2 hr2 => ?_)
      · obtain ⟨ol, hol, hcl, nl, hdl⟩ := lst
        obtain ⟨ocl, odi, oda, osl⟩ := ol
        dsimp only at hcl hdl
        subst hcl hdl
        have hol2 : (s.heap.push (setO led)).get? l = some ⟨.type "list", odi, .seq items nl, osl⟩ := Heap.get?_push_of_some _ hol
        have w_s1 := F.sub_list_set
        have w_s2 := F.sub_list_frozenset
        have w_ne : (Value.type "list" == Value.type "dict") = false := by decide
        have lst2 : (s.heap.push (setO led)).IsList l items := ⟨_, hol2, rfl, nl, rfl⟩
        unfold Builtin.«set.__init__» noKeywords Builtin.Frozenset.updateFrom
        generalize hPI : pyIter = PI
        wp_walk
        subst hPI
        refine wpAny_pyIter_list lst2 (wpAny_bind (wpAny_runValue ?_))
        have below : l < s.heap.objs.size := Heap.lt_size hol
        have quiet3 : A.in1.in1.in1.handled = none := by simp [quiet]
        have n1 : l ≠ (s.heap.push (setO led)).objs.size := by
          rw [Heap.size_push]
          exact Nat.ne_of_lt (Nat.lt_succ_of_lt below)
        have n2 : s.heap.objs.size ∉ [(s.heap.push (setO led)).objs.size, l] := by
          rw [Heap.size_push]
          simp only [List.mem_cons, List.not_mem_nil, or_false, not_or]
          exact ⟨Nat.ne_of_lt (Nat.lt_succ_self _), Nat.ne_of_gt below⟩
        refine fill_loop (knd := knd) (S := s.heap.objs.size) ((Walks.list quiet3 _ l n1 items).toS) n2 val hv small items.size 0 _ (Nat.zero_add _).symm ⟨⟨_, Heap.get?_push_size _ rfl, rfl, rfl⟩, lst2.push _⟩ ?start ?done
        case start =>
          have g : ((s.heap.push (setO led)).push { cls := .type "list_iterator", data := .fields #[.ref l, .int 0 0] }).get? s.heap.objs.size = some (setO led) := Heap.get?_push_of_some _ at_set
          have z := (PyProof.Rows.setObjOf_fresh (knd := knd) led).setOf g (by unfold scanBound; omega)
          have e : (fun x => decide (x ∈ metT val 0)) = fun _ => false := funext fun x => by simp [metT]
          rw [e]
          exact z
        case done =>
          intro s3 mv hs
          obtain ⟨h3, g3, d3, tk3, os3⟩ := s3
          obtain rfl : g3 = s.gens := mv.gens
          obtain rfl : d3 = s.drawn := mv.drawn
          obtain rfl : os3 = s.os := mv.os
          show wpAny _ _ _ _ _ _
          refine wpAny_pure (show wpAny _ _ (ret Value.none) _ _ _ from wpAny_pure ⟨rfl, h3, tk3, rfl, hs, fun b o hb e => ?_⟩)
          refine mv.heap b o (fun z => ?_) (Heap.get?_push_of_some _ (Heap.get?_push_of_some _ e))
          rw [Heap.size_push] at z
          simp only [List.mem_cons, List.not_mem_nil, or_false] at z
          rcases z with rfl | rfl
          · exact Nat.lt_irrefl _ hb
          · exact Nat.lt_irrefl _ (Nat.lt_trans hb (Nat.lt_succ_self _))
      · cases r2 with
        | error e => exact hr2
        | ok fl2 =>
          cases fl2 with
          | ret r =>
            obtain ⟨er, h2, tk, e2, hs, kp⟩ := hr2
            subst er
            subst e2
            repeat (any_goals (first | assumption | wp_step))
            exact h _ _ hs kp
          | _ => exact hr2.elim
    | _ => exact hr.elim
end
end PySem

set_option Elab.async false
set_option linter.all false
set_option maxRecDepth 100000
set_option maxHeartbeats 4000000
namespace Nf
open PySem PySem.Spec PyProof.Rows L2
/-! ### set(list), of tuples in tuples -/
structure GotN (ks : List (Addr × NestedKey)) (i : Nat) (L : List (Addr × NestedKey)) : Prop where
  sub : ∀ p ∈ L, p ∈ ks
  all : ∀ j p, j < i → ks[j]? = some p → p.2 ∈ L.map (·.2)
  len : L.length ≤ i
theorem setN_new {P : Program} {w : World} {h : Heap} {a : Addr} (ho : h.get? a = some { cls := .type "set", dict := none, data := .set #[] 0 (.fresh 0 0 (!w.params.followText "set-order")) }) : SetN P w h a [] #[] 0 (.fresh 0 0 (!w.params.followText "set-order")) := by
  refine ⟨⟨_, ho, ⟨rfl, rfl, rfl⟩, rfl⟩, rfl, ⟨List.Pairwise.nil, rfl, rfl, full7, fun x hx => (by cases hx), fun i h j hi => (by simp at hi)⟩, List.nodup_nil, rfl, ?_, (by show 0 * 5 < 7 * 3; decide), Nat.zero_le _⟩
  cases z : w.params.followText "set-order" with
  | true => exact .inl rfl
  | false => exact .inr rfl
theorem SetN.move {P : Program} {w : World} {h h2 : Heap} {a : Addr} {L : List (Addr × NestedKey)} {es : Array (Int × Value)} {ep : Nat} {t : SetTable} (R : SetN P w h a L es ep t) (k : ∀ o, h.get? a = some o → h2.get? a = some o) : SetN P w h2 a L es ep t := by
  obtain ⟨o, ho, q⟩ := R.obj
  exact ⟨⟨o, k o ho, q⟩, R.ent, R.tab, R.nod, R.pl, R.led, R.room, R.few⟩
section
variable {prog : Program} {w : World} {A : Around}
theorem fill_loopN {R : Result → Shared → Prop} {it S : Addr} {fp wr : List Addr} {G : Array GenState → Array GenState → Prop} {n : Nat} {Pv : Nat → Value → Prop} {St : Nat → Shared → Prop} (W : WalksS prog w A.in1 it fp wr G n Pv St) (out : S ∉ fp)
    (ks : List (Addr × NestedKey)) (hn : n = ks.length) (small : n ≤ 4000) (hval : ∀ i v, Pv i v → ∃ p, ks[i]? = some p ∧ v = .ref p.1)
    (h0 : Heap) (hk : ∀ p ∈ ks, IsN h0 p.2 p.1) (hS0 : h0.get? S = none) (hw0 : ∀ b ∈ wr, h0.get? b = none) (hu : A.in1.units + 8 < cLine) :
    ∀ (left i : Nat) (s : Shared), n = i + left → St i s → (∀ b o, h0.get? b = some o → s.heap.get? b = some o) → (∃ L, (∃ es ep t, SetN prog w s.heap S L es ep t) ∧ GotN ks i L) →
      (∀ s' L, Moved (S :: wr) G s s' → (∃ es ep t, SetN prog w s'.heap S L es ep t) → GotN ks n L → (∀ b o, h0.get? b = some o → s'.heap.get? b = some o) → R (.ok (.ret .none)) s') →
      codeAny (model prog w) A (.builtin "set.update.loop" ⟨[.ref S, .ref it], []⟩) R s := by
  have nwr : S ∉ wr := fun h => out (W.sub _ h)
  have more : ∀ b ∈ wr, b ∈ S :: wr := fun _ hb => List.mem_cons_of_mem _ hb
  have kept : ∀ {s s' : Shared}, Moved wr G s s' → (∀ b o, h0.get? b = some o → s.heap.get? b = some o) → ∀ b o, h0.get? b = some o → s'.heap.get? b = some o := fun mv kp b o e =>
    mv.heap b o (fun hb => by rw [hw0 b hb] at e; cases e) (kp b o e)
  have there : ∀ {h : Heap}, (∀ b o, h0.get? b = some o → h.get? b = some o) → ∀ p ∈ ks, IsN h p.2 p.1 := fun kp p hp => (hk p hp).move fun c o _ _ e _ => kp c o e
  intro left
  induction left with
  | zero =>
    intro i s hi st kp ⟨L, ⟨es, ep, t, hs⟩, g⟩ hR
    obtain rfl : n = i := hi
    refine codeAny_builtin F.entry_set_update_loop ?_
    rw [Around.under_plainId F.plain_set_update_loop _]
    show wpAny _ A.in1 (pyNext (.ref it) >>= _) _ _ s
    refine wpAny_bind (W.done s _ _ st fun s1 mv => ?_)
    show wpAny _ A.in1 (ret Value.none) _ _ s1
    exact wpAny_pure (hR s1 L (mv.mono more) ⟨es, ep, t, hs.move fun o e => mv.heap S o nwr e⟩ g (kept mv kp))
  | succ left ih =>
    intro i s hi st kp ⟨L, ⟨es, ep, t, hs⟩, g⟩ hR
    refine codeAny_builtin F.entry_set_update_loop ?_
    rw [Around.under_plainId F.plain_set_update_loop _]
    show wpAny _ A.in1 (pyNext (.ref it) >>= _) _ _ s
    refine wpAny_bind (W.item i s _ _ (by omega) st fun v s1 hP st1 mv => ?_)
    obtain ⟨p, hp, rfl⟩ := hval i v hP
    have hpm := List.mem_of_getElem? hp
    have kp1 := kept mv kp
    have hs1 : SetN prog w s1.heap S L es ep t := hs.move fun o e => mv.heap S o nwr e
    have hx := there kp1 p hpm
    show wpAny _ A.in1 (holding [Value.ref p.1] (setAdd S (.ref p.1)) >>= _) _ _ s1
    refine wpAny_bind (wpAny_holding ?_)
    unfold setAdd
    refine wpAny_holding (wpAny_bind ((nestedKind prog w).pyHash (by show A.in1.units + 8 < cLine; exact hu) hx.knd ?_))
    refine add_n (s := { s1 with toks := s1.toks + (nestedKind prog w).draws p.2 }) hs1 (fun q hq => there kp1 q (g.sub q hq)) hx hu (by have := g.len; omega) fun b h2 L2 es2 ep2 t2 sb hs2 c1 c2 => ?_
    have kp2 : ∀ b o, h0.get? b = some o → h2.get? b = some o := fun b o e => (sb.2 b fun z => by rw [z, hS0] at e; cases e).trans (kp1 b o e)
    have g2 : GotN ks (i + 1) L2 := by
      by_cases c : p.2 ∈ L.map (·.2)
      · rw [c1 c]
        refine ⟨g.sub, fun j q hj hq => ?_, by have := g.len; omega⟩
        rcases Nat.lt_succ_iff_lt_or_eq.mp hj with z | rfl
        · exact g.all j q z hq
        · rw [hp] at hq
          cases hq
          exact c
      · have pm := c2 c
        refine ⟨fun q hq => ?_, fun j q hj hq => ?_, by rw [pm.length_eq, List.length_cons]; have := g.len; omega⟩
        · rcases List.mem_cons.mp (pm.mem_iff.mp hq) with e | hq
          · rw [e]
            exact hpm
          · exact g.sub q hq
        · refine (pm.map (·.2)).mem_iff.mpr ?_
          rcases Nat.lt_succ_iff_lt_or_eq.mp hj with z | rfl
          · exact List.mem_cons_of_mem _ (g.all j q z hq)
          · rw [hp] at hq
            cases hq
            exact List.mem_cons_self
    refine wpAny_pure ⟨plainId_quiet F.plain_set_update_loop _, ih (i + 1) _ (by omega) (W.frame _ s1 _ _ st1 (Nat.le_add_right _ _) fun b hb o e => ?_) kp2 ⟨L2, ⟨es2, ep2, t2, hs2⟩, g2⟩ fun s2 L3 mv2 q1 q2 q3 => ?_⟩
    · exact (sb.2 b fun z => out (z ▸ hb)).trans e
    · refine hR s2 L3 (Moved.trans W.gtrans ((mv.mono more).then_heap (Nat.le_add_right _ _) fun b o hb e => ?_) mv2) q1 q2 q3
      exact (sb.2 b fun z => hb (z ▸ List.mem_cons_self)).trans e
end
end Nf
theorem Nf.inroom3 {A : PySem.Around} (h : A.units + 64 < PySem.cLine) : A.in1.in1.in1.units + 8 < PySem.cLine := by
  have e : A.in1.in1.in1.units = A.units + 3 := rfl
  omega
namespace PySem
open PySem.Spec PyProof.Rows Nf L2
section
variable {prog : Program} {w : World} {A : Around} {E : Value → Shared → Prop} {s : Shared}
abbrev setN0 (w : World) : Obj := { cls := .type "set", dict := none, data := .set #[] 0 (.fresh 0 0 (!w.params.followText "set-order")) }
/-- set(list), of tuples in tuples -/
theorem set_of_listN {l : Addr} {items : Array Value} (ks : List (Addr × NestedKey)) {Q : Value → Shared → Prop} (quiet : A.handled = none) (lst : s.heap.IsList l items) (hit : items.toList = ks.map fun p => Value.ref p.1) (hk : ∀ p ∈ ks, IsN s.heap p.2 p.1) (small : ks.length ≤ 4000) (hu : A.units + 64 < cLine)
    (h : ∀ (h2 : Heap) (tk : Nat) L, (∃ es ep t, SetN prog w h2 s.heap.objs.size L es ep t) → GotN ks ks.length L → (∀ b o, s.heap.get? b = some o → h2.get? b = some o) → Q (.ref s.heap.objs.size) { s with heap := h2, toks := tk }) :
    wpAny (model prog w) A (call (.type "set") [.ref l]) Q E s := by
  have hisz : items.size = ks.length := by
    have q := congrArg List.length hit
    rw [Array.length_toList, List.length_map] at q
    exact q
  obtain ⟨c, tl, w_mro⟩ := F.called_set.mro
  have w_made := F.called_set.made
  have w_sub := F.called_set.sub
  refine wpAny_call (codeAny_of_tree (show wpAny _ _ (callAny (.type "set") _) _ _ _ from ?_))
  refine wpAny_pure (And.intro (Code.quiet_builtin _ (by decide +kernel)) (codeAny_builtin F.entry_type_call ?_))
  rw [Around.under_plain (weight_type_call_type "set" [.ref l] []) rfl]
  have w_nt := F.called_set.notType
  have w_cc := F.called_set.canCreate
  have w_ct := F.typeCall_set_1 (.ref l)
  repeat (any_goals (first | assumption | wp_step))
  refine codeAny_mono (code_set_led1 (.ref l) (E := E) (Q₁ := fun obj s1 => obj = .ref s.heap.objs.size ∧ s1 = { s with heap := s.heap.push (setN0 w) }) ⟨rfl, rfl⟩) (fun r s1 hr => ?_)
  cases r with
  | error e => exact hr
  | ok fl =>
    cases fl with
    | ret obj =>
      obtain ⟨eo, es⟩ := hr
      subst eo
      subst es
      have at_set : (s.heap.push (setN0 w)).get? s.heap.objs.size = some (setN0 w) := Heap.get?_push_size _ rfl
      have is_set : Shared.TypeIs { s with heap := s.heap.push (setN0 w) } (.ref s.heap.objs.size) "set" := ⟨_, at_set, rfl⟩
      have w_li := F.called_set.init.lookup
      have w_bi := F.called_set.init.bind (.ref s.heap.objs.size)
      repeat (any_goals (first | assumption | wp_step))
      refine codeAny_mono (codeAny_call_builtin (R := wants (fun r s2 => r = .none ∧ ∃ h2 tk, s2 = { s with heap := h2, toks := tk } ∧ ∃ L, (∃ es ep t, SetN prog w h2 s.heap.objs.size L es ep t) ∧ GotN ks ks.length L ∧ (∀ b o, s.heap.get? b = some o → h2.get? b = some o)) E)
        F.called_set.init.plain F.entry_set_init (check_set_init_1 is_set ?_)) (fun r2 s2 hr2 => ?_)
      · obtain ⟨ol, hol, hcl, nl, hdl⟩ := lst
        obtain ⟨ocl, odi, oda, osl⟩ := ol
        dsimp only at hcl hdl
        subst hcl hdl
        have hol2 : (s.heap.push (setN0 w)).get? l = some ⟨.type "list", odi, .seq items nl, osl⟩ := Heap.get?_push_of_some _ hol
        have w_s1 := F.sub_list_set
        have w_s2 := F.sub_list_frozenset
        have w_ne : (Value.type "list" == Value.type "dict") = false := by decide
        have lst2 : (s.heap.push (setN0 w)).IsList l items := ⟨_, hol2, rfl, nl, rfl⟩
        unfold Builtin.«set.__init__» noKeywords Builtin.Frozenset.updateFrom
        generalize hPI : pyIter = PI
        wp_walk
        subst hPI
        refine wpAny_pyIter_list lst2 (wpAny_bind (wpAny_runValue ?_))
        have below : l < s.heap.objs.size := Heap.lt_size hol
        have quiet3 : A.in1.in1.in1.handled = none := by simp [quiet]
        have n1 : l ≠ (s.heap.push (setN0 w)).objs.size := by
          rw [Heap.size_push]
          exact Nat.ne_of_lt (Nat.lt_succ_of_lt below)
        have n2 : s.heap.objs.size ∉ [(s.heap.push (setN0 w)).objs.size, l] := by
          rw [Heap.size_push]
          simp only [List.mem_cons, List.not_mem_nil, or_false, not_or]
          exact ⟨Nat.ne_of_lt (Nat.lt_succ_self _), Nat.ne_of_gt below⟩
        have hval : ∀ (i : Nat) (v : Value), items[i]? = some v → ∃ p, ks[i]? = some p ∧ v = .ref p.1 := fun i v hv => by
          have q : items.toList[i]? = some v := by rw [Array.getElem?_toList]; exact hv
          rw [hit, List.getElem?_map] at q
          obtain ⟨p, hp, e⟩ := Option.map_eq_some_iff.mp q
          exact ⟨p, hp, e.symm⟩
        have free : ∀ b, s.heap.objs.size ≤ b → s.heap.get? b = none := fun b hb => by
          cases q : s.heap.get? b with
          | none => rfl
          | some o => exact absurd (Nat.lt_of_lt_of_le (Heap.lt_size q) hb) (Nat.lt_irrefl _)
        refine fill_loopN (S := s.heap.objs.size) ((Walks.list quiet3 _ l n1 items).toS) n2 ks hisz (by omega) hval s.heap hk (free _ (Nat.le_refl _)) (fun b hb => free b (by
            rw [List.mem_singleton.mp hb, Heap.size_push]
            exact Nat.le_succ _)) (inroom3 hu) items.size 0 _ (Nat.zero_add _).symm ⟨⟨_, Heap.get?_push_size _ rfl, rfl, rfl⟩, lst2.push _⟩ (fun b o e => Heap.get?_push_of_some _ (Heap.get?_push_of_some _ e)) ?start ?done
        case start =>
          have g : ((s.heap.push (setN0 w)).push { cls := .type "list_iterator", data := .fields #[.ref l, .int 0 0] }).get? s.heap.objs.size = some (setN0 w) := Heap.get?_push_of_some _ at_set
          exact ⟨[], ⟨_, _, _, setN_new g⟩, ⟨fun p hp => by simp at hp, fun j p hj => absurd hj (Nat.not_lt_zero _), Nat.le_refl _⟩⟩
        case done =>
          intro s3 L mv hs got kp
          obtain ⟨h3, g3, d3, tk3, os3⟩ := s3
          obtain rfl : g3 = s.gens := mv.gens
          obtain rfl : d3 = s.drawn := mv.drawn
          obtain rfl : os3 = s.os := mv.os
          rw [hisz] at got
          show wpAny _ _ _ _ _ _
          refine wpAny_pure (show wpAny _ _ (ret Value.none) _ _ _ from wpAny_pure ⟨rfl, h3, tk3, rfl, L, hs, got, kp⟩)
      · cases r2 with
        | error e => exact hr2
        | ok fl2 =>
          cases fl2 with
          | ret r =>
            obtain ⟨er, h2, tk, e2, L, hs, got, kp⟩ := hr2
            subst er
            subst e2
            repeat (any_goals (first | assumption | wp_step))
            exact h _ _ L hs got kp
          | _ => exact hr2.elim
    | _ => exact hr.elim
end
end PySem

set_option Elab.async false
set_option linter.all false
set_option maxRecDepth 100000
set_option maxHeartbeats 4000000
namespace Nf
open PySem PySem.Spec PyProof.Rows L2
/-! ### sorted(set(list)), of tuples in tuples -/
theorem perm_map_ex {α β : Type} {f : α → β} : ∀ {vs ws : List β}, vs.Perm ws → ∀ {L : List α}, ws = L.map f → ∃ L1 : List α, L1.Perm L ∧ vs = L1.map f
  | _, _, .nil, L, e => ⟨[], by rw [List.map_eq_nil_iff.mp e.symm], rfl⟩
  | _, _, .cons x p, L, e => by
    cases L with
    | nil => cases e
    | cons l L =>
      rw [List.map_cons] at e
      injection e with e1 e2
      obtain ⟨L1, q1, q2⟩ := perm_map_ex p e2
      exact ⟨l :: L1, q1.cons l, by rw [List.map_cons, e1, q2]⟩
  | _, _, .swap x y l, L, e => by
    cases L with
    | nil => cases e
    | cons a L =>
      cases L with
      | nil => cases e
      | cons b L =>
        rw [List.map_cons, List.map_cons] at e
        injection e with e1 e2
        injection e2 with e2 e3
        exact ⟨b :: a :: L, .swap _ _ _, by rw [List.map_cons, List.map_cons, e1, e2, e3]⟩
  | _, _, .trans p q, L, e => by
    obtain ⟨L1, p1, e1⟩ := perm_map_ex q e
    obtain ⟨L2, p2, e2⟩ := perm_map_ex p e1
    exact ⟨L2, p2.trans p1, e2⟩
theorem each_refs : ∀ L : List (Addr × NestedKey), PySem.W.EachIs (fun (v : Value) (p : Addr × NestedKey) => v = .ref p.1) (L.map fun p => Value.ref p.1) L
  | [] => .nil
  | p :: L => .cons rfl (each_refs L)
theorem refs_each : ∀ {vs : List Value} {L : List (Addr × NestedKey)}, PySem.W.EachIs (fun (v : Value) (p : Addr × NestedKey) => v = .ref p.1) vs L → vs = L.map fun p => Value.ref p.1
  | _, _, .nil => rfl
  | _, _, .cons h t => by rw [h, refs_each t]; rfl
theorem each_all {α β : Type} {S : α → β → Prop} {R : α → β → Prop} : ∀ {vs : List α} {bs : List β}, PySem.W.EachIs R vs bs → (∀ v b, b ∈ bs → R v b → S v b) → PySem.W.EachIs S vs bs
  | _, _, .nil, _ => .nil
  | _, _, .cons h t, q => .cons (q _ _ List.mem_cons_self h) (each_all t fun v b hb hr => q v b (List.mem_cons_of_mem _ hb) hr)
section
variable {P : Program} {w : World} {A : Around} {E : Value → Shared → Prop} {s : Shared} {a : Addr} {L : List (Addr × NestedKey)} {es : Array (Int × Value)} {ep : Nat} {t : SetTable}
open PySem.W in
theorem sorted_setN {Q : Value → Shared → Prop} (R : SetN P w s.heap a L es ep t) (hh : A.handled = none) (hu : A.units + 64 < cLine) (rd : ∀ p ∈ L, ∃ as, Reads s.heap (.ref p.1) p.2.data as) (hal : ∀ L1 : List (Addr × NestedKey), (∀ p ∈ L1, p ∈ L) → AllAlike (L1.map fun p => p.2.data))
    (hk : ∀ L1 : List (Addr × NestedKey), (∀ p ∈ L1, p ∈ L) → Sortable (L1.map fun p => p.2.data)) (hd8 : ∀ p ∈ L, p.2.data.depth ≤ 8) (few : L.length ≤ 4000)
    (hQ : ∀ s' p (out : Array Value) (c : Nat) (L' : List (Addr × NestedKey)), (∀ b o, s.heap.get? b = some o → s'.heap.get? b = some o) → s'.gens = s.gens → s'.os = s.os → s.heap.objs.size ≤ p →
      s'.heap.get? p = some (seqObj "list" out c) → out.toList = L'.map (fun q => Value.ref q.1) → L'.Perm L → Q (.ref p) s') :
    wpAny (model P w) A (call (.builtin "sorted") [.ref a]) Q E s := by
  obtain ⟨o, ho, hex, hd⟩ := R.obj
  have hsz := R.sz
  refine Calls.call_function_entry kind_sorted plain_sorted entry_sorted (args_sorted1 _) ?_
  unfold Builtin.«sorted»
  refine wpAny_bind (m := checkCount "sorted" 1 1 _) (wpAny_pure ?_)
  refine wpAny_bind (collect_set (A := A.in1) hh ⟨o, ho, hex.1, hd⟩ R.fit (by unfold scanBound; omega) R.tab.up R.led fun s1 vs k1 hz g1 o1 pm => ?_)
  have hes : es.toList.map (·.2) = L.map fun q => Value.ref q.1 := by
    rw [R.ent]
    unfold rowsN
    rw [List.map_map]
    rfl
  obtain ⟨L1, pL, ev⟩ := perm_map_ex pm hes
  subst ev
  have hm : ∀ p ∈ L1, p ∈ L := fun p hp => pL.mem_iff.mp hp
  have big : (100000 : Nat) < sizeLine := by decide
  have hvl : (L1.map fun q => Value.ref q.1).length ≤ sizeLine := by
    rw [List.length_map, pL.length_eq]
    omega
  refine wpAny_bind (wpAny_newList ?_ hvl)
  have hoL : (s1.heap.push (seqObj "list" (L1.map fun q => Value.ref q.1).toArray 0)).get? s1.heap.objs.size = some (seqObj "list" (L1.map fun q => Value.ref q.1).toArray 0) := Heap.get?_push_size _ rfl
  have keep : ∀ b o, s.heap.get? b = some o → (sortingHeap (s1.heap.push (seqObj "list" (L1.map fun q => Value.ref q.1).toArray 0)) s1.heap.objs.size (L1.map fun q => Value.ref q.1)).get? b = some o := fun b o e => by
    have q := k1 b o e
    exact sortingHeap_old (Nat.ne_of_lt (Heap.lt_size q)) (Heap.get?_push_of_some _ q)
  have er : EachIs (fun (v : Value) (p : Addr × NestedKey) => ∃ as, Reads (sortingHeap (s1.heap.push (seqObj "list" (L1.map fun q => Value.ref q.1).toArray 0)) s1.heap.objs.size (L1.map fun q => Value.ref q.1)) v p.2.data as) (L1.map fun q => Value.ref q.1) L1 :=
    each_all (each_refs L1) fun v p hp e => by
      subst e
      obtain ⟨as, r⟩ := rd p (hm p hp)
      exact ⟨as, PyProof.Rows.Reads.keeps keep r⟩
  refine wpAny_bind (wpAny_holding (wpAny_call_entry slot_list_sort ⟨_, hoL, rfl⟩ entry_list_sort (list_sort_vals (s := { s1 with heap := s1.heap.push (seqObj "list" (L1.map fun q => Value.ref q.1).toArray 0) }) hoL
    (SortsAt.data (s := { s1 with heap := sortingHeap (s1.heap.push (seqObj "list" (L1.map fun q => Value.ref q.1).toArray 0)) s1.heap.objs.size (L1.map fun q => Value.ref q.1) }) (each_map (R := fun v d => ∃ as, Reads (sortingHeap (s1.heap.push (seqObj "list" (L1.map fun q => Value.ref q.1).toArray 0)) s1.heap.objs.size (L1.map fun q => Value.ref q.1)) v d as) (fun p : Addr × NestedKey => p.2.data) er) (hal L1 hm) (hk L1 hm) (fun d hdm => ?_)) hvl ⟨_, rfl, ?_⟩) (args_list_sort _)))
  · obtain ⟨p, hp, rfl⟩ := List.mem_map.mp hdm
    have := hd8 p (hm p hp)
    show A.units + 2 + p.2.data.depth < cLine
    omega
  have eo := sortVals_data (h' := sortingHeap (s1.heap.push (seqObj "list" (L1.map fun q => Value.ref q.1).toArray 0)) s1.heap.objs.size (L1.map fun q => Value.ref q.1)) (enc := fun p : Addr × NestedKey => p.2.data) false (each_refs L1) er (hal L1 hm)
  have eo2 := refs_each eo
  obtain ⟨c, hc⟩ := sortedHeap_at (vs := L1.map fun q => Value.ref q.1) (out := (sortVals (dataKind (sortingHeap (s1.heap.push (seqObj "list" (L1.map fun q => Value.ref q.1).toArray 0)) s1.heap.objs.size (L1.map fun q => Value.ref q.1)) (L1.map fun p => p.2.data)) false (L1.map fun q => Value.ref q.1) (L1.map fun q => Value.ref q.1)).toArray) hoL
  refine wpAny_pure ⟨_, rfl, hQ _ s1.heap.objs.size _ c (L1.mergeSort (dataLe false fun p : Addr × NestedKey => p.2.data)) (fun b u e => ?_) g1 o1 hz hc (by rw [List.toList_toArray]; exact eo2) ((List.mergeSort_perm _ _).trans pL)⟩
  have q := k1 b u e
  have hlt := Heap.lt_size q
  show (sortedHeap (s1.heap.push (seqObj "list" (L1.map fun q => Value.ref q.1).toArray 0)) s1.heap.objs.size (L1.map fun q => Value.ref q.1) _).get? b = some u
  rw [sortedHeap_old (Nat.ne_of_lt hlt) (by rw [size_push']; exact Nat.lt_succ_of_lt hlt)]
  exact Heap.get?_push_of_some _ q
end
end Nf

set_option Elab.async false
set_option linter.all false
set_option maxRecDepth 100000
set_option maxHeartbeats 4000000
namespace Nf
open PySem PySem.Spec PyProof.Rows L2
/-! ### tuples in tuples as things of the layer: a set of them, sorted, a dict by them -/
mutual
theorem nested_of_reads {h : Heap} : ∀ (k : NestedKey) (v : Value) (as : List Addr), numsK k = true → Reads h v k.data as → NestedIs h k v
  | .none, _, _, n, _ => by cases n
  | .num i, _, _, _, r => by
    cases r with
    | int _ t => exact .int i t
  | .text x, _, _, n, _ => by cases n
  | .tup ks, _, _, n, r => by
    cases r with
    | tuple h1 h2 h3 h4 => exact .tup h1 h2 h3 (nested_of_readsAll ks _ _ n h4)
theorem nested_of_readsAll {h : Heap} : ∀ (ks : List NestedKey) (vs : List Value) (as : List Addr), numsKs ks = true → ReadsAll h vs (NestedKey.datas ks) as → NestedAll h ks vs
  | [], _, _, _, r => by
    cases r
    exact .nil
  | k :: ks, _, _, n, r => by
    have z : (numsK k && numsKs ks) = true := n
    rw [Bool.and_eq_true] at z
    cases r with
    | cons r1 r2 => exact .cons (nested_of_reads k _ _ z.1 r1) (nested_of_readsAll ks _ _ z.2 r2)
end
/-- a key of the kind that is met here: numbers, tuples in tuples -/
structure NkOk (k : NestedKey) : Prop where
  dep : k.depth ≤ 8
  num : numsK k = true
/-- the tuple at a is the key k -/
def NkV (K : PySem.W.Frag) (H : Hp) (p : Addr × NestedKey) : Prop := Dp K H (.ref p.1) p.2.data ∧ NkOk p.2
section
variable {X : Cx}
theorem NkV.isN {pins : List (Addr × Obj)} {σ : L2.St} {H : Hp} {s : Shared} {p : Addr × NestedKey} (I : Inv X pins σ H s) (h : NkV X.K H p) : IsN s.heap p.2 p.1 := by
  obtain ⟨as, r⟩ := Dp.reads I _ _ _ h.1 (rfl : RelV (.ref p.1) (.ref p.1))
  exact ⟨nested_of_reads _ _ _ h.2.num r, h.2.dep, h.2.num⟩
end
theorem refs_of_valsN : ∀ {L : List (Addr × NestedKey)} {us : List Value}, Vals (L.map fun p => V.ref p.1) us → us = L.map fun p => Value.ref p.1
  | [], _, h => by
    cases h
    rfl
  | p :: L, _, h => by
    cases h with
    | cons r t =>
      rw [refs_of_valsN t, show _ = Value.ref p.1 from r]
      rfl
theorem vals_of_refsN : ∀ L : List (Addr × NestedKey), Vals (L.map fun p => V.ref p.1) (L.map fun p => Value.ref p.1)
  | [] => .nil
  | _ :: L => .cons rfl (vals_of_refsN L)
/-! a set -/
def SetNO (P : Program) (w : World) (a : Addr) (L : List (Addr × NestedKey)) : HO := .ext fun h => ∃ es ep t, SetN P w h a L es ep t
theorem setNO_ok {P : Program} {w : World} {H : Hp} {h : Heap} {a : Addr} {L : List (Addr × NestedKey)} (R : ∃ es ep t, SetN P w h a L es ep t) : ObjOk P w H h a (SetNO P w a L) := by
  refine ⟨R, ?_, fun h1 h2 ⟨es, ep, t, p⟩ k => ⟨es, ep, t, p.move k⟩⟩
  obtain ⟨es, ep, t, R⟩ := R
  obtain ⟨o, ho, _⟩ := R.obj
  exact ⟨o, ho⟩
section
variable {X : Cx}
/-- set(xs) -/
def rSetN (K : PySem.W.Frag) (P : Program) (w : World) : List V → Hp → VK → Prop := fun xs H Q => ∃ (l : Addr) (ks : List (Addr × NestedKey)), xs = [.ref l] ∧ SqL K H l (ks.map fun p => V.ref p.1) ∧ (∀ p ∈ ks, NkV K H p) ∧ ks.length ≤ 4000 ∧
  ∀ a L, H a = none → (∀ p ∈ L, p ∈ ks) → (∀ p ∈ ks, p.2 ∈ L.map (·.2)) → (L.map (·.2)).Nodup → L.length ≤ ks.length → Q (.ref a) (upd H a (SetNO P w a L))
theorem cr_setN (hc : X.calm = true) (hu : X.A.units + 64 < cLine) : CallR X (.type "set") (rSetN X.K X.prog X.w) := by
  intro pins s σ H xs us Q I r h
  obtain ⟨l, ks, rfl, hl, hk, hf, q⟩ := h
  rw [Vals.ref1 r]
  obtain ⟨its, rv, pl, hz⟩ := I.list hl
  have hn : H s.heap.objs.size = none := I.hok.fresh (Nat.le_refl _)
  refine set_of_listN ks (I.ok.hd hc) pl.isList (by simpa using refs_of_valsN rv) (fun p hp => (hk p hp).isN I) hf hu fun h2 tk L R g k => ?_
  have nd : (L.map (·.2)).Nodup := let ⟨_, _, _, R⟩ := R; R.nod
  refine ⟨.ref s.heap.objs.size, upd H s.heap.objs.size (SetNO X.prog X.w s.heap.objs.size L), I.laid (t' := tk) k (Nat.le_refl _) (setNO_ok R), rfl, q _ L hn g.sub (fun p hp => ?_) nd g.len⟩
  obtain ⟨j, hj, e⟩ := List.getElem_of_mem hp
  exact g.all j p hj (by rw [List.getElem?_eq_getElem hj, e])
/-- sorted(a set of such) -/
def rSortedN (K : PySem.W.Frag) (P : Program) (w : World) : List V → Hp → VK → Prop := fun vs H Q => ∃ (a : Addr) (L : List (Addr × NestedKey)), vs = [.ref a] ∧ H a = some (SetNO P w a L) ∧ (∀ p ∈ L, NkV K H p) ∧
  (∀ L1 : List (Addr × NestedKey), (∀ p ∈ L1, p ∈ L) → PySem.W.AllAlike (L1.map fun p => p.2.data)) ∧ (∀ L1 : List (Addr × NestedKey), (∀ p ∈ L1, p ∈ L) → PySem.W.Sortable (L1.map fun p => p.2.data)) ∧ (∀ p ∈ L, p.2.data.depth ≤ 8) ∧ L.length ≤ 4000 ∧
  ∀ (L' : List (Addr × NestedKey)) (p : Addr), L'.Perm L → H p = none → Q (.ref p) (upd H p (.lst (L'.map fun q => V.ref q.1)))
theorem cr_sortedN (hc : X.calm = true) (hu : X.A.units + 64 < cLine) : CallR X (.builtin "sorted") (rSortedN X.K X.prog X.w) := by
  intro pins s σ H vs us Q I r h
  obtain ⟨a, L, rfl, ha, hk, hal, hs, hd, hf, q⟩ := h
  obtain ⟨es, ep, t, R⟩ : ∃ es ep t, SetN X.prog X.w s.heap a L es ep t := (I.hok a _ ha).1
  rw [Vals.ref1 r]
  refine sorted_setN R (I.ok.hd hc) hu (fun p hp => Dp.reads I _ _ _ (hk p hp).1 (rfl : RelV (.ref p.1) (.ref p.1))) hal hs hd hf fun s' p out c L' k g o hp hg hout pm => ?_
  have hlen : (L'.map fun q => V.ref q.1).length ≤ sizeLine := by
    rw [List.length_map, pm.length_eq, sizeLine_eq]
    omega
  have hn : H p = none := I.hok.fresh hp
  have hv : Vals (L'.map fun q => V.ref q.1) out.toList := by
    rw [hout]
    exact vals_of_refsN L'
  have J : Inv X pins σ (upd H p (.lst (L'.map fun q => V.ref q.1))) { s with heap := s'.heap, gens := s'.gens, drawn := s'.drawn, toks := s'.toks } :=
    I.call (ch := []) (Un.laid k hp hn) (I.hok.laid k hp ⟨hlen, out.toList, c, hv, hg⟩) (by rw [g]; exact I.bare) (fun _ z => nomatch z)
  have e2 : ({ s with heap := s'.heap, gens := s'.gens, drawn := s'.drawn, toks := s'.toks } : Shared) = s' := by
    obtain ⟨a1, a2, a3, a4, a5⟩ := s'
    obtain ⟨b1, b2, b3, b4, b5⟩ := s
    cases o
    rfl
  rw [e2] at J
  exact ⟨.ref p, _, J, rfl, q L' p pm hn⟩
end
end Nf

set_option Elab.async false
set_option linter.all false
set_option maxRecDepth 100000
set_option maxHeartbeats 4000000
namespace Nf
open PySem PySem.Spec PyProof.Rows L2
/-! ### what is sorted as data: the same of what is the same but for its order -/
/-- a datum is told by its signs, whatever stands behind them -/
def Pfx {β : Type} (enc : β → PyData) : Prop := ∀ (a b : β) (l m : List (Int ⊕ List Nat)), PySem.W.keyToks (enc a) ++ l = PySem.W.keyToks (enc b) ++ m → a = b ∧ l = m
theorem pfx_int : Pfx fun i : Int => PyData.int i := fun a b l m h => by
  simp only [PySem.W.keyToks, List.cons_append, List.nil_append, List.cons.injEq, Sum.inl.injEq] at h
  exact h
theorem pfx_all {β : Type} {enc : β → PyData} (P : Pfx enc) : ∀ (xs ys : List β) (l m : List (Int ⊕ List Nat)), PySem.W.keyToksAll (xs.map enc) ++ l = PySem.W.keyToksAll (ys.map enc) ++ m → xs = ys ∧ l = m
  | [], [], l, m, h => by
    simp only [List.map_nil, PySem.W.keyToksAll, List.cons_append, List.nil_append, List.cons.injEq, true_and] at h
    exact ⟨rfl, h⟩
  | [], y :: ys, l, m, h => by
    simp only [List.map_nil, List.map_cons, PySem.W.keyToksAll, List.cons_append, List.nil_append, List.cons.injEq, Sum.inl.injEq] at h
    omega
  | x :: xs, [], l, m, h => by
    simp only [List.map_nil, List.map_cons, PySem.W.keyToksAll, List.cons_append, List.nil_append, List.cons.injEq, Sum.inl.injEq] at h
    omega
  | x :: xs, y :: ys, l, m, h => by
    simp only [List.map_cons, PySem.W.keyToksAll, List.cons_append, List.append_assoc, List.cons.injEq, true_and] at h
    obtain ⟨rfl, h2⟩ := P x y _ _ h
    obtain ⟨rfl, h3⟩ := pfx_all P xs ys l m h2
    exact ⟨rfl, h3⟩
theorem pfx_tup {β : Type} {enc : β → PyData} (P : Pfx enc) : Pfx fun xs : List β => PyData.tuple (xs.map enc) := fun xs ys l m h => pfx_all P xs ys l m (by simpa only [PySem.W.keyToks] using h)
theorem pfx_two {β γ : Type} {e1 : β → PyData} {e2 : γ → PyData} (P1 : Pfx e1) (P2 : Pfx e2) : Pfx fun p : β × γ => PyData.tuple [e1 p.1, e2 p.2] := fun p q l m h => by
  simp only [PySem.W.keyToks, PySem.W.keyToksAll, List.cons_append, List.append_assoc, List.nil_append, List.cons.injEq, true_and] at h
  obtain ⟨a, h2⟩ := P1 p.1 q.1 _ _ h
  simp only [List.cons.injEq, true_and] at h2
  obtain ⟨b, h3⟩ := P2 p.2 q.2 _ _ h2
  simp only [List.cons.injEq, true_and] at h3
  exact ⟨Prod.ext a b, h3⟩
theorem Pfx.inj {β : Type} {enc : β → PyData} (P : Pfx enc) {a b : β} (h : enc a = enc b) : a = b := (P a b [] [] (by rw [h])).1
abbrev _root_.PySem.W.sgn : KeyOrd := listOrd itemOrd
theorem Pfx.sorted {β : Type} {enc : β → PyData} (P : Pfx enc) {l m : List β} (h : l.Perm m) : l.mergeSort (PySem.W.dataLe false enc) = m.mergeSort (PySem.W.dataLe false enc) := by
  have T := PySem.W.sortLe_total (PySem.W.sgn) false fun b : β => PySem.W.keyToks (enc b)
  have up : ∀ k : List β, (k.mergeSort (PySem.W.dataLe false enc)).Pairwise fun a b => PySem.W.dataLe false enc a b = true := fun k => List.pairwise_mergeSort T.trans (fun a b => by
    rcases T.total a b with e | e
    · exact Bool.or_eq_true_iff.mpr (.inl e)
    · exact Bool.or_eq_true_iff.mpr (.inr e)) k
  refine perm_upA (le := fun a b => PySem.W.dataLe false enc a b = true) (fun a b h1 h2 => ?_) ((List.mergeSort_perm _ _).trans (h.trans (List.mergeSort_perm _ _).symm)) (up l) (up m)
  have h1 : (!(PySem.W.sgn).blt (PySem.W.keyToks (enc b)) (PySem.W.keyToks (enc a))) = true := h1
  have h2 : (!(PySem.W.sgn).blt (PySem.W.keyToks (enc a)) (PySem.W.keyToks (enc b))) = true := h2
  rw [Bool.not_eq_true'] at h1 h2
  exact (P a b [] [] (by rw [(PySem.W.sgn).total _ _ h2 h1])).1
theorem alike_rows {β : Type} {enc : β → PyData} (h : ∀ a b, PySem.W.alike (enc a) (enc b) = true) : ∀ xs ys : List β, PySem.W.alikeAll (xs.map enc) (ys.map enc) = true
  | [], _ => by simp [PySem.W.alikeAll]
  | x :: xs, [] => by simp [PySem.W.alikeAll]
  | x :: xs, y :: ys => by
    rw [List.map_cons, List.map_cons, PySem.W.alikeAll, h x y, alike_rows h xs ys]
    rfl
/-! the things that are met: tables, rounds, places, seats -/
def dRn (r : Rnd) : PyData := .tuple (r.map dT)
def dPl (p : Rnd × Tbl) : PyData := .tuple [dRn p.1, dT p.2]
abbrev Seat := Int × List (Rnd × Tbl)
def dSh (q : Seat) : PyData := .tuple [.int q.1, .tuple (q.2.map dPl)]
theorem pfx_T : Pfx dT := pfx_tup pfx_int
theorem pfx_Rn : Pfx dRn := pfx_tup pfx_T
theorem pfx_Pl : Pfx dPl := pfx_two pfx_Rn pfx_T
theorem pfx_Sh : Pfx dSh := pfx_two pfx_int (pfx_tup pfx_Pl)
theorem alike_T (a b : Tbl) : PySem.W.alike (dT a) (dT b) = true := by
  unfold dT
  rw [PySem.W.alike]
  exact alike_rows (fun a b => by simp [PySem.W.alike]) a b
theorem alike_Rn (a b : Rnd) : PySem.W.alike (dRn a) (dRn b) = true := by
  unfold dRn
  rw [PySem.W.alike]
  exact alike_rows alike_T a b
theorem alike_Pl (a b : Rnd × Tbl) : PySem.W.alike (dPl a) (dPl b) = true := by
  unfold dPl
  rw [PySem.W.alike]
  simp only [PySem.W.alikeAll, alike_Rn, alike_T, Bool.and_self]
theorem alike_Sh (a b : Seat) : PySem.W.alike (dSh a) (dSh b) = true := by
  unfold dSh
  rw [PySem.W.alike]
  simp only [PySem.W.alikeAll, PySem.W.alike, alike_rows alike_Pl, Bool.and_self]
theorem allAlike_of {β : Type} {enc : β → PyData} (h : ∀ a b, PySem.W.alike (enc a) (enc b) = true) (l : List β) : PySem.W.AllAlike (l.map enc) := fun d hd e he => by
  obtain ⟨a, _, rfl⟩ := List.mem_map.mp hd
  obtain ⟨b, _, rfl⟩ := List.mem_map.mp he
  exact h a b
/-! as keys -/
def nT (t : Tbl) : NestedKey := .tup (t.map .num)
def nRn (r : Rnd) : NestedKey := .tup (r.map nT)
def nPl (p : Rnd × Tbl) : NestedKey := .tup [nRn p.1, nT p.2]
def nSh (q : Seat) : NestedKey := .tup [.num q.1, .tup (q.2.map nPl)]
theorem datas_map {β : Type} {f : β → NestedKey} {enc : β → PyData} (h : ∀ b, (f b).data = enc b) : ∀ xs : List β, NestedKey.datas (xs.map f) = xs.map enc
  | [] => rfl
  | x :: xs => by rw [List.map_cons, NestedKey.datas, h, datas_map h xs, List.map_cons]
theorem data_T (t : Tbl) : (nT t).data = dT t := by
  unfold nT dT
  rw [NestedKey.data, datas_map (enc := fun i => PyData.int i) fun _ => rfl]
theorem data_Rn (r : Rnd) : (nRn r).data = dRn r := by
  unfold nRn dRn
  rw [NestedKey.data, datas_map data_T]
theorem data_Pl (p : Rnd × Tbl) : (nPl p).data = dPl p := by
  unfold nPl dPl
  simp only [NestedKey.data, NestedKey.datas, data_Rn, data_T]
theorem data_Sh (q : Seat) : (nSh q).data = dSh q := by
  unfold nSh dSh
  simp only [NestedKey.data, NestedKey.datas, datas_map data_Pl]
theorem nSh_inj {a b : Seat} (h : nSh a = nSh b) : a = b := pfx_Sh.inj (by rw [← data_Sh, ← data_Sh, h])
theorem nums_map {β : Type} {f : β → NestedKey} (h : ∀ b, numsK (f b) = true) : ∀ xs : List β, numsKs (xs.map f) = true
  | [] => rfl
  | x :: xs => by rw [List.map_cons, numsKs, h, nums_map h xs]; rfl
theorem dep_map {β : Type} {f : β → NestedKey} {n : Nat} (h : ∀ b, (f b).depth ≤ n) : ∀ xs : List β, NestedKey.depthAll (xs.map f) ≤ n
  | [] => Nat.zero_le _
  | x :: xs => by
    rw [List.map_cons, NestedKey.depthAll]
    exact Nat.max_le.mpr ⟨h x, dep_map h xs⟩
theorem dep_nT (t : Tbl) : (nT t).depth ≤ 1 := by
  unfold nT
  rw [NestedKey.depth]
  exact Nat.succ_le_succ (dep_map (fun i => Nat.le_refl 0) t)
theorem dep_nRn (r : Rnd) : (nRn r).depth ≤ 2 := by
  unfold nRn
  rw [NestedKey.depth]
  exact Nat.succ_le_succ (dep_map dep_nT r)
theorem dep_nPl (p : Rnd × Tbl) : (nPl p).depth ≤ 3 := by
  unfold nPl
  have := dep_nRn p.1
  have := dep_nT p.2
  simp only [NestedKey.depth, NestedKey.depthAll]
  omega
theorem num_nT (t : Tbl) : numsK (nT t) = true := by
  unfold nT
  rw [numsK]
  exact nums_map (fun _ => rfl) t
theorem num_nRn (r : Rnd) : numsK (nRn r) = true := by
  unfold nRn
  rw [numsK]
  exact nums_map num_nT r
theorem num_nPl (p : Rnd × Tbl) : numsK (nPl p) = true := by
  unfold nPl
  simp only [numsK, numsKs, num_nRn, num_nT]
  rfl
theorem nkOk_Sh (q : Seat) : NkOk (nSh q) := by
  refine ⟨?_, ?_⟩
  · have := dep_map dep_nPl q.2
    unfold nSh
    simp only [NestedKey.depth, NestedKey.depthAll]
    omega
  · have e : numsKs (q.2.map nPl) = true := nums_map num_nPl q.2
    unfold nSh
    simp only [numsK, numsKs, e]
    rfl
theorem ddep_Rn (r : Rnd) : (dRn r).depth ≤ 2 := by
  have := depTabs r
  unfold dRn
  simp only [PyData.depth]
  omega
theorem ddep_Pl (p : Rnd × Tbl) : (dPl p).depth ≤ 3 := by
  have := ddep_Rn p.1
  have := depT p.2
  unfold dPl
  simp only [PyData.depth, PyData.depthAll]
  omega
theorem ddep_all {β : Type} {enc : β → PyData} {n : Nat} (h : ∀ b, (enc b).depth ≤ n) : ∀ xs : List β, PyData.depthAll (xs.map enc) ≤ n
  | [] => by simp [PyData.depthAll]
  | x :: xs => by
    rw [List.map_cons, PyData.depthAll]
    exact Nat.max_le.mpr ⟨h x, ddep_all h xs⟩
theorem ddep_Sh (q : Seat) : (dSh q).depth ≤ 5 := by
  have := ddep_all ddep_Pl q.2
  unfold dSh
  simp only [PyData.depth, PyData.depthAll]
  omega
/-! as values -/
def PlV (H : Hp) (x : V) (p : Rnd × Tbl) : Prop := ∃ a x1 x2, x = .ref a ∧ H a = some (.tup [x1, x2]) ∧ RndV H x1 p.1 ∧ TabV H x2 p.2
def ShV (H : Hp) (x : V) (q : Seat) : Prop := ∃ a b ys, x = .ref a ∧ H a = some (.tup [.int q.1, .ref b]) ∧ H b = some (.tup ys) ∧ Paired (PlV H) ys q.2
theorem PlV.mono {H H' : Hp} {x : V} {p : Rnd × Tbl} (h : PlV H x p) (s : SameT H H') : PlV H' x p := by
  obtain ⟨a, x1, x2, rfl, h1, h2, h3⟩ := h
  exact ⟨a, x1, x2, rfl, s _ _ h1, h2.mono s, h3.mono s⟩
theorem ShV.mono {H H' : Hp} {x : V} {q : Seat} (h : ShV H x q) (s : SameT H H') : ShV H' x q := by
  obtain ⟨a, b, ys, rfl, h1, h2, h3⟩ := h
  exact ⟨a, b, ys, rfl, s _ _ h1, s _ _ h2, paired_mono (fun _ _ z => z.mono s) h3⟩
section
variable {K : PySem.W.Frag} {H : Hp} {Q : VK} {a : Addr}
theorem dp_pl {x : V} {p : Rnd × Tbl} (h : PlV H x p) : Dp K H x (dPl p) := by
  obtain ⟨b, x1, x2, rfl, h1, h2, h3⟩ := h
  exact .tup (SqT.of h1) (.cons (dp_rnd h2) (.cons (dp_tab h3) .nil))
theorem dp_sh {x : V} {q : Seat} (h : ShV H x q) : Dp K H x (dSh q) := by
  obtain ⟨b, c, ys, rfl, h1, h2, h3⟩ := h
  exact .tup (SqT.of h1) (.cons (.int _) (.cons (.tup (SqT.of h2) (dpAll_of (fun _ _ z => dp_pl z) h3)) .nil))
theorem sh_nkV {b : Addr} {q : Seat} (h : ShV H (.ref b) q) : NkV K H (b, nSh q) := ⟨by
  show Dp K H (.ref b) (nSh q).data
  rw [data_Sh]
  exact dp_sh h, nkOk_Sh q⟩
def sortPl (ps : List (Rnd × Tbl)) : List (Rnd × Tbl) := ps.mergeSort (PySem.W.dataLe false dPl)
theorem sortPl_perm (ps : List (Rnd × Tbl)) : (sortPl ps).Perm ps := List.mergeSort_perm _ _
theorem sortPl_iff {l m : List (Rnd × Tbl)} : sortPl l = sortPl m ↔ l.Perm m := ⟨fun h => (sortPl_perm l).symm.trans (h ▸ sortPl_perm m), fun h => pfx_Pl.sorted h⟩
/-- sorted of places -/
theorem sort_pls {xs : List V} {ps : List (Rnd × Tbl)} (hl : SqL K H a xs ∨ SqT K H a xs) (hp : Paired (PlV H) xs ps) (q : ∀ ys p, H p = none → Paired (PlV H) ys (sortPl ps) → Q (.ref p) (upd H p (.lst ys))) : rSortD K dPl [.ref a] H Q := by
  refine ⟨a, xs, ps, PlV H, rfl, hl, hp, fun x b h => dp_pl h, allAlike_of alike_Pl ps, .inl fun d hd => ?_, fun b _ => Nat.le_trans (ddep_Pl b) (by decide), fun ys p hy hn => q ys p hn hy⟩
  obtain ⟨t, ht, rfl⟩ := List.mem_map.mp hd
  exact ⟨_, _, rfl⟩
end
end Nf

set_option Elab.async false
set_option linter.all false
set_option maxRecDepth 100000
set_option maxHeartbeats 4000000
namespace Nf
open PySem PySem.Spec PyProof.Rows L2
variable {P : Program} {w : World} {K : PySem.W.Frag} {mg : Str → Option Value} {base : Heap}
/-! ### alike: kinds_at, moved, set_apart -/
theorem cF_at {c : List Int} {g : Int} (h0 : 0 ≤ g) (h1 : g < c.length) : atI (c.map V.int) g = some (.int (cF c g)) := tAt_at h0 h1
theorem scKindsAt : FnScope ["table", "kinds", "guest"] ["table", "kinds"] (defScope sKindsAt) := ⟨rfl, rfl, rfl, by decide +kernel, rfl, by decide +kernel, by decide +kernel⟩
def spKindsAt (K : PySem.W.Frag) : Sp := fun vs H Q _ => ∃ (x : V) (l : Addr) (t : Tbl) (c : List Int), vs = [x, .ref l] ∧ TabV H x t ∧ SqL K H l (c.map V.int) ∧ t.length ≤ 1000 ∧ (∀ g ∈ t, 0 ≤ g ∧ g < c.length) ∧ ∀ y H', Same H H' → TabV H' y (mvT (cF c) t) → Q y H'
theorem ok_kindsAt {f : Addr} {fd : FuncData} (F : Fun K "kinds_at" "kinds_at" sKindsAt f fd) (B : Blt mg) : FnOk P w K mg base CX0 1 f fd ["table", "kinds"] (spKindsAt K) := by
  refine F.ok scKindsAt (fun vs H Q E h => ?_) (fun cdv A outer s H vs Q E hr h => ?_)
  · obtain ⟨x, l, t, c, rfl, _⟩ := h
    rfl
  · obtain ⟨x, l, t, c, rfl, ⟨b, rfl, hb⟩, hl, htl, htg, q⟩ := h
    refine ⟨_, pss_one (ps_ret (pe_callTy call_tuple_of (by rfl) B.tuple (by decide +kernel) (pa_cons (pe_callB (cr_sortD (fun i : Int => PyData.int i) hr.units) (by rfl) B.sorted (by decide +kernel) (pa_cons
        (pe_lc (own := [("guest", 2)]) (g := gName 2) (wi := iTup K (tVar 0)) (tt := tYes) (te := tOp (rIxL K) (tVar 1) (tVar 2)) (by rfl) scKindsAt.nd (pi_tup (pv 0))
          (blkOk_by (N := ["table", "kinds", "guest"]) (sc := defScope sKindsAt) (by decide +kernel))
          (fun _ _ _ _ _ => pg_name (i := 2) (x := "guest") scKindsAt.nd rfl (.inl rfl) (.inr rfl)) (fun _ _ _ _ _ => pts_nil)
          (fun _ _ _ _ _ => pe_ix ix_list (pv 1) (pv 2) (fun _ _ => rfl))) pa_nil)) pa_nil))), ?_⟩
    have big : (1000 : Nat) < sizeLine := by decide
    refine ⟨.ref b, rfl, b, rfl, ⟨_, SqT.of hb⟩, fun D nD => ?_⟩
    have s0 : Same H (upd H D (.lst [])) := same_new nD
    refine lc_it (walk_tup (xs := t.map V.int)) (fun m H7 => Same H H7 ∧ H7 D = some (.lst (((t.take m).map (cF c)).map V.int))) ⟨s0, upd_same⟩ (fun m H7 _ h => SqT.of (h.1 _ _ hb)) (fun m x H7 H8 hm hM y => ?_) (fun H7 hM => ?_)
    · obtain ⟨sm7, hD7⟩ := hM
      obtain ⟨rfl, hx2⟩ := y
      obtain ⟨d, hd, rfl⟩ := getElem?_int hx2
      obtain ⟨hd0, hd1⟩ := htg d (List.mem_of_getElem? hd)
      refine ⟨wipe_put (by decide), yesT ?_⟩
      refine ⟨.ref l, rfl, .int d, rfl, l, _, d, _, rfl, rfl, sm7.seq hl, cF_at hd0 hd1, _, hD7, ?_, same_put sm7 nD, ?_⟩
      · rw [List.length_map, List.length_map, List.length_take]
        omega
      · rw [upd_same, takeSucc hd, List.map_append, List.map_append]
        rfl
    · obtain ⟨sm7, hD7⟩ := hM
      rw [List.length_map, List.take_of_length_le (Nat.le_refl _)] at hD7
      dsimp only [tNil]
      refine sort_ints (.inl (SqL.of hD7)) fun p2 np2 => ?_
      have s2 := sm7.trans (same_new (o := .lst ((sortI (t.map (cF c))).map V.int)) np2)
      refine ⟨p2, _, rfl, .inl ⟨SqL.of upd_same, fun t2 nt2 => ?_⟩⟩
      have s3 := s2.trans (same_new (o := .tup ((sortI (t.map (cF c))).map V.int)) nt2)
      exact q _ _ s3 ⟨t2, rfl, upd_same⟩
def oScMv : Scope := { kind := .function, names := [(PySem.Str.ofString ".0", .local), (PySem.Str.ofString "table", .local), (PySem.Str.ofString "tuple", .globalImplicit), (PySem.Str.ofString "by", .cell)], isGenerator := false, isCoroutine := false, more := [] }
theorem scMovedP : FnScope ["tables", "by", "table", "guest"] ["tables", "by"] (defScope sMovedP) := ⟨rfl, rfl, rfl, by decide +kernel, rfl, by decide +kernel, by decide +kernel⟩
def spMovedP : Sp := fun vs H Q _ => ∃ (x : V) (r : Rnd) (b : Int), vs = [x, .int b] ∧ RndV H x r ∧ r.length ≤ 1000 ∧ (∀ t ∈ r, t.length ≤ 1000) ∧ ∀ y H', Same H H' → RndV H' y (shR b r) → Q y H'
theorem ok_movedP {f : Addr} {fd : FuncData} (F : Fun K "moved" "moved" sMovedP f fd) (B : Blt mg) : FnOk P w K mg base CX0 1 f fd ["tables", "by"] spMovedP := by
  refine F.ok scMovedP (fun vs H Q E h => ?_) (fun cdv A outer s H vs Q E hr h => ?_)
  · obtain ⟨x, r, b, rfl, _⟩ := h
    rfl
  · obtain ⟨x, r, bn, rfl, ⟨p, xs, rfl, hp, hxs⟩, hr1, hrt, q⟩ := h
    refine ⟨_, pss_one (ps_ret (pe_callTy call_tuple_of (by rfl) B.tuple (by decide +kernel) (pa_cons
        (pe_lc (own := [("table", 2)]) (g := gName 2) (tt := tYes)
          (te := tCB (rTupOf K) (tCons (tLc (iTup K (tVar 2)) (gName 3) tYes (tOp (rI0 fun i j => .int (i + j)) (tVar 3) (tVar 1)) [3]) tNil)) (by rfl) scMovedP.nd (pi_tup (pv 0))
          (blkOk_by (N := ["tables", "by", "table", "guest"]) (sc := defScope sMovedP) (by decide +kernel))
          (fun _ _ _ _ _ => pg_name (i := 2) (x := "table") scMovedP.nd rfl (.inl rfl) (.inr rfl)) (fun _ _ _ _ _ => pts_nil)
          (fun _ _ _ _ _ => pe_callTy call_tuple_of (by rfl) B.tuple (by decide +kernel) (pa_cons
            (pe_lc (own := [("guest", 3)]) (g := gName 3) (wi := iTup K (tVar 2)) (tt := tYes) (te := tOp (rI0 fun i j => .int (i + j)) (tVar 3) (tVar 1)) (by rfl) scMovedP.nd (pi_tup (pv 2))
              (blkOk_by (N := ["tables", "by", "table", "guest"]) (sc := oScMv) (by decide +kernel))
              (fun _ _ _ _ _ => pg_name (i := 3) (x := "guest") scMovedP.nd rfl (.inl rfl) (.inr rfl)) (fun _ _ _ _ _ => pts_nil)
              (fun _ _ _ _ _ => pe_op op_add (pv 3) (pv 1))) pa_nil))) pa_nil))), ?_⟩
    have big : (1000 : Nat) < sizeLine := by decide
    refine ⟨.ref p, rfl, p, rfl, ⟨_, SqT.of hp⟩, fun D nD => ?_⟩
    have s0 : Same H (upd H D (.lst [])) := same_new nD
    refine lc_it (walk_tup (xs := xs)) (fun i H5 => Same H H5 ∧ ∃ acc, H5 D = some (.lst acc) ∧ Paired (TabV H5) acc ((r.take i).map fun t => t.map (· + bn))) ⟨s0, [], upd_same, .nil⟩ (fun i H5 _ h => SqT.of (h.1 _ _ hp)) (fun i x H5 H6 hi hI y => ?_) (fun H5 hI => ?_)
    · obtain ⟨sm, acc, hD, hac⟩ := hI
      obtain ⟨rfl, hx⟩ := y
      obtain ⟨t, ht, b, rfl, hb⟩ := paired_getL hxs hx
      have htl := hrt t (List.mem_of_getElem? ht)
      refine ⟨wipe_put (by decide), yesT ?_⟩
      refine ⟨.ref b, rfl, b, rfl, ⟨_, SqT.of (sm _ _ hb)⟩, fun D2 nD2 => ?_⟩
      have s1 : Same H6 (upd H6 D2 (.lst [])) := same_new nD2
      refine lc_it (walk_tup (xs := t.map V.int)) (fun m H7 => Same H6 H7 ∧ H7 D2 = some (.lst (((t.take m).map (· + bn)).map V.int))) ⟨s1, upd_same⟩ (fun m H7 _ h => SqT.of (h.1 _ _ (sm _ _ hb))) (fun m x H7 H8 hm hM y => ?_) (fun H7 hM => ?_)
      · obtain ⟨sm7, hD7⟩ := hM
        obtain ⟨rfl, hx2⟩ := y
        obtain ⟨d, hd, rfl⟩ := getElem?_int hx2
        refine ⟨wipe_put (by decide), yesT ?_⟩
        refine ⟨.int d, rfl, .int bn, rfl, _, _, rfl, rfl, _, hD7, ?_, same_put sm7 nD2, ?_⟩
        · rw [List.length_map, List.length_map, List.length_take]
          omega
        · rw [upd_same, takeSucc hd, List.map_append, List.map_append]
          rfl
      · obtain ⟨sm7, hD7⟩ := hM
        rw [List.length_map, List.take_of_length_le (Nat.le_refl _)] at hD7
        refine ⟨D2, _, rfl, .inl ⟨SqL.of hD7, fun t2 nt2 => ?_⟩⟩
        have s3 := sm7.trans (same_new (o := .tup ((t.map (· + bn)).map V.int)) nt2)
        have hD3 := s3 _ _ hD
        refine ⟨acc, hD3, ?_, same_put (sm.trans s3) nD, acc ++ [.ref t2], upd_same, ?_⟩
        · have := paired_len hac
          rw [List.length_map, List.length_take] at this
          omega
        · have keepT : ∀ {v : V} {u : Tbl}, TabV _ v u → TabV (upd _ D (.lst (acc ++ [.ref t2]))) v u := fun {v u} h => by
            obtain ⟨a, rfl, ha⟩ := h
            exact ⟨a, rfl, by rw [upd_ne (ne_of ha hD3 (by intro e; cases e))]; exact ha⟩
          rw [takeSucc ht, List.map_append]
          exact paired_snoc (paired_mono (fun v u h => keepT (h.mono (same_toT s3))) hac) (keepT ⟨t2, rfl, upd_same⟩)
    · obtain ⟨sm, acc, hD, hac⟩ := hI
      rw [paired_len hxs, List.take_of_length_le (Nat.le_refl _)] at hac
      refine ⟨D, _, rfl, .inl ⟨SqL.of hD, fun t nt => ?_⟩⟩
      have s2 : Same H5 (upd H5 t (.tup acc)) := same_new nt
      exact q _ _ (sm.trans s2) ⟨t, acc, rfl, upd_same, paired_mono (fun _ _ h => h.mono (same_toT s2)) hac⟩
/-! set_apart -/
def apartL (c : List Int) (a b : Int) : List Int := (rangeI c.length).map fun x => if x = a ∨ x = b then (c.length : Int) else cF c x
theorem apartL_len (c : List Int) (a b : Int) : (apartL c a b).length = c.length := by
  unfold apartL
  rw [List.length_map, rangeI_len]
theorem apartL_ok {g : Nat} {c : List Int} (hc : c.length = 2 * g) (a b : Int) : Apart g c (apartL c a (b + g)) a b := by
  refine ⟨by rw [apartL_len, hc], fun x hx => ?_⟩
  obtain ⟨i, rfl, hi⟩ := inN_nat hx
  rw [cF_get (by rw [apartL_len, hc]; exact hi)]
  unfold apartL rangeI
  rw [List.getElem_map, List.getElem_map, List.getElem_range, hc]
def rLenS (K : PySem.W.Frag) : List V → Hp → VK → Prop := fun xs H Q => ∃ p ys, xs = [.ref p] ∧ (SqL K H p ys ∨ SqT K H p ys) ∧ Q (.int ys.length) H
theorem in_two (a b x : Int) : inV (.int x) [.int a, .int b] = true ↔ (x = a ∨ x = b) := by
  simp only [inV, eqV, List.any_cons, List.any_nil, Bool.or_false, Bool.or_eq_true, beq_iff_eq]
  exact ⟨fun h => h.imp Eq.symm Eq.symm, fun h => h.imp Eq.symm Eq.symm⟩
theorem scSetApart : FnScope ["kinds", "guests", "guest", "kind"] ["kinds", "guests"] (defScope sSetApart) := ⟨rfl, rfl, rfl, by decide +kernel, rfl, by decide +kernel, by decide +kernel⟩
def spSetApart (K : PySem.W.Frag) : Sp := fun vs H Q _ => ∃ (l t : Addr) (c : List Int) (a b : Int), vs = [.ref l, .ref t] ∧ SqL K H l (c.map V.int) ∧ SqT K H t [.int a, .int b] ∧ c.length ≤ 1000 ∧ ∀ p H', Same H H' → H p = none → H' p = some (.lst ((apartL c a b).map V.int)) → Q (.ref p) H'
theorem ok_setApart {f : Addr} {fd : FuncData} (F : Fun K "set_apart" "set_apart" sSetApart f fd) (B : Blt mg) : FnOk P w K mg base CX0 1 f fd ["kinds", "guests"] (spSetApart K) := by
  refine F.ok scSetApart (fun vs H Q E h => ?_) (fun cdv A outer s H vs Q E hr h => ?_)
  · obtain ⟨l, t, c, a, b, rfl, _⟩ := h
    rfl
  · obtain ⟨l, t, c, a, b, rfl, hl, ht, hcl, q⟩ := h
    refine ⟨_, pss_one (ps_ret (pe_lc (own := [("guest", 2), ("kind", 3)]) (g := gTup K 2 (gCons (gName 2) (gCons (gName 3) gNil))) (tt := tYes) (te := tIf (tTest (tOp (rIn K false) (tVar 2) (tVar 1))) (tCB (rLenS K) (tCons (tVar 0) tNil)) (tVar 3)) (by rfl) scSetApart.nd (pi_enum (by rfl) B.enumerate (pa_cons (pv 0) pa_nil))
        (blkOk_by (N := ["kinds", "guests", "guest", "kind"]) (sc := defScope sSetApart) (by decide +kernel))
        (fun _ _ _ _ _ => pg_tup rfl (pgs_cons (pg_name (i := 2) (x := "guest") scSetApart.nd rfl (.inl rfl) (.inr rfl)) (pgs_cons (pg_name (i := 3) (x := "kind") scSetApart.nd rfl (.inl rfl) (.inr rfl)) pgs_nil)))
        (fun _ _ _ _ _ => pts_nil) (fun _ _ _ _ _ => pe_ifExp (pt_cmpR op_in_seq (pv 2) (pv 1) (by rfl)) (pe_callB call_len_seq (by rfl) B.len PySem.boot_len (pa_cons (pv 0) pa_nil)) (pv 3)))), ?_⟩
    have big : (1000 : Nat) < sizeLine := by decide
    refine ⟨.ref l, rfl, l, _, rfl, hl, fun D nD => ?_⟩
    have s0 : Same H (upd H D (.lst [])) := same_new nD
    refine lc_it (walk_enum (xs := c.map V.int)) (fun i H5 => Same H H5 ∧ H5 D = some (.lst (((apartL c a b).take i).map V.int))) ⟨s0, by rw [List.take_zero]; exact upd_same⟩ (fun i H5 _ h => h.1.seq hl) (fun i x H5 H6 hi hI y => ?_) (fun H5 hI => ?_)
    · obtain ⟨sm, hD⟩ := hI
      obtain ⟨U, v1, v2, rfl, nU, rfl, g1, g2⟩ := y
      have e1 : v1 = .int ((i : Nat) : Int) := (Option.some.inj g1).symm
      subst e1
      obtain ⟨d, hd, rfl⟩ := getElem?_int g2
      have sU : Same H5 (upd H5 U (.tup [.int ((i : Nat) : Int), .int d])) := same_new nU
      have smU := sm.trans sU
      have hi' : i < c.length := (List.getElem?_eq_some_iff.mp hd).1
      have ed : cF c (i : Int) = d := by
        rw [cF_get hi']
        exact (List.getElem?_eq_some_iff.mp hd).2
      have step : ∀ v : Int, v = (if (i : Int) = a ∨ (i : Int) = b then (c.length : Int) else d) → ∃ acc, (upd H5 U (.tup [.int ((i : Nat) : Int), .int d])) D = some (.lst acc) ∧ acc.length < sizeLine ∧ Same H (upd (upd H5 U (.tup [.int ((i : Nat) : Int), .int d])) D (.lst (acc ++ [.int v]))) ∧ (upd (upd H5 U (.tup [.int ((i : Nat) : Int), .int d])) D (.lst (acc ++ [.int v]))) D = some (.lst (((apartL c a b).take (i + 1)).map V.int)) := fun v hv => by
        refine ⟨_, sU _ _ hD, ?_, same_put smU nD, ?_⟩
        · rw [List.length_map, List.length_take]
          have := apartL_len c a b
          omega
        · have ea : (apartL c a b)[i]? = some v := by
            unfold apartL
            rw [List.getElem?_map]
            unfold rangeI
            rw [List.getElem?_map, List.getElem?_range hi', hv, ← ed]
            rfl
          rw [upd_same, takeSucc ea, List.map_append]
          rfl
      refine ⟨U, _, rfl, SqT.of upd_same, rfl, _, _, rfl, _, _, rfl, ⟨rfl, wipe_put2 (by decide) (by decide), yesT ?_⟩⟩
      refine ⟨.int (i : Nat), rfl, .ref t, rfl, t, _, rfl, .inr (sqt_same ht smU), rfl, rfl, _, rfl, ite2 (fun hc => ?_) (fun hc => ?_)⟩
      · refine ⟨.ref l, rfl, l, _, rfl, .inl (smU.seq hl), ?_⟩
        have hin : (i : Int) = a ∨ (i : Int) = b := (in_two a b i).mp hc
        obtain ⟨acc, h1, h2, h3⟩ := step c.length (by rw [if_pos hin])
        refine ⟨acc, h1, h2, ?_⟩
        rw [List.length_map]
        exact h3
      · have hin : ¬ ((i : Int) = a ∨ (i : Int) = b) := fun z => hc ((in_two a b i).mpr z)
        obtain ⟨acc, h1, h2, h3⟩ := step d (by rw [if_neg hin])
        exact ⟨.int d, rfl, acc, h1, h2, h3⟩
    · obtain ⟨sm, hD⟩ := hI
      rw [List.length_map, ← apartL_len c a b, List.take_of_length_le (Nat.le_refl _)] at hD
      exact q D _ sm nD hD
end Nf

set_option Elab.async false
set_option linter.all false
set_option maxRecDepth 100000
set_option maxHeartbeats 4000000
namespace Nf
open PySem PySem.Spec PyProof.Rows L2
variable {P : Program} {w : World} {K : PySem.W.Frag} {mg : Str → Option Value} {base : Heap}
/-! ### alike: shown_seats -/
abbrev nShown : List Str := ["plan", "kinds", "seats", "tables", "shown", "together", "table", "company", "guest", "kind", "places"]
theorem scShown : FnScope nShown ["plan", "kinds"] (defScope sShown) := ⟨rfl, rfl, rfl, by decide +kernel, rfl, by decide +kernel, by decide +kernel⟩
def seatM (c : List Int) (rs : List Rnd) (x : Int) : Seat := (cF c x, sortPl (plcs (cF c) rs x))
structure PlanS (n : Nat) (rs : List Rnd) : Prop where
  len : rs.length ≤ 1000
  rd : ∀ r ∈ rs, r.length ≤ 1000 ∧ r.flatten.Nodup ∧ ∀ t ∈ r, t ≠ [] ∧ t.length ≤ 1000 ∧ ∀ g ∈ t, 0 ≤ g ∧ g < n
def spShown (K : PySem.W.Frag) : Sp := fun vs H Q _ => ∃ (lp lk : Addr) (rs : List Rnd) (c : List Int), vs = [.ref lp, .ref lk] ∧ PlanV K H lp rs ∧ SqL K H lk (c.map V.int) ∧ c.length ≤ 1000 ∧ PlanS c.length rs ∧
  ∀ q H' xs, Same H H' → H q = none → H' q = some (.lst xs) → Paired (ShV H') xs ((rangeI c.length).map (seatM c rs)) → Q (.ref q) H'
/-- the lists of all seats, under way -/
structure SeatI (H0 H : Hp) (S : Addr) (ds : List Addr) (n : Nat) (f : Nat → List (Rnd × Tbl)) : Prop where
  sm : Same H0 H
  lst : H S = some (.lst (ds.map V.ref))
  nS : H0 S = none
  len : ds.length = n
  nd : ds.Nodup
  ns : S ∉ ds
  fr : ∀ d ∈ ds, H0 d = none
  at_ : ∀ i d, ds[i]? = some d → ∃ ys, H d = some (.lst ys) ∧ Paired (PlV H) ys (f i)
theorem SeatI.keep {H0 H H' : Hp} {S : Addr} {ds : List Addr} {n : Nat} {f : Nat → List (Rnd × Tbl)} (h : SeatI H0 H S ds n f) (s : Same H H') : SeatI H0 H' S ds n f :=
  ⟨h.sm.trans s, s _ _ h.lst, h.nS, h.len, h.nd, h.ns, h.fr, fun i d e => let ⟨ys, h1, h2⟩ := h.at_ i d e; ⟨ys, s _ _ h1, paired_mono (fun _ _ z => z.mono (same_toT s)) h2⟩⟩
theorem SeatI.congr {H0 H : Hp} {S : Addr} {ds : List Addr} {n : Nat} {f f' : Nat → List (Rnd × Tbl)} (h : SeatI H0 H S ds n f) (e : ∀ i, f i = f' i) : SeatI H0 H S ds n f' := by
  have : f = f' := funext e
  rw [← this]
  exact h
/-- one more place for one guest -/
theorem SeatI.put {H0 H : Hp} {S d : Addr} {ds : List Addr} {n i : Nat} {f : Nat → List (Rnd × Tbl)} {y : V} {p : Rnd × Tbl} (h : SeatI H0 H S ds n f) (hi : ds[i]? = some d) (hy : PlV H y p) :
    ∃ ys, H d = some (.lst ys) ∧ ys.length = (f i).length ∧ SameT H (upd H d (.lst (ys ++ [y]))) ∧ SeatI H0 (upd H d (.lst (ys ++ [y]))) S ds n fun j => if j = i then f j ++ [p] else f j := by
  obtain ⟨ys, h1, h2⟩ := h.at_ i d hi
  have T : SameT H (upd H d (.lst (ys ++ [y]))) := fun a us e => by
    rw [upd_ne (ne_of e h1 (by intro z; cases z))]
    exact e
  have hdm : d ∈ ds := List.mem_of_getElem? hi
  have ndS : S ≠ d := fun e => h.ns (e ▸ hdm)
  refine ⟨ys, h1, paired_len h2, T, ⟨?_, ?_, h.nS, h.len, h.nd, h.ns, h.fr, fun j b hb => ?_⟩⟩
  · exact same_put h.sm (h.fr d hdm)
  · rw [upd_ne ndS]
    exact h.lst
  · by_cases e : j = i
    · subst e
      rw [hi] at hb
      cases hb
      rw [if_pos rfl]
      exact ⟨_, upd_same, paired_snoc (paired_mono (fun _ _ z => z.mono T) h2) (hy.mono T)⟩
    · rw [if_neg e]
      have hne : b ≠ d := fun q => by
        subst q
        obtain ⟨l1, e1⟩ := List.getElem?_eq_some_iff.mp hi
        obtain ⟨l2, e2⟩ := List.getElem?_eq_some_iff.mp hb
        exact e ((List.getElem_inj h.nd).mp (e2.trans e1.symm))
      obtain ⟨zs, z1, z2⟩ := h.at_ j b hb
      exact ⟨zs, by rw [upd_ne hne]; exact z1, paired_mono (fun _ _ z => z.mono T) z2⟩
theorem plcs_len {c : Int → Int} {x : Int} : ∀ {rs : List Rnd}, (∀ r ∈ rs, r.length ≤ 1000) → (plcs c rs x).length ≤ rs.length * 1000
  | [], _ => Nat.zero_le _
  | r :: rs, h => by
    have ih := plcs_len (c := c) (x := x) (rs := rs) fun q hq => h q (List.mem_cons_of_mem _ hq)
    have h1 : (pl1 c r x).length ≤ 1000 := by
      unfold pl1
      rw [List.length_map]
      exact Nat.le_trans (List.length_filter_le _ _) (h r List.mem_cons_self)
    show (pl1 c r x ++ plcs c rs x).length ≤ _
    rw [List.length_append, List.length_cons]
    omega
/-- the places of one round, of the tables ahead -/
def plA (c : Int → Int) (R : Rnd) (ts : List Tbl) (x : Int) : List (Rnd × Tbl) := (ts.filter fun t => decide (x ∈ t)).map fun t => (R, mvT c t)
def stA (c : List Int) (rs : List Rnd) (R : Rnd) (ts : List Tbl) (i : Nat) : List (Rnd × Tbl) := plcs (cF c) rs (i : Int) ++ plA (cF c) R ts (i : Int)
theorem plA_snoc (c : Int → Int) (R : Rnd) (ts : List Tbl) (t : Tbl) (x : Int) : plA c R (ts ++ [t]) x = plA c R ts x ++ if x ∈ t then [(R, mvT c t)] else [] := by
  unfold plA
  rw [List.filter_append, List.map_append]
  congr 1
  by_cases h : x ∈ t
  · rw [List.filter_cons_of_pos (by simpa using h), if_pos h]
    rfl
  · rw [List.filter_cons_of_neg (by simpa using h), if_neg h]
    rfl
theorem ok_shown {f fA : Addr} {fd fdA : FuncData} (F : Fun K "shown_seats" "shown_seats" sShown f fd) (B : Blt mg) (FA : Fun K "kinds_at" "kinds_at" sKindsAt fA fdA) (bA : Binds K fdA ["table", "kinds"] []) (gA : mg "kinds_at" = some (.ref fA)) :
    FnOk P w K mg base CX0 2 f fd ["plan", "kinds"] (spShown K) := by
  have GA : FnOk P w K mg base CX0 1 fA fdA ["table", "kinds"] (spKindsAt K) := ok_kindsAt FA B
  refine F.ok scShown (fun vs H Q E h => ?_) (fun cdv A outer s H vs Q E hr h => ?_)
  · obtain ⟨lp, lk, rs, c, rfl, _⟩ := h
    rfl
  · obtain ⟨lp, lk, rs, c, rfl, ⟨xs, hp, hxs⟩, hk, hcl, hS, q⟩ := h
    have hr1 : Room 1 _ := hr.mono (by decide)
    refine ⟨_, pss_cons (ps_setLc (i := 2) (own := [("kind", 9)]) (g := gName 9) (tt := tYes) (te := tLst tNil) (by rfl) scShown.nd rfl rfl (sw_true rfl rfl rfl (by decide +kernel)) (pi_list (pv 1))
          (blkOk_by (N := nShown) (sc := defScope sShown) (by decide +kernel))
          (fun _ _ _ _ _ => pg_name (i := 9) (x := "kind") scShown.nd rfl (.inl rfl) (.inr rfl)) (fun _ _ _ _ _ => pts_nil) (fun _ _ _ _ _ => pe_lst pa_nil))
      (pss_cons (ps_for PassesOwn.never rfl (pi_list (pv 0)) (pg_name (i := 3) scShown.nd rfl (.inl rfl))
        (pss_cons (ps_setLc (i := 4) (own := [("table", 6)]) (g := gName 6) (tt := tYes) (te := tCall (spKindsAt K) [] E0 (tCons (tVar 6) (tCons (tVar 1) tNil))) (by rfl) scShown.nd rfl rfl (sw_true rfl rfl rfl (by decide +kernel)) (pi_tup (pv 3))
          (blkOk_by (N := nShown) (sc := defScope sShown) (by decide +kernel))
          (fun _ _ _ _ _ => pg_name (i := 6) (x := "table") scShown.nd rfl (.inl rfl) (.inr rfl)) (fun _ _ _ _ _ => pts_nil) (fun _ _ _ _ _ => pe_call GA hr1 (by rfl) gA FA.kp bA .nil pass0 (pa_cons (pv 6) (pa_cons (pv 1) pa_nil))))
        (pss_cons (ps_set (i := 5) scShown.nd rfl (.inl rfl) (pe_callTy call_tuple_of (by rfl) B.tuple (by decide +kernel) (pa_cons (pe_callB (cr_sortD dT hr.units) (by rfl) B.sorted (by decide +kernel) (pa_cons (pv 4) pa_nil)) pa_nil)))
        (pss_one (ps_for PassesOwn.never rfl (pi_zipM (by rfl) B.zip (pa_cons (pv 3) (pa_cons (pv 4) pa_nil))) (pg_tup rfl (pgs_cons (pg_name (i := 6) scShown.nd rfl (.inl rfl)) (pgs_cons (pg_name (i := 7) scShown.nd rfl (.inl rfl)) pgs_nil)))
          (pss_one (ps_for PassesOwn.never rfl (pi_tup (pv 6)) (pg_name (i := 8) scShown.nd rfl (.inl rfl))
            (pss_one (ps_expr (pe_bm PySem.F.plainAttrs_list PySem.F.slot_list_append PySem.F.type_list_append mt_append (pe_ix ix_list (pv 2) (pv 8) (fun _ _ => rfl)) (pa_cons (pe_tup (pa_cons (pv 5) (pa_cons (pv 7) pa_nil))) pa_nil)))))))))))
      (pss_one (ps_ret (pe_lc (own := [("kind", 9), ("places", 10)]) (g := gTup K 2 (gCons (gName 9) (gCons (gName 10) gNil))) (tt := tYes) (te := tTup (tCons (tVar 9) (tCons (tCB (rTupOf K) (tCons (tCB (rSortD K dPl) (tCons (tVar 10) tNil)) tNil)) tNil))) (by rfl) scShown.nd (pi_zip (by rfl) B.zip (pa_cons (pv 1) (pa_cons (pv 2) pa_nil)))
          (blkOk_by (N := nShown) (sc := defScope sShown) (by decide +kernel))
          (fun _ _ _ _ _ => pg_tup rfl (pgs_cons (pg_name (i := 9) (x := "kind") scShown.nd rfl (.inl rfl) (.inr rfl)) (pgs_cons (pg_name (i := 10) (x := "places") scShown.nd rfl (.inl rfl) (.inr rfl)) pgs_nil)))
          (fun _ _ _ _ _ => pts_nil) (fun _ _ _ _ _ => pe_tup (pa_cons (pv 9) (pa_cons (pe_callTy call_tuple_of (by rfl) B.tuple (by decide +kernel) (pa_cons (pe_callB (cr_sortD dPl hr.units) (by rfl) B.sorted (by decide +kernel) (pa_cons (pv 10) pa_nil)) pa_nil)) pa_nil))))))), ?_⟩
    have big : (5000000 : Nat) < sizeLine := by decide
    have hxl := paired_len hxs
    -- seats
    refine ⟨.ref lk, rfl, lk, rfl, ⟨_, hk⟩, fun S nS => ?_⟩
    refine lc_it (walk_list (xs := c.map V.int)) (fun i H2 => Same H H2 ∧ ∃ ds : List Addr, H2 S = some (.lst (ds.map V.ref)) ∧ ds.length = i ∧ ds.Nodup ∧ S ∉ ds ∧ (∀ d ∈ ds, H d = none ∧ H2 d = some (.lst []))) ⟨same_new nS, [], upd_same, rfl, .nil, by simp, by simp⟩ (fun i H2 _ h => h.1.seq hk) (fun i x H2 H3 hi hI2 y => ?_) (fun H2 hI2 => ?_)
    · obtain ⟨rfl, hx⟩ := y
      obtain ⟨sm, ds, h1, h2, h3, h4, h5⟩ := hI2
      refine ⟨wipe_put (by decide), yesT ⟨Nat.zero_le _, fun d nd => ?_⟩⟩
      have ncd : S ≠ d := ne_of_none h1 nd
      have sd : Same H3 (upd H3 d (.lst [])) := same_new nd
      rw [List.length_map] at hi
      refine ⟨_, (upd_ne ncd).trans h1, by rw [List.length_map]; omega, same_put (sm.trans sd) nS, ds ++ [d], ?_, by simp [h2], ?_, ?_, fun d' hd' => ?_⟩
      · rw [upd_same, List.map_append]
        rfl
      · refine List.nodup_append.mpr ⟨h3, by simp, fun x hx y hy => ?_⟩
        rw [List.mem_singleton.mp hy]
        rintro rfl
        rw [(h5 x hx).2] at nd
        cases nd
      · intro z
        rcases List.mem_append.mp z with z | z
        · exact h4 z
        · exact ncd (List.mem_singleton.mp z)
      · rcases List.mem_append.mp hd' with hd' | hd'
        · have e := (h5 d' hd').2
          have n1 : d' ≠ S := fun z => h4 (z ▸ hd')
          exact ⟨(h5 d' hd').1, by rw [upd_ne n1, upd_ne (ne_of_none e nd)]; exact e⟩
        · rw [List.mem_singleton.mp hd']
          exact ⟨sm.free nd, by rw [upd_ne ncd.symm]; exact upd_same⟩
    obtain ⟨sm, ds, h1, h2, h3, h4, h5⟩ := hI2
    rw [List.length_map] at h2
    have C0 : SeatI H H2 S ds c.length fun j => plcs (cF c) (rs.take 0) (j : Int) := ⟨sm, h1, nS, h2, h3, h4, fun d hd => (h5 d hd).1, fun i d e => ⟨[], (h5 d (List.mem_of_getElem? e)).2, .nil⟩⟩
    clear h1 h3 h4 h5
    refine ⟨.ref lp, rfl, lp, rfl, ⟨_, sm.seq hp⟩, ?_⟩
    refine for_it (walk_list (xs := xs)) (fun i σ H3 => ∃ (y3 y4 y5 y6 y7 y8 : Option V), σ = [some (.ref lp), some (.ref lk), some (.ref S), y3, y4, y5, y6, y7, y8, none, none] ∧ SeatI H H3 S ds c.length fun j => plcs (cF c) (rs.take i) (j : Int)) ⟨none, none, none, none, none, none, rfl, C0⟩ (fun i σ H3 _ h => ?_) (fun i x σ H3 H4 hi hI y => ?_) (fun σ H3 hI => ?_)
    · obtain ⟨_, _, _, _, _, _, _, h⟩ := h
      exact h.sm.seq hp
    · obtain ⟨y3, y4, y5, y6, y7, y8, rfl, hC⟩ := hI
      obtain ⟨rfl, hx⟩ := y
      obtain ⟨r, hr0, a, ts, rfl, ha, hts⟩ := paired_getL hxs hx
      obtain ⟨hrl, hrn, hrt⟩ := hS.rd r (List.mem_of_getElem? hr0)
      have htl := paired_len hts
      -- shown
      refine ⟨.ref a, rfl, a, rfl, ⟨_, SqT.of (hC.sm _ _ ha)⟩, fun D nD => ?_⟩
      have sD : Same H4 (upd H4 D (.lst [])) := same_new nD
      refine lc_it (walk_tup (xs := ts)) (fun m H5 => Same H4 H5 ∧ ∃ acc, H5 D = some (.lst acc) ∧ Paired (TabV H5) acc ((r.take m).map (mvT (cF c)))) ⟨sD, [], upd_same, .nil⟩ (fun m H5 _ h => SqT.of (h.1 _ _ (hC.sm _ _ ha))) (fun m x H5 H6 hm hM y => ?_) (fun H5 hM => ?_)
      · obtain ⟨sm5, acc, hD, hac⟩ := hM
        obtain ⟨rfl, hx2⟩ := y
        obtain ⟨t, ht, b, rfl, hb⟩ := paired_getL hts hx2
        obtain ⟨htn, htl, htg⟩ := hrt t (List.mem_of_getElem? ht)
        refine ⟨wipe_put (by decide), yesT ?_⟩
        refine ⟨.ref b, rfl, .ref lk, rfl, .ref b, lk, t, c, rfl, ⟨b, rfl, sm5 _ _ (hC.sm _ _ hb)⟩, sm5.seq (hC.sm.seq hk), htl, htg, fun y H7 s7 hy => ?_⟩
        have hD7 := s7 _ _ hD
        refine ⟨acc, hD7, ?_, same_put (sm5.trans s7) nD, acc ++ [y], upd_same, ?_⟩
        · have := paired_len hac
          rw [List.length_map, List.length_take] at this
          omega
        · have keepT : ∀ {v : V} {u : Tbl}, TabV H7 v u → TabV (upd H7 D (.lst (acc ++ [y]))) v u := fun {v u} h => by
            obtain ⟨a2, rfl, ha2⟩ := h
            exact ⟨a2, rfl, by rw [upd_ne (ne_of ha2 hD7 (by intro e; cases e))]; exact ha2⟩
          rw [takeSucc ht, List.map_append]
          exact paired_snoc (paired_mono (fun v u h => keepT (h.mono (same_toT s7))) hac) (keepT hy)
      obtain ⟨sm5, acc, hD, hac⟩ := hM
      rw [htl, List.take_of_length_le (Nat.le_refl _)] at hac
      have hC5 := hC.keep sm5
      -- together
      refine ⟨.ref D, rfl, ?_⟩
      dsimp only [tNil]
      refine sort_tabs (.inl (SqL.of hD)) hac (fun t ht => ?_) fun ys p2 np2 hys => ?_
      · obtain ⟨u, hu, rfl⟩ := List.mem_map.mp ht
        intro e
        have e2 := congrArg List.length e
        rw [(mvT_perm _ _).length_eq, List.length_map] at e2
        exact (hrt u hu).1 (List.eq_nil_of_length_eq_zero e2)
      have s6 : Same H5 (upd H5 p2 (.lst ys)) := same_new np2
      refine ⟨p2, _, rfl, .inl ⟨SqL.of upd_same, fun tg ntg => ?_⟩⟩
      have s7 := s6.trans (same_new (o := .tup ys) ntg)
      have hR : RndV (upd (upd H5 p2 (.lst ys)) tg (.tup ys)) (.ref tg) (mvR (cF c) r) := ⟨tg, ys, rfl, upd_same, paired_mono (fun _ _ h => h.mono (same_toT s7)) hys⟩
      have hC7 := hC5.keep s7
      have hD7 := s7 _ _ hD
      have hac7 := paired_mono (fun _ _ h => TabV.mono h (same_toT s7)) hac
      generalize (upd (upd H5 p2 (.lst ys)) tg (.tup ys)) = H7 at hR hC7 hD7 hac7 ⊢
      have hal := paired_len hac7
      rw [List.length_map] at hal
      clear s6 s7 hys hC5 hac hD sm5
      refine ⟨.ref a, rfl, .ref D, rfl, a, D, ts, acc, rfl, SqT.of (hC7.sm _ _ ha), SqL.of hD7, ?_⟩
      refine for_it (walk_zipM (xs := ts) (ys := acc) (n := r.length) (by omega)) (fun m σ H8 => ∃ (y6 y7 y8 : Option V), σ = [some (.ref lp), some (.ref lk), some (.ref S), some (.ref a), some (.ref D), some (.ref tg), y6, y7, y8, none, none] ∧ H8 D = some (.lst acc) ∧ Paired (TabV H8) acc (r.map (mvT (cF c))) ∧ RndV H8 (.ref tg) (mvR (cF c) r) ∧ SeatI H H8 S ds c.length (stA c (rs.take i) (mvR (cF c) r) (r.take m)))
        ⟨y6, y7, y8, rfl, hD7, hac7, hR, hC7.congr fun j => by rw [List.take_zero]; exact (List.append_nil _).symm⟩ (fun m σ H8 _ h => ?_) (fun m x σ H8 H9 hm hM y => ?_) (fun σ H8 hM => ?_)
      · obtain ⟨_, _, _, _, h1, _, _, h4⟩ := h
        exact ⟨SqT.of (h4.sm _ _ ha), SqL.of h1⟩
      · obtain ⟨y6, y7, y8, rfl, hD8, hac8, hR8, hC8⟩ := hM
        obtain ⟨U, v1, v2, rfl, nU, rfl, g1, g2⟩ := y
        obtain ⟨t, ht, b, rfl, hb⟩ := paired_getL hts g1
        have hv2 : TabV H8 v2 (mvT (cF c) t) := by
          obtain ⟨t2, ht2, q2⟩ := paired_getL hac8 g2
          rw [List.getElem?_map, ht] at ht2
          cases ht2
          exact q2
        obtain ⟨htn, htl, htg⟩ := hrt t (List.mem_of_getElem? ht)
        have htnd : t.Nodup := flat_each hrn t (List.mem_of_getElem? ht)
        have sU : Same H8 (upd H8 U (.tup [.ref b, v2])) := same_new nU
        have hC9 := hC8.keep sU
        refine ⟨U, _, rfl, SqT.of upd_same, rfl, _, _, rfl, _, _, rfl, ⟨rfl, ?_⟩⟩
        have hD9 := sU _ _ hD8
        have hac9 := paired_mono (fun _ _ h => TabV.mono h (same_toT sU)) hac8
        have hR9 := hR8.mono (same_toT sU)
        have hv9 := hv2.mono (same_toT sU)
        generalize (upd H8 U (.tup [.ref b, v2])) = H9 at hC9 hD9 hac9 hR9 hv9 ⊢
        clear hD8 hac8 hR8 hC8 hv2 nU sU
        refine ⟨.ref b, rfl, b, rfl, ⟨_, SqT.of (hC9.sm _ _ hb)⟩, ?_⟩
        refine for_it (walk_tup (xs := t.map V.int)) (fun u σ H10 => ∃ (y8 : Option V), σ = [some (.ref lp), some (.ref lk), some (.ref S), some (.ref a), some (.ref D), some (.ref tg), some (.ref b), some v2, y8, none, none] ∧ H10 D = some (.lst acc) ∧ Paired (TabV H10) acc (r.map (mvT (cF c))) ∧ RndV H10 (.ref tg) (mvR (cF c) r) ∧ TabV H10 v2 (mvT (cF c) t) ∧
            SeatI H H10 S ds c.length fun j => stA c (rs.take i) (mvR (cF c) r) (r.take m) j ++ if ((j : Nat) : Int) ∈ t.take u then [(mvR (cF c) r, mvT (cF c) t)] else [])
          ⟨y8, rfl, hD9, hac9, hR9, hv9, hC9.congr fun j => by simp⟩ (fun u σ H10 _ h => ?_) (fun u x σ H10 H11 hu hU y => ?_) (fun σ H10 hU => ?_)
        · obtain ⟨_, _, _, _, _, _, h⟩ := h
          exact SqT.of (h.sm _ _ hb)
        · obtain ⟨y8, rfl, hD10, hac10, hR10, hv10, hC10⟩ := hU
          obtain ⟨rfl, hx3⟩ := y
          obtain ⟨d, hd, rfl⟩ := getElem?_int hx3
          obtain ⟨d0, d1⟩ := htg d (List.mem_of_getElem? hd)
          obtain ⟨n, rfl⟩ := Int.eq_ofNat_of_zero_le d0
          have hn : n < ds.length := by rw [hC10.len]; omega
          have hdn : ds[n]? = some ds[n] := List.getElem?_eq_getElem hn
          generalize ds[n] = dd at hdn
          obtain ⟨zs, hz, _⟩ := hC10.at_ n dd hdn
          refine ⟨.ref S, rfl, .int (n : Nat), rfl, S, _, ((n : Nat) : Int), .ref dd, rfl, rfl, SqL.of hC10.lst, atI_nat (by rw [List.getElem?_map, hdn]; rfl), .inl ⟨rfl, _, SqL.of hz⟩, ?_⟩
          refine ⟨.ref tg, rfl, v2, rfl, by show 2 ≤ sizeLine; decide, fun T nT => ?_⟩
          have sT : Same H11 (upd H11 T (.tup [.ref tg, v2])) := same_new nT
          have hT : (upd H11 T (.tup [.ref tg, v2])) T = some (.tup [.ref tg, v2]) := upd_same
          have hC11 := hC10.keep sT
          have hD11 := sT _ _ hD10
          have hac11 := paired_mono (fun _ _ h => TabV.mono h (same_toT sT)) hac10
          have hR11 := hR10.mono (same_toT sT)
          have hv11 := hv10.mono (same_toT sT)
          generalize (upd H11 T (.tup [.ref tg, v2])) = H12 at hT hC11 hD11 hac11 hR11 hv11 ⊢
          have hP : PlV H12 (.ref T) (mvR (cF c) r, mvT (cF c) t) := ⟨T, _, _, rfl, hT, hR11, hv11⟩
          obtain ⟨ws, w1, w2, w3, w4⟩ := hC11.put hdn hP
          have hlen : ws.length < sizeLine := by
            rw [w2]
            have h1 := plcs_len (c := cF c) (x := ((n : Nat) : Int)) (rs := rs.take i) fun q hq => (hS.rd q (List.mem_of_mem_take hq)).1
            have h2 : (plA (cF c) (mvR (cF c) r) (r.take m) ((n : Nat) : Int)).length ≤ 1000 := by
              unfold plA
              rw [List.length_map]
              refine Nat.le_trans (List.length_filter_le _ _) ?_
              rw [List.length_take]
              omega
            have h3 : (if ((n : Nat) : Int) ∈ t.take u then [(mvR (cF c) r, mvT (cF c) t)] else []).length ≤ 1 := by
              split <;> simp
            have h4 : (rs.take i).length ≤ 1000 := by
              rw [List.length_take]
              have := hS.len
              omega
            unfold stA
            rw [List.length_append, List.length_append]
            omega
          have hnD : D ≠ dd := fun e => by
            rw [e] at nD
            have := hC.at_ n dd hdn
            obtain ⟨_, q1, _⟩ := this
            rw [q1] at nD
            cases nD
          refine ⟨dd, ws, _, rfl, rfl, w1, hlen, ?_⟩
          refine ⟨_, rfl, by rw [upd_ne hnD]; exact hD11, paired_mono (fun _ _ h => TabV.mono h w3) hac11, hR11.mono w3, hv11.mono w3, w4.congr fun j => ?_⟩
          rw [takeSucc hd]
          have nin : ((n : Nat) : Int) ∉ t.take u := fun z => by
            obtain ⟨k, hk, e⟩ := List.getElem_of_mem z
            rw [List.length_take] at hk
            rw [List.getElem_take] at e
            obtain ⟨l1, e1⟩ := List.getElem?_eq_some_iff.mp hd
            have := (List.getElem_inj htnd).mp (e.trans e1.symm)
            omega
          by_cases ej : j = n
          · subst ej
            rw [if_pos rfl, if_neg nin, if_pos (by simp)]
            simp
          · rw [if_neg ej]
            have : (((j : Nat) : Int) ∈ t.take u ++ [((n : Nat) : Int)]) ↔ ((j : Nat) : Int) ∈ t.take u := by
              rw [List.mem_append, List.mem_singleton]
              exact ⟨fun z => z.elim id fun e => absurd (by omega) ej, .inl⟩
            simp only [this]
        · obtain ⟨y8, rfl, hD10, hac10, hR10, hv10, hC10⟩ := hU
          refine ⟨_, _, _, rfl, hD10, hac10, hR10, hC10.congr fun j => ?_⟩
          rw [List.length_map, List.take_of_length_le (Nat.le_refl _), takeSucc ht]
          unfold stA
          rw [plA_snoc, List.append_assoc]
      · obtain ⟨y6, y7, y8, rfl, hD8, hac8, hR8, hC8⟩ := hM
        refine ⟨_, _, _, _, _, _, rfl, hC8.congr fun j => ?_⟩
        rw [List.take_of_length_le (Nat.le_refl _), takeSucc hr0, plcs_append]
        show plcs (cF c) (rs.take i) j ++ pl1 (cF c) r j = plcs (cF c) (rs.take i) j ++ (pl1 (cF c) r j ++ [])
        rw [List.append_nil]
    · obtain ⟨y3, y4, y5, y6, y7, y8, rfl, hC⟩ := hI
      rw [hxl, List.take_of_length_le (Nat.le_refl _)] at hC
      refine ⟨.ref lk, rfl, .ref S, rfl, lk, S, _, _, rfl, hC.sm.seq hk, SqL.of hC.lst, fun D nD => ?_⟩
      have sD : Same H3 (upd H3 D (.lst [])) := same_new nD
      have nD0 : H D = none := hC.sm.free nD
      have hdl := hC.len
      refine lc_it (walk_zip (xs := c.map V.int) (ys := ds.map V.ref) (n := c.length) (by rw [List.length_map, List.length_map]; omega)) (fun i H5 => Same H3 H5 ∧ ∃ acc, H5 D = some (.lst acc) ∧ Paired (ShV H5) acc (((rangeI c.length).take i).map (seatM c rs))) ⟨sD, [], upd_same, .nil⟩ (fun i H5 _ h => ⟨(hC.sm.trans h.1).seq hk, SqL.of (h.1 _ _ hC.lst)⟩) (fun i x H5 H6 hi hJ y => ?_) (fun H5 hJ => ?_)
      · obtain ⟨sm5, acc, hD, hac⟩ := hJ
        obtain ⟨U, v1, v2, rfl, nU, rfl, g1, g2⟩ := y
        obtain ⟨k, hk1, rfl⟩ := getElem?_int g1
        have hdi : ds[i]? = some ds[i] := List.getElem?_eq_getElem (by omega)
        generalize ds[i] = d at hdi
        have ev : v2 = .ref d := by
          have g2 : (ds.map V.ref)[i]? = some v2 := g2
          rw [List.getElem?_map, hdi] at g2
          exact (Option.some.inj g2).symm
        subst ev
        have sU : Same H5 (upd H5 U (.tup [.int k, .ref d])) := same_new nU
        refine ⟨U, _, rfl, SqT.of upd_same, rfl, _, _, rfl, _, _, rfl, ⟨rfl, wipe_put2 (by decide) (by decide), yesT ?_⟩⟩
        have sm6 := sm5.trans sU
        have hD6 := sU _ _ hD
        have hac6 := paired_mono (fun _ _ h => ShV.mono h (same_toT sU)) hac
        generalize (upd H5 U (.tup [.int k, .ref d])) = H6 at sm6 hD6 hac6 ⊢
        obtain ⟨zs, z1, z2⟩ := (hC.keep sm6).at_ i d hdi
        refine ⟨.int k, rfl, .ref d, rfl, ?_⟩
        dsimp only [tNil]
        refine sort_pls (.inl (SqL.of z1)) z2 fun ys p2 np2 hys => ?_
        have s7 : Same H6 (upd H6 p2 (.lst ys)) := same_new np2
        refine ⟨p2, _, rfl, .inl ⟨SqL.of upd_same, fun t2 nt2 => ?_⟩⟩
        have s8 := s7.trans (same_new (o := .tup ys) nt2)
        have ht2 : (upd (upd H6 p2 (.lst ys)) t2 (.tup ys)) t2 = some (.tup ys) := upd_same
        refine ⟨by show 2 ≤ sizeLine; decide, fun T nT => ?_⟩
        have s9 := s8.trans (same_new (o := .tup [.int k, .ref t2]) nT)
        have hD9 := s9 _ _ hD6
        refine ⟨acc, hD9, ?_, same_put (sm6.trans s9) nD, acc ++ [.ref T], upd_same, ?_⟩
        · have := paired_len hac6
          rw [List.length_map, List.length_take] at this
          omega
        · have T9 : SameT (upd (upd (upd H6 p2 (.lst ys)) t2 (.tup ys)) T (.tup [.int k, .ref t2])) (upd (upd (upd (upd H6 p2 (.lst ys)) t2 (.tup ys)) T (.tup [.int k, .ref t2])) D (.lst (acc ++ [.ref T]))) := fun a us e => by
            rw [upd_ne (ne_of e hD9 (by intro z; cases z))]
            exact e
          have hi' : i < c.length := by omega
          have er : (rangeI c.length)[i]? = some ((i : Nat) : Int) := by
            unfold rangeI
            rw [List.getElem?_map, List.getElem?_range hi']
            rfl
          have ek : cF c ((i : Nat) : Int) = k := by
            rw [cF_get hi']
            exact (List.getElem?_eq_some_iff.mp hk1).2
          rw [takeSucc er, List.map_append]
          refine paired_snoc (paired_mono (fun v u h => (ShV.mono h (same_toT s9)).mono T9) hac6) (ShV.mono ⟨T, t2, ys, rfl, ?_, (same_new nT) _ _ ht2, paired_mono (fun _ _ h => PlV.mono h (same_toT s9)) hys⟩ T9)
          show _ = some (HO.tup [V.int (cF c ((i : Nat) : Int)), V.ref t2])
          rw [ek]
          exact upd_same
      · obtain ⟨sm5, acc, hD, hac⟩ := hJ
        rw [List.take_of_length_le (by rw [rangeI_len]; exact Nat.le_refl _)] at hac
        exact q D H5 acc (hC.sm.trans sm5) nD0 hD hac
end Nf

set_option Elab.async false
set_option linter.all false
set_option maxRecDepth 100000
set_option maxHeartbeats 4000000
namespace Nf
open PySem PySem.Spec PyProof.Rows L2
/-! ### y = {k: v for ..} -/
variable {X : Cx}
theorem ps_setDc {i : Nat} {y : Str} {py pos spos : Pos} {kx vx tg iter : Expr} {ifs : List Expr} {scope : Scope} {own : List (Str × Nat)} {wi : TI} {g : TG} {tt : TT} {tk tv : TE} (calm : X.calm = true) (nd : X.N.Nodup) (at_ : X.N[i]? = some y) (loc : X.env.scope.names.lookup y = some .local)
    (sw : swapsWith (.DictComp kx vx [⟨tg, iter, ifs, 0⟩] scope pos) (some (.Name y py)) spos.line X.env = pure true) (pi : PI X tg iter wi) (ok : BlkOk X.N X.env.scope scope own)
    (pg : ∀ (s : Shared) (H : Hp) (C : Addr) (cl : List (Str × Addr)) (fp : List Addr), PG (X.blk s H scope (compEnvC scope cl C X.env) fp) tg g) (pt : ∀ (s : Shared) (H : Hp) (C : Addr) (cl : List (Str × Addr)) (fp : List Addr), PTs (X.blk s H scope (compEnvC scope cl C X.env) fp) ifs tt)
    (pk : ∀ (s : Shared) (H : Hp) (C : Addr) (cl : List (Str × Addr)) (fp : List Addr), PE (X.blk s H scope (compEnvC scope cl C X.env) fp) kx tk) (pv : ∀ (s : Shared) (H : Hp) (C : Addr) (cl : List (Str × Addr)) (fp : List Addr), PE (X.blk s H scope (compEnvC scope cl C X.env) fp) vx tv)
    (unf : ∀ x, foldedSetIterable iter X.env x = pure x := by intro _; rfl) : PS X (.Assign [.Name y py] (.DictComp kx vx [⟨tg, iter, ifs, 0⟩] scope pos) spos) (tAsg (tDc wi g tt tk tv (own.map (·.2))) (gName i)) := by
  refine ⟨fun pins s σ H D I q0 => ?_⟩
  rw [exec_Assign_Name_used _ _ _ _ sw]
  refine wpAny_bind (wpAny_standAt (wpAny_bind (?_ : wpAny _ X.A (do let _ ← comprehension (.DictComp kx vx [⟨tg, iter, ifs, 0⟩] scope pos) scope X.env (firstIterPos [⟨tg, iter, ifs, 0⟩] pos) newDict false (eval iter X.env) (some (assign (.Name y py) X.env))) _ _ s)))
  have q1 : tDc wi g tt tk tv (own.map (·.2)) σ H (fun x H1 => gName i x σ H1 D.nx) := q0
  refine wpAny_bind (thn (dc_core (Qf := fun _ s1 => SP X pins D .next s1) calm nd I pi ok pg pt pk pv unf q1 fun L C s1 m H1 I1 q2 hn fo => ?_) fun _ s1 q2 => wpAny_pure (wpAny_pure q2))
  show wpAny _ _ (assign (.Name y py) X.env (.ref L)) _ _ _
  obtain ⟨f0, f1, f2, f3, f4, f5⟩ := fo
  refine wpAny_assign_Name (store_ok2 (v := V.ref L) I1 nd at_ (.inl loc) rfl (fun s2 I2 st => ?_) (.inr loc))
  obtain ⟨b, sb, hb⟩ := st
  have apart : C ≠ b := hb.elim (fun z => z ▸ f1) fun z e => f4 y b z e.symm
  refine ⟨m, hn.sameBut sb apart, fun h3 sb3 => ⟨_, H1, I2.turned (t' := s2.toks) (fun c o hc e => (sb3.2 c hc).trans e) f0 f1 f3 f4 f5, q2⟩⟩
theorem swD_true {kx vx : Expr} {gs : List Comprehension} {scope : Scope} {pos py : Pos} {y : Str} {l : Nat} {env : Env} (fn : env.scope.kind = .function) (loc : env.scope.names.lookup y = some .local) (line : (py.line == pos.line) = true)
    (free : (scope.names.any fun (n, k) => n == y && (k == .local || k == .cell)) = false) : swapsWith (.DictComp kx vx gs scope pos) (some (.Name y py)) l env = pure true := by
  have k1 : env.kindOf y = some .local := loc
  have k2 : env.blockKind = .function := by
    unfold Env.blockKind
    rw [fn]
    rfl
  unfold swapsWith
  simp only [k2, k1, free, Expr.pos, line]
  rfl
/-- such a display over what is walked -/
theorem dc_it {J : It} {n : Nat} {G : Hp → Prop} {Yd : Nat → Hp → V → Hp → Prop} (wk : Walk J n G Yd) {g : TG} {tt : TT} {tk tv : TE} {vs : List Nat} {σ : L2.St} {H0 : Hp} {D : Addr} {Fin : Hp → Prop} (Pv : Nat → Hp → Prop) (start : Pv 0 (upd H0 D (.dK []))) (good : ∀ i H, i ≤ n → Pv i H → G H)
    (turn : ∀ i x H H2, i < n → Pv i H → Yd i H x H2 → g x (wipe σ vs) H2 fun σ2 H3 => wipe σ2 vs = wipe σ vs ∧ tt σ2 H3 fun b H4 =>
      if b = true then tk σ2 H4 fun y H5 => tv σ2 H5 fun z H6 => ∃ kvs k, y = kV k ∧ H6 D = some (.dK kvs) ∧ kvs.length < sizeLine ∧ Pv (i + 1) (upd H6 D (.dK (putK kvs k z))) else Pv (i + 1) H4) (fin : ∀ H, Pv n H → Fin H) :
    ∃ W : Nat → Nat → Hp → Prop, (∃ m, W 0 m (upd H0 D (.dK []))) ∧ ∀ i m H, W i m H →
      (J.stop i H ∧ Fin H) ∨ (J.go i H ∧ ∃ Nx : Hp → Prop, (∀ H2, Nx H2 → ∃ m2, m2 < m ∧ W (i + 1) m2 H2) ∧ ∀ x H2, J.yld i H x H2 → g x (wipe σ vs) H2 fun σ2 H3 => wipe σ2 vs = wipe σ vs ∧ tt σ2 H3 fun b H4 =>
        if b = true then tk σ2 H4 fun y H5 => tv σ2 H5 fun z H6 => ∃ kvs k, y = kV k ∧ H6 D = some (.dK kvs) ∧ kvs.length < sizeLine ∧ Nx (upd H6 D (.dK (putK kvs k z))) else Nx H4) := by
  refine ⟨fun i m H => (i + m = n) ∧ Pv i H, ⟨⟨n, by omega, start⟩, fun i m H hw => ?_⟩⟩
  obtain ⟨e, pv⟩ := hw
  have gd := good i H (by omega) pv
  cases m with
  | zero =>
    have e : i = n := e
    subst e
    exact .inl ⟨wk.stops H gd, fin H pv⟩
  | succ m => exact .inr ⟨wk.goes i H (by omega) gd, Pv (i + 1), fun H2 p2 => ⟨m, Nat.lt_succ_self m, by omega, p2⟩, fun x H2 y => turn i x H H2 (by omega) pv (wk.yields i H x H2 (by omega) gd y)⟩
end Nf

set_option Elab.async false
set_option linter.all false
set_option maxRecDepth 100000
set_option maxHeartbeats 4000000
namespace Nf
open PySem PySem.Spec PyProof.Rows L2
/-! ### {key: number for ..} where keys are tuples in tuples, d[key] -/
abbrev NkL := List (NestedKey × Addr × Int)
def NkR (p : NestedKey × Addr × Int) (q : NestedKey × Addr × Value) : Prop := p.1 = q.1 ∧ p.2.1 = q.2.1 ∧ ∃ t, q.2.2 = .int p.2.2 t
def DicNφ (P : Program) (w : World) (a : Addr) (L : NkL) : Heap → Prop := fun h => ∃ xs : List (NestedKey × Addr × Value), Paired NkR L xs ∧ ∃ o es ep, h.get? a = some o ∧ o.ExactDict ∧ o.data = .dict es ep ∧ es.toList = xs.map (entryOfKey (nestedKind P w)) ∧ (xs.map (·.1)).Nodup
def DicNO (P : Program) (w : World) (a : Addr) (L : NkL) : HO := .ext (DicNφ P w a L)
theorem dicNO_ok {P : Program} {w : World} {H : Hp} {h : Heap} {a : Addr} {L : NkL} (R : DicNφ P w a L h) : ObjOk P w H h a (DicNO P w a L) := by
  refine ⟨R, ?_, fun h1 h2 p k => ?_⟩
  · obtain ⟨xs, _, o, _, _, ho, _⟩ := R
    exact ⟨o, ho⟩
  · obtain ⟨xs, r, o, es, ep, ho, q⟩ := p
    exact ⟨xs, r, o, es, ep, k o ho, q⟩
theorem nkR_keys : ∀ {L : NkL} {xs : List (NestedKey × Addr × Value)}, Paired NkR L xs → xs.map (·.1) = L.map (·.1)
  | _, _, .nil => rfl
  | _, _, .cons r t => by rw [List.map_cons, List.map_cons, nkR_keys t, r.1]
theorem nkR_mem : ∀ {L : NkL} {xs : List (NestedKey × Addr × Value)}, Paired NkR L xs → ∀ x ∈ xs, ∃ p ∈ L, p.1 = x.1 ∧ p.2.1 = x.2.1
  | _, _, .nil, x, hx => by cases hx
  | _, _, .cons r t, x, hx => by
    rcases List.mem_cons.mp hx with rfl | hx
    · exact ⟨_, List.mem_cons_self, r.1, r.2.1⟩
    · obtain ⟨p, hp, e⟩ := nkR_mem t x hx
      exact ⟨p, List.mem_cons_of_mem _ hp, e⟩
section
variable {X : Cx} {pins : List (Addr × Obj)} {σ : L2.St} {H : Hp} {s : Shared}
theorem dicN_at (I : Inv X pins σ H s) {d : Addr} {L : NkL} (hd : H d = some (DicNO X.prog X.w d L)) (hk : ∀ p ∈ L, NkV X.K H (p.2.1, p.1)) : ∃ xs, Paired NkR L xs ∧ s.heap.DictOfH (nestedKind X.prog X.w) d xs := by
  obtain ⟨xs, r, o, es, ep, ho, hx, hdt, he, hn⟩ : DicNφ X.prog X.w d L s.heap := (I.hok d _ hd).1
  refine ⟨xs, r, o, es, ep, ho, hx, hdt, he, fun x hxm => ?_, hn⟩
  obtain ⟨p, hp, e1, e2⟩ := nkR_mem r x hxm
  have := ((hk p hp).isN I).knd (P := X.prog) (w := X.w)
  rw [← e1, ← e2]
  exact this
/-- d[key] = number, by a comprehension, of a new key -/
theorem d_dictSetN {E : Value → Shared → Prop} {D T : Addr} {L : NkL} {k : NestedKey} {n : Int} {u r : Value} {Q : Unit → Shared → Prop} (I : Inv X pins σ H s) (hu : X.A.units + 64 < cLine) (hD : H D = some (DicNO X.prog X.w D L)) (hk : ∀ p ∈ L, NkV X.K H (p.2.1, p.1)) (hz : L.length < sizeLine) (hT : NkV X.K H (T, k)) (hnew : k ∉ L.map (·.1))
    (ry : RelV (.ref T) u) (rv : RelV (.int n) r) (h : ∀ s', Inv X pins σ (upd H D (DicNO X.prog X.w D (L ++ [(k, T, n)]))) s' → Q () s') : wpAny (model X.prog X.w) X.A (dictSet D u r) Q E s := by
  obtain ⟨xs, rx, hm⟩ := dicN_at I hD hk
  obtain rfl : u = Value.ref T := ry
  obtain ⟨t, rfl⟩ := rv
  have hlen : xs.length = L.length := (paired_len rx).symm
  have nk : atKey xs k = none := by
    refine atKey_none_of_get fun j p e => hnew ?_
    rw [← nkR_keys rx]
    exact List.mem_map.mpr ⟨(k, p), List.mem_of_getElem? e, rfl⟩
  refine wpAny_dictSet_heap (knd := nestedKind X.prog X.w) (hsz := by omega) (by show X.A.units + 8 < cLine; omega) (hT.isN I).knd hm fun h' dd hs => h _ ?_
  rw [storedH_new nk] at dd
  obtain ⟨o, es, ep, ho, hx, hdt, he, _, hn⟩ := dd
  refine I.write (e := D) (t' := s.toks + (nestedKind X.prog X.w).draws k) (by rw [hD]; exact True.intro) (.inl rfl) (fun b v hb e => (hs.2 b hb).trans e) ⟨o, ho⟩ (dicNO_ok ⟨_, ?_, o, es, ep, ho, hx, hdt, he, hn⟩)
  exact paired_snoc rx ⟨rfl, rfl, t, rfl⟩
/-- d[key] -/
def rIxN (K : PySem.W.Frag) (P : Program) (w : World) : R2 := fun x y H Q => ∃ (d T : Addr) (k : NestedKey) (L : NkL) (U : Addr) (n : Int), x = .ref d ∧ y = .ref T ∧ H d = some (DicNO P w d L) ∧ (∀ p ∈ L, NkV K H (p.2.1, p.1)) ∧ NkV K H (T, k) ∧ (k, U, n) ∈ L ∧ Q (.int n) H
theorem ix_dicN (hu : X.A.units + 64 < cLine) : IxR X (rIxN X.K X.prog X.w) := by
  intro value slice pins s σ H x y v u Q I rx ry h hs
  obtain ⟨d, T, k, L, U, n, rfl, rfl, hd, hk, hT, hm, q⟩ := h
  obtain rfl : v = Value.ref d := rx
  obtain rfl : u = Value.ref T := ry
  obtain ⟨xs, rx, hx⟩ := dicN_at I hd hk
  obtain ⟨i, hi, e⟩ := List.getElem_of_mem hm
  obtain ⟨z, hz, r1, r2, t, r3⟩ := paired_getL rx (by rw [List.getElem?_eq_getElem hi, e])
  have hp : atKey xs k = some z.2 := atKey_of_get hx.choose_spec.choose_spec.choose_spec.2.2.2.2.2 (i := i) (by
    rw [hz]
    congr 1
    rw [show k = z.1 from r1])
  refine tail_any hx.typeIs slot_dict_getitem.lookup (wpAny_getItem_heap (knd := nestedKind X.prog X.w) (p := z.2) (by show X.A.in1.units + 8 < cLine; show X.A.units + 1 + 8 < cLine; omega) (hT.isN I).knd hx hp ?_) hs
  exact ⟨.int n, H, I.tok _, ⟨t, r3⟩, q⟩
end
end Nf

set_option Elab.async false
set_option linter.all false
set_option maxRecDepth 100000
set_option maxHeartbeats 4000000
namespace Nf
open PySem PySem.Spec PyProof.Rows L2
/-! ### {key: number for ..} with such keys, as a value -/
/-- one turn of such a display: the table's next row is told by what comes of the key and of the number -/
def StepN (K : PySem.W.Frag) (P : Program) (w : World) (D : Addr) (y z : V) (H : Hp) (N : Hp → Prop) : Prop :=
  ∃ (T : Addr) (k : NestedKey) (n : Int) (L : NkL), y = .ref T ∧ z = .int n ∧ H D = some (DicNO P w D L) ∧ (∀ p ∈ L, NkV K H (p.2.1, p.1)) ∧ L.length < sizeLine ∧ NkV K H (T, k) ∧ k ∉ L.map (·.1) ∧ N (upd H D (DicNO P w D (L ++ [(k, T, n)])))
/-- what a turn asks: the target, the tests, the key, the number -/
def TurnN (K : PySem.W.Frag) (P : Program) (w : World) (g : TG) (tt : TT) (tk tv : TE) (vs : List Nat) (D : Addr) (σ : L2.St) (x : V) (H : Hp) (N : Hp → Prop) : Prop :=
  g x (wipe σ vs) H fun σ2 H2 => wipe σ2 vs = wipe σ vs ∧ tt σ2 H2 fun b H3 => if b = true then tk σ2 H3 fun y H4 => tv σ2 H4 fun z H5 => StepN K P w D y z H5 N else N H3
def tDcN (K : PySem.W.Frag) (P : Program) (w : World) (wi : TI) (g : TG) (tt : TT) (tk tv : TE) (vs : List Nat) : TE := fun σ H Q => wi σ H fun J H1 => ∀ D, H1 D = none → ∃ W : Nat → Nat → Hp → Prop, (∃ m, W 0 m (upd H1 D (DicNO P w D []))) ∧
  ∀ i m H', W i m H' → (J.stop i H' ∧ Q (.ref D) H') ∨ (J.go i H' ∧ ∃ N : Hp → Prop, (∀ H2, N H2 → ∃ m2, m2 < m ∧ W (i + 1) m2 H2) ∧ ∀ x H2, J.yld i H' x H2 → TurnN K P w g tt tk tv vs D σ x H2 N)
theorem dicN_new {P : Program} {w : World} {h : Heap} : DicNφ P w h.objs.size [] (h.push { cls := .type "dict", data := .dict #[] }) := by
  refine ⟨[], .nil, _, #[], 0, Heap.get?_push_size _ rfl, ⟨rfl, rfl, rfl⟩, rfl, rfl, List.nodup_nil⟩
section
variable {X : Cx}
theorem pe_dcN {kx vx tg iter : Expr} {ifs : List Expr} {scope : Scope} {own : List (Str × Nat)} {pos : Pos} {wi : TI} {g : TG} {tt : TT} {tk tv : TE} (calm : X.calm = true) (room : X.A.units + 64 < cLine) (nd : X.N.Nodup) (pi : PI X tg iter wi) (ok : BlkOk X.N X.env.scope scope own)
    (pg : ∀ (s : Shared) (H : Hp) (C : Addr) (cl : List (Str × Addr)) (fp : List Addr), PG (X.blk s H scope (compEnvC scope cl C X.env) fp) tg g) (pt : ∀ (s : Shared) (H : Hp) (C : Addr) (cl : List (Str × Addr)) (fp : List Addr), PTs (X.blk s H scope (compEnvC scope cl C X.env) fp) ifs tt)
    (pk : ∀ (s : Shared) (H : Hp) (C : Addr) (cl : List (Str × Addr)) (fp : List Addr), PE (X.blk s H scope (compEnvC scope cl C X.env) fp) kx tk) (pv : ∀ (s : Shared) (H : Hp) (C : Addr) (cl : List (Str × Addr)) (fp : List Addr), PE (X.blk s H scope (compEnvC scope cl C X.env) fp) vx tv)
    (unf : ∀ x, foldedSetIterable iter X.env x = pure x := by intro _; rfl) : PE X (.DictComp kx vx [⟨tg, iter, ifs, 0⟩] scope pos) (tDcN X.K X.prog X.w wi g tt tk tv (own.map (·.2))) := by
  refine ⟨fun pins s0 σ H Q I q0 => ?_⟩
  rw [arm_eval_DictComp]
  have cells : ∀ y ∈ scope.names, y.2 = .free → ∃ c, X.env.cells.lookup y.1 = some c := fun y hy e => (ok.free y hy e).elim (fun k => I.ok.has _ (.inl k)) fun k => I.ok.has _ (.inr k)
  refine wpAny_comprehension_free (use := none) rfl unf (closure_ok cells) ok.kind (fun y hy e => by rw [ok.uniq y hy, e]) (thn (pi.run pins s0 σ H _ I q0) fun xv s1 hx => thn hx fun itv s h2 => ?_)
  obtain ⟨it, fp, tn, J, H2, rfl, I2, T, st2, f2, q⟩ := h2
  refine wpAny_newObj_type (newEnv_comp ?_)
  obtain ⟨W, ⟨m0, w0⟩, turn⟩ := q s.heap.objs.size (I2.hok.fresh (Nat.le_refl _))
  -- the dict, laid
  have small : ∀ b ∈ fp, b < s.heap.objs.size := fun b hb => (T.obj _ _ st2 b hb).elim fun o z => Heap.lt_size z.1
  have J0 : Inv X pins σ (upd H2 s.heap.objs.size (DicNO X.prog X.w s.heap.objs.size [])) { s with heap := s.heap.push { cls := .type "dict", data := .dict #[] } } :=
    I2.laid (t' := s.toks) (fun b o e => Heap.get?_push_of_some _ e) (Nat.le_refl _) (dicNO_ok dicN_new)
  have stJ : tn 0 (s.heap.push { cls := .type "dict", data := .dict #[] }) := T.keep _ _ _ st2 fun b _ o e => Heap.get?_push_of_some _ e
  have off : ∀ b ∈ fp, FpOk X pins (upd H2 s.heap.objs.size (DicNO X.prog X.w s.heap.objs.size [])) b ∧ b < (s.heap.push { cls := .type "dict", data := .dict #[] }).objs.size := fun b hb => by
    have lt := small b hb
    refine ⟨⟨?_, (f2 b hb).2⟩, by rw [Heap.size_push]; exact Nat.lt_succ_of_lt lt⟩
    rw [upd_ne (Nat.ne_of_lt lt)]
    exact (f2 b hb).1
  generalize eD : s.heap.objs.size = D at J0 w0 turn off ⊢
  generalize eH : upd H2 D (DicNO X.prog X.w D []) = HD at J0 w0 off
  generalize eh : s.heap.push { cls := .type "dict", data := .dict #[] } = hp at J0 stJ off ⊢
  generalize es3 : ({ s with heap := hp } : Shared) = s3 at J0
  have hs3 : s3.heap = hp := by rw [← es3]
  have off3 : ∀ b ∈ fp, FpOk X pins HD b ∧ b < s3.heap.objs.size := by
    rw [hs3]
    exact off
  have B0 := block_start J0 ok nd off3
  rw [hs3] at B0
  have rest : codeAny (model X.prog X.w) X.A (.compStart (.DictComp kx vx [⟨tg, iter, ifs, 0⟩] scope pos) 0 (.ref it) (.ref D) (compEnvC scope (cellsFrom (hp.objs.size + 1) scope.names (cloFrom X.env.cells scope.names [])) hp.objs.size X.env)) (compPost (model X.prog X.w) X.A X.xe none (EP X pins σ Q) (.ref D) hp.objs.size) { s3 with heap := pushCells (hp.push { cls := .type "dict", data := .dict #[] }) scope.names } := by
    have g1 := pg s3 HD hp.objs.size (cellsFrom (hp.objs.size + 1) scope.names (cloFrom X.env.cells scope.names [])) fp
    have g2 := pt s3 HD hp.objs.size (cellsFrom (hp.objs.size + 1) scope.names (cloFrom X.env.cells scope.names [])) fp
    have g3 := pk s3 HD hp.objs.size (cellsFrom (hp.objs.size + 1) scope.names (cloFrom X.env.cells scope.names [])) fp
    have g4 := pv s3 HD hp.objs.size (cellsFrom (hp.objs.size + 1) scope.names (cloFrom X.env.cells scope.names [])) fp
    have none0 : ∀ b ∈ fp, HD b = none := fun b hb => (off b hb).1.1
    generalize ece : compEnvC scope (cellsFrom (hp.objs.size + 1) scope.names (cloFrom X.env.cells scope.names [])) hp.objs.size X.env = ce at B0 g1 g2 g3 g4 ⊢
    have cl : ce.locals = hp.objs.size := by
      rw [← ece]
      rfl
    have stB : tn 0 ({ s3 with heap := pushCells (hp.push { cls := .type "dict", data := .dict #[] }) scope.names } : Shared).heap := T.keep _ _ _ stJ fun b _ o e => pushCells_keeps _ _ _ _ (Heap.get?_push_of_some _ e)
    generalize ({ s3 with heap := pushCells (hp.push { cls := .type "dict", data := .dict #[] }) scope.names } : Shared) = s4 at B0 stB ⊢
    have stat : ∀ {σ' : L2.St} {H' : Hp} {s' : Shared}, Inv (X.blk s3 HD scope ce fp) [] σ' H' s' → (∀ b ∈ fp, H' b = none) → ∀ b ∈ fp, FpOk (X.blk s3 HD scope ce fp) [] H' b := fun {σ' H' s'} I' hn b hb =>
      ⟨hn b hb, (I'.ok.exf b hb).1, I'.ok.exfs b hb, .inl hb, fun x c e => (I'.ok.exf b hb).2 x c e, fun p hp => absurd (show p ∈ ([] : List (Addr × Obj)) ++ [] from hp) (by simp)⟩
    have loop : codeAny (model X.prog X.w) X.A (.compLoop (.DictComp kx vx [⟨tg, iter, ifs, 0⟩] scope pos) 0 (.ref it) (.ref D) ce) (compPost (model X.prog X.w) X.A X.xe none (EP X pins σ Q) (.ref D) hp.objs.size) s4 := by
      refine compLoop_anyD (fun n s' => ∃ i H', Inv (X.blk s3 HD scope ce fp) [] (wipe σ (own.map (·.2))) H' s' ∧ tn i s'.heap ∧ (∀ b ∈ fp, H' b = none) ∧ W i n H') ?_ m0 ⟨0, HD, B0, stB, none0, w0⟩
      rintro n s5 ⟨i, H5, I5, st5, n5, w5⟩
      rcases turn i n H5 w5 with ⟨stop, qq⟩ | ⟨go, N, hN, step⟩
      · refine thnF (T.done (X.blk s3 HD scope ce fp) rfl rfl rfl calm i [] s5 _ H5 (fun _ _ => False) I5 (stat I5 n5) st5 stop) fun r s6 ⟨hr, I6⟩ => ?_
        subst hr
        have I7 : Inv X pins σ H5 s6 := J0.call' (ch := fp) I6.os I6.base I6.hok I6.bare fun b hb => ⟨(off b hb).1.2.2.2.1, (off b hb).1.2.1, (off b hb).1.2.2.2.2.1, (off b hb).1.2.2.2.2.2⟩
        have nC : H5 hp.objs.size = none := by
          have z : H5 ce.locals = none := I6.free
          rwa [cl] at z
        obtain ⟨mm, hn, _⟩ := I6.loc
        have hn : s6.heap.Ns ce.locals mm := hn
        rw [cl] at hn
        obtain ⟨a0, a1, a2, a3, a4, a5⟩ := J0.fpOk (Nat.le_of_eq (congrArg (fun z : Heap => z.objs.size) hs3)) nC
        exact ⟨mm, hn, fun h'' sb => ⟨.ref D, H5, I7.turned (t' := s6.toks) (fun b o hb e => (sb.2 b hb).trans e) a0 a1 a3 a4 a5, rfl, qq⟩⟩
      · refine thnF (T.item (X.blk s3 HD scope ce fp) rfl rfl rfl calm i [] s5 _ H5 (fun _ _ => False) I5 (stat I5 n5) st5 go) fun r s6 ⟨u, hr, h6⟩ => ?_
        subst hr
        refine thnF h6 fun _ s7 ⟨x, H7, I7, r7, y7, st7, n7⟩ => ?_
        refine thnF (g1.run _ s7 _ H7 x u _ (I7.pinned (stat I7 n7) (T.obj _ _ st7)) r7 (step x H7 y7)) fun _ s8 ⟨σ8, H8, I8, hw8, q8⟩ => ?_
        refine thnF (g2.run _ s8 σ8 H8 _ I8 q8) fun b s9 ⟨H9, I9, q9⟩ => ?_
        have fin : ∀ {s' : Shared} {H' : Hp}, Inv (X.blk s3 HD scope ce fp) ([] ++ pinsAt fp s7.heap) σ8 H' s' → N H' → ∃ m, m < n ∧ ∃ i H', Inv (X.blk s3 HD scope ce fp) [] (wipe σ (own.map (·.2))) H' s' ∧ tn i s'.heap ∧ (∀ b ∈ fp, H' b = none) ∧ W i m H' := fun {s' H'} I' nx => by
          obtain ⟨m', hm, w'⟩ := hN H' nx
          have held : ∀ b ∈ fp, ∀ o, s7.heap.get? b = some o → s'.heap.get? b = some o ∧ H' b = none := fun b hb o e => (I'.pin (b, o) (List.mem_append_right _ (List.mem_append_right _ (mem_pinsAt hb e)))).imp id fun z => z.1
          refine ⟨m', hm, i + 1, H', (I'.unpinned (pins := [])).weak (by rw [← hw8, wipe_length]) (fun j v e => ?_), T.keep _ _ _ st7 fun b hb o e => (held b hb o e).1, fun b hb => ?_, w'⟩
          · rw [← hw8] at e
            exact (wipe_some e).1
          · obtain ⟨o, e, _⟩ := T.obj _ _ st7 b hb
            exact (held b hb o e).2
        cases b with
        | false =>
          rw [if_neg (by decide)] at q9 ⊢
          exact fin I9 q9
        | true =>
          rw [if_pos rfl] at q9 ⊢
          refine thnF (g3.run _ s9 σ8 H9 _ I9 q9) fun z s10 ⟨yk, H10, I10, r10, q10⟩ => ?_
          refine thnF (g4.run _ s10 σ8 H10 _ I10 q10) fun z2 s11 ⟨yv, H11, I11, r11, U, k, num, L, ek, ev, hD, hL, hz, hU, hnew, nx⟩ => ?_
          subst ek ev
          exact d_dictSetN (X := X.blk s3 HD scope ce fp) I11 room hD hL hz hU hnew r10 r11 fun s12 I12 => fin I12 nx
    exact codeAny_compStart_dict loop (T.self X.A 0 _ _ _ stB loop)
  subst es3
  exact rest
/-- such a display over what is walked -/
theorem dcN_it {K : PySem.W.Frag} {P : Program} {w : World} {J : It} {n : Nat} {G : Hp → Prop} {Yd : Nat → Hp → V → Hp → Prop} (wk : Walk J n G Yd) {g : TG} {tt : TT} {tk tv : TE} {vs : List Nat} {σ : L2.St} {H0 : Hp} {D : Addr} {Fin : Hp → Prop} (Pv : Nat → Hp → Prop) (start : Pv 0 (upd H0 D (DicNO P w D []))) (good : ∀ i H, i ≤ n → Pv i H → G H)
    (turn : ∀ i x H H2, i < n → Pv i H → Yd i H x H2 → TurnN K P w g tt tk tv vs D σ x H2 (Pv (i + 1))) (fin : ∀ H, Pv n H → Fin H) :
    ∃ W : Nat → Nat → Hp → Prop, (∃ m, W 0 m (upd H0 D (DicNO P w D []))) ∧
      ∀ i m H', W i m H' → (J.stop i H' ∧ Fin H') ∨ (J.go i H' ∧ ∃ N : Hp → Prop, (∀ H2, N H2 → ∃ m2, m2 < m ∧ W (i + 1) m2 H2) ∧ ∀ x H2, J.yld i H' x H2 → TurnN K P w g tt tk tv vs D σ x H2 N) := by
  refine ⟨fun i m H => (i + m = n) ∧ Pv i H, ⟨⟨n, by omega, start⟩, fun i m H hw => ?_⟩⟩
  obtain ⟨e, pv⟩ := hw
  have gd := good i H (by omega) pv
  cases m with
  | zero =>
    have e : i = n := e
    subst e
    exact .inl ⟨wk.stops H gd, fin H pv⟩
  | succ m => exact .inr ⟨wk.goes i H (by omega) gd, Pv (i + 1), fun H2 p2 => ⟨m, Nat.lt_succ_self m, by omega, p2⟩, fun x H2 y => turn i x H H2 (by omega) pv (wk.yields i H x H2 (by omega) gd y)⟩
end
end Nf

set_option Elab.async false
set_option linter.all false
set_option maxRecDepth 100000
set_option maxHeartbeats 4000000
namespace Nf
open PySem PySem.Spec PyProof.Rows L2
variable {P : Program} {w : World} {K : PySem.W.Frag} {mg : Str → Option Value} {base : Heap}
/-! ### alike: told_apart -/
theorem firstMet_nd (f : Nat → Int) : ∀ i, (PyProof.Rows.firstMet f i).Nodup ∧ ∀ x, x ∈ PyProof.Rows.firstMet f i → ∃ j, j < i ∧ f j = x
  | 0 => ⟨List.nodup_nil, fun x h => by cases h⟩
  | i + 1 => by
    obtain ⟨n, h⟩ := firstMet_nd f i
    rw [PyProof.Rows.firstMet_succ]
    unfold PyProof.Rows.step_dedup
    by_cases e : ((PyProof.Rows.firstMet f i).any fun x => x == f i) = true
    · rw [if_pos e]
      exact ⟨n, fun x hx => let ⟨j, h1, h2⟩ := h x hx; ⟨j, by omega, h2⟩⟩
    · rw [if_neg e]
      refine ⟨List.nodup_append.mpr ⟨n, by simp, fun x hx y hy q => e ?_⟩, fun x hx => ?_⟩
      · rw [List.mem_singleton.mp hy] at q
        exact List.any_eq_true.mpr ⟨x, hx, by simp [q]⟩
      · rcases List.mem_append.mp hx with hx | hx
        · obtain ⟨j, h1, h2⟩ := h x hx
          exact ⟨j, by omega, h2⟩
        · exact ⟨i, by omega, (List.mem_singleton.mp hx).symm⟩
theorem metN_list (ns : List Int) : ∃ D : List Int, D.Nodup ∧ (∀ x, x ∈ D ↔ x ∈ ns) ∧ D.length = metN ns := by
  refine ⟨PyProof.Rows.firstMet (fun i => ns.getD i 0) ns.length, (firstMet_nd _ _).1, fun x => ⟨fun h => ?_, fun h => ?_⟩, rfl⟩
  · obtain ⟨j, h1, h2⟩ := (firstMet_nd _ _).2 x h
    rw [List.getD_eq_getElem?_getD, List.getElem?_eq_getElem h1] at h2
    exact h2 ▸ List.getElem_mem h1
  · obtain ⟨i, hi, e⟩ := List.getElem_of_mem h
    have := firstMet_mem (fun i => ns.getD i 0) ns.length i hi
    rw [List.getD_eq_getElem?_getD, List.getElem?_eq_getElem hi] at this
    rw [← e]
    exact this
/-- seats as keys -/
theorem sh_keys {H : Hp} : ∀ {xs : List V} {qs : List Seat}, Paired (ShV H) xs qs → ∃ ks : List (Addr × NestedKey), xs = ks.map (fun p => V.ref p.1) ∧ ks.map (·.2) = qs.map nSh ∧ ∀ p ∈ ks, ∃ q, q ∈ qs ∧ p.2 = nSh q ∧ ShV H (.ref p.1) q
  | _, _, .nil => ⟨[], rfl, rfl, fun p h => by cases h⟩
  | _, _, .cons (b := q) r t => by
    obtain ⟨ks, h1, h2, h3⟩ := sh_keys t
    obtain ⟨a, b, ys, rfl, z⟩ := id r
    refine ⟨(a, nSh q) :: ks, by rw [List.map_cons, h1], by rw [List.map_cons, List.map_cons, h2], fun p hp => ?_⟩
    rcases List.mem_cons.mp hp with rfl | hp
    · exact ⟨q, List.mem_cons_self, rfl, r⟩
    · obtain ⟨q', m, e⟩ := h3 p hp
      exact ⟨q', List.mem_cons_of_mem _ m, e⟩
theorem sh_alike {L : List (Addr × NestedKey)} (h : ∀ p ∈ L, ∃ q, p.2 = nSh q) : ∀ L1 : List (Addr × NestedKey), (∀ p ∈ L1, p ∈ L) → PySem.W.AllAlike (L1.map fun p => p.2.data) := fun L1 h1 d hd e he => by
  obtain ⟨p, hp, rfl⟩ := List.mem_map.mp hd
  obtain ⟨r, hr, rfl⟩ := List.mem_map.mp he
  obtain ⟨a, ea⟩ := h p (h1 p hp)
  obtain ⟨b, eb⟩ := h r (h1 r hr)
  rw [ea, eb, data_Sh, data_Sh]
  exact alike_Sh a b
theorem sh_sortable {L : List (Addr × NestedKey)} (h : ∀ p ∈ L, ∃ q, p.2 = nSh q) : ∀ L1 : List (Addr × NestedKey), (∀ p ∈ L1, p ∈ L) → PySem.W.Sortable (L1.map fun p => p.2.data) := fun L1 h1 => .inl fun d hd => by
  obtain ⟨p, hp, rfl⟩ := List.mem_map.mp hd
  obtain ⟨a, ea⟩ := h p (h1 p hp)
  rw [ea, data_Sh]
  exact ⟨_, _, rfl⟩
/-- the numbers of keys in a row -/
def numL (l : List (Addr × NestedKey)) : NkL := l.zipIdx.map fun p => (p.1.2, p.1.1, (p.2 : Int))
theorem numL_snoc (l : List (Addr × NestedKey)) (p : Addr × NestedKey) : numL (l ++ [p]) = numL l ++ [(p.2, p.1, (l.length : Int))] := by
  unfold numL
  rw [List.zipIdx_append, List.map_append]
  simp
theorem numL_mem {l : List (Addr × NestedKey)} {x : NestedKey × Addr × Int} (h : x ∈ numL l) : (x.2.1, x.1) ∈ l := by
  unfold numL at h
  obtain ⟨p, hp, rfl⟩ := List.mem_map.mp h
  have := List.mem_zipIdx hp
  obtain ⟨_, _, e⟩ := this
  rw [show ((p.1.1, p.1.2) : Addr × NestedKey) = p.1 from rfl, e]
  exact List.getElem_mem _
theorem numL_keys (l : List (Addr × NestedKey)) : (numL l).map (·.1) = l.map (·.2) := by
  unfold numL
  rw [List.map_map]
  have : ((fun x : NestedKey × Addr × Int => x.1) ∘ fun p : (Addr × NestedKey) × Nat => (p.1.2, p.1.1, (p.2 : Int))) = (fun p : Addr × NestedKey => p.2) ∘ Prod.fst := rfl
  rw [this, ← List.map_map]
  simp
theorem numL_len (l : List (Addr × NestedKey)) : (numL l).length = l.length := by
  unfold numL
  simp
theorem numL_idx {l : List (Addr × NestedKey)} {k : NestedKey} (h : k ∈ l.map (·.2)) : ∃ U, (k, U, (((l.map (·.2)).idxOf k : Nat) : Int)) ∈ numL l := by
  have hlt := List.idxOf_lt_length_iff.mpr h
  have hl : (l.map (·.2)).idxOf k < l.length := by
    rw [List.length_map] at hlt
    exact hlt
  have e : (l[(l.map (·.2)).idxOf k]).2 = k := by
    have := List.getElem_idxOf hlt
    rw [List.getElem_map] at this
    exact this
  refine ⟨(l[(l.map (·.2)).idxOf k]).1, ?_⟩
  unfold numL
  refine List.mem_map.mpr ⟨(l[(l.map (·.2)).idxOf k], (l.map (·.2)).idxOf k), ?_, by rw [e]⟩
  exact List.mk_mem_zipIdx_iff_getElem?.mpr (List.getElem?_eq_getElem hl)
/-- the numbers of seats: one step -/
theorem step_idx {n : Nat} {rs : List Rnd} {c : List Int} {l : List (Addr × NestedKey)} (hl : l.length ≤ n) (hm : ∀ x, InN n x → nSh (seatM c rs x) ∈ l.map (·.2)) :
    StepR n rs c ((rangeI n).map fun x => (((l.map (·.2)).idxOf (nSh (seatM c rs x)) : Nat) : Int)) := by
  have lt : ∀ x, InN n x → (l.map (·.2)).idxOf (nSh (seatM c rs x)) < n := fun x hx => by
    have := List.idxOf_lt_length_iff.mpr (hm x hx)
    rw [List.length_map] at this
    omega
  have at_ : ∀ x, InN n x → cF ((rangeI n).map fun x => (((l.map (·.2)).idxOf (nSh (seatM c rs x)) : Nat) : Int)) x = (((l.map (·.2)).idxOf (nSh (seatM c rs x)) : Nat) : Int) := fun x hx => by
    obtain ⟨i, rfl, hi⟩ := inN_nat hx
    rw [cF_get (by rw [List.length_map, rangeI_len]; exact hi), List.getElem_map]
    unfold rangeI
    rw [List.getElem_map, List.getElem_range]
  refine ⟨by rw [List.length_map, rangeI_len], fun k hk => ?_, fun x y hx hy => ?_⟩
  · obtain ⟨x, hx, rfl⟩ := List.mem_map.mp hk
    have := lt x (mem_rangeI.mp hx)
    exact ⟨by omega, by omega⟩
  · rw [at_ x hx, at_ y hy]
    constructor
    · intro e
      have e1 : (l.map (·.2)).idxOf (nSh (seatM c rs x)) = (l.map (·.2)).idxOf (nSh (seatM c rs y)) := by omega
      have h1 := List.getElem_idxOf (List.idxOf_lt_length_iff.mpr (hm x hx))
      have h2 := List.getElem_idxOf (List.idxOf_lt_length_iff.mpr (hm y hy))
      have e2 : nSh (seatM c rs x) = nSh (seatM c rs y) := by
        rw [← h1, ← h2]
        congr 1
      have e3 := nSh_inj e2
      unfold seatM at e3
      exact ⟨congrArg Prod.fst e3, sortPl_iff.mp (congrArg Prod.snd e3)⟩
    · rintro ⟨e1, e2⟩
      have e3 : seatM c rs x = seatM c rs y := by
        unfold seatM
        rw [e1, sortPl_iff.mpr e2]
      rw [e3]
abbrev nTold : List Str := ["plan", "kinds", "many", "shown", "numbers", "number", "seats"]
theorem scTold : FnScope nTold ["plan", "kinds"] (defScope sToldApart) := ⟨rfl, rfl, rfl, by decide +kernel, rfl, by decide +kernel, by decide +kernel⟩
def spTold (K : PySem.W.Frag) : Sp := fun vs H Q _ => ∃ (lp lk : Addr) (g : Nat) (s : Int) (one other : List Rnd) (c : List Int), vs = [.ref lp, .ref lk] ∧ PlanV K H lp (bothR g one other) ∧ SqL K H lk (c.map V.int) ∧ c.length = 2 * g ∧ 1 ≤ g ∧ g ≤ 64 ∧ PlanS (2 * g) (bothR g one other) ∧ (∀ r ∈ one, IsRound g s r) ∧ (∀ r ∈ other, IsRound g s r) ∧
  ∀ q H' c', Same H H' → H q = none → H' q = some (.lst (c'.map V.int)) → Told g one other c c' → Q (.ref q) H'
/-- the kinds under way -/
structure TI (K : PySem.W.Frag) (H0 H : Hp) (lk : Addr) (g : Nat) (one other : List Rnd) (c cur : List Int) (many : Nat) : Prop where
  sm : Same H0 H
  sq : SqL K H lk (cur.map V.int)
  ti : ToldI g one other c cur
  st : many = 0 ∨ ∃ prev, prev.length = 2 * g ∧ StepR (2 * g) (bothR g one other) prev cur ∧ metN prev = many ∧ H0 lk = none ∧ H lk = some (.lst (cur.map V.int))
  le : many ≤ 2 * g
theorem ok_told {f fS : Addr} {fd fdS : FuncData} (F : Fun K "told_apart" "told_apart" sToldApart f fd) (B : Blt mg) (GS : FnOk P w K mg base CX0 2 fS fdS ["plan", "kinds"] (spShown K)) (FS : Fun K "shown_seats" "shown_seats" sShown fS fdS) (bS : Binds K fdS ["plan", "kinds"] []) (gS : mg "shown_seats" = some (.ref fS)) :
    FnOk P w K mg base CX0 3 f fd ["plan", "kinds"] (spTold K) := by
  refine F.ok scTold (fun vs H Q E h => ?_) (fun cdv A outer s H vs Q E hr h => ?_)
  · obtain ⟨lp, lk, g, s, one, other, c, rfl, _⟩ := h
    rfl
  · obtain ⟨lp, lk, g, z, one, other, c, rfl, hp, hk, hcl, hg1, hg64, hS, hR1, hR2, q⟩ := h
    refine ⟨_, pss_cons (ps_set (i := 2) scTold.nd rfl (.inl rfl) pe_int)
      (pss_cons (ps_while PassesOwn.never (pt_cmpR op_gt (pe_lenSet (by rfl) B.len (by rfl) B.set (pv 1)) (pv 2) (nomark _))
        (pss_cons (ps_set (i := 2) scTold.nd rfl (.inl rfl) (pe_lenSet (by rfl) B.len (by rfl) B.set (pv 1)))
        (pss_cons (ps_set (i := 3) scTold.nd rfl (.inl rfl) (pe_call GS hr (by rfl) gS FS.kp bS .nil pass0 (pa_cons (pv 0) (pa_cons (pv 1) pa_nil))))
        (pss_cons (ps_set (i := 4) scTold.nd rfl (.inr rfl) (pe_dcN (own := [("number", 5), ("seats", 6)]) (g := gTup K 2 (gCons (gName 5) (gCons (gName 6) gNil))) (tt := tYes) (tk := tVar 6) (tv := tVar 5) rfl hr.units scTold.nd
            (pi_enum (by rfl) B.enumerate (pa_cons (pe_callB (cr_sortedN rfl hr.units) (by rfl) B.sorted (by decide +kernel) (pa_cons (pe_callTy (cr_setN rfl hr.units) (by rfl) B.set (by decide +kernel) (pa_cons (pv 3) pa_nil)) pa_nil)) pa_nil))
            (blkOk_by (N := nTold) (sc := defScope sToldApart) (by decide +kernel))
            (fun _ _ _ _ _ => pg_tup rfl (pgs_cons (pg_name (i := 5) (x := "number") scTold.nd rfl (.inl rfl) (.inr rfl)) (pgs_cons (pg_name (i := 6) (x := "seats") scTold.nd rfl (.inl rfl) (.inr rfl)) pgs_nil)))
            (fun _ _ _ _ _ => pts_nil) (fun _ _ _ _ _ => pv 6) (fun _ _ _ _ _ => pv 5)))
        (pss_one (ps_setLc (i := 1) (own := [("seats", 6)]) (g := gName 6) (tt := tYes) (te := tOp (rIxN K P w) (tVar 4) (tVar 6)) (by rfl) scTold.nd rfl rfl (sw_true rfl rfl rfl (by decide +kernel)) (pi_list (pv 3))
            (blkOk_by (N := nTold) (sc := defScope sToldApart) (by decide +kernel))
            (fun _ _ _ _ _ => pg_name (i := 6) (x := "seats") scTold.nd rfl (.inl rfl) (.inr rfl)) (fun _ _ _ _ _ => pts_nil) (fun _ _ _ _ _ => pe_ix (ix_dicN hr.units) (pv 4) (pv 6) (fun _ _ => rfl))))))))
      (pss_one (ps_ret (pv 1)))), ?_⟩
    have big : (5000000 : Nat) < sizeLine := by decide
    -- many = 0, the loop
    refine ⟨fun m σ H2 => ∃ (lk2 : Addr) (cur : List Int) (many : Nat) (y3 y4 : Option V), σ = [some (.ref lp), some (.ref lk2), some (.int (many : Nat)), y3, y4, none, none] ∧ TI K H H2 lk2 g one other c cur many ∧ m + many = 2 * g + 1, ⟨2 * g + 1, lk, c, 0, none, none, rfl, ⟨Same.refl _, hk, ToldI.start hcl, .inl rfl, Nat.zero_le _⟩, rfl⟩, ?_⟩
    rintro m σ H2 ⟨lk2, cur, many, y3, y4, rfl, T, hm⟩
    have hcur := T.ti.len
    obtain ⟨D0, d1, d2, d3⟩ := metN_list cur
    refine ⟨.ref lk2, rfl, lk2, cur, rfl, T.sq, by omega, .int (many : Nat), rfl, _, _, rfl, rfl, _, rfl, ite2 (fun hc => ?_) (fun hc => ?_)⟩
    · have hc : many < metN cur := by
        have := of_decide_eq_true hc
        omega
      have hle := metN_le cur
      have hmore : ∃ k, many = k := ⟨_, rfl⟩
      refine ⟨fun σ' H' => ∃ (lk2 : Addr) (nx : List Int) (y3 y4 : Option V), σ' = [some (.ref lp), some (.ref lk2), some (.int (metN cur : Nat)), y3, y4, none, none] ∧ TI K H H' lk2 g one other c nx (metN cur), fun σ' H' h => ?_, ?_⟩
      · obtain ⟨lk3, nx, y3, y4, rfl, T3⟩ := h
        exact ⟨2 * g + 1 - metN cur, by omega, lk3, nx, metN cur, y3, y4, rfl, T3, by omega⟩
      refine ⟨.ref lk2, rfl, lk2, cur, rfl, T.sq, by omega, ?_⟩
      -- shown
      refine ⟨.ref lp, rfl, .ref lk2, rfl, lp, lk2, bothR g one other, cur, rfl, planV_same hp T.sm, T.sq, by omega, by rw [hcur]; exact hS, fun q1 H3 xs s3 nq1 hq1 hxs => ?_⟩
      rw [hcur] at hxs
      obtain ⟨ks, ek, ek2, hks⟩ := sh_keys hxs
      have hkl : ks.length = 2 * g := by
        have e := congrArg List.length ek2
        rw [List.length_map, List.length_map, List.length_map, rangeI_len] at e
        exact e
      have nkAt : ∀ {H4 : Hp}, SameT H3 H4 → ∀ p ∈ ks, NkV K H4 p := fun {H4} sT p hp => by
        obtain ⟨sq, _, e, v⟩ := hks p hp
        have := sh_nkV (K := K) (v.mono sT)
        rw [← e] at this
        exact this
      have shp : ∀ p ∈ ks, ∃ q, p.2 = nSh q := fun p hp => let ⟨sq, _, e, _⟩ := hks p hp; ⟨sq, e⟩
      -- set(shown), sorted
      refine ⟨.ref q1, rfl, q1, ks, rfl, by rw [← ek]; exact SqL.of hq1, nkAt fun _ _ e => e, by omega, fun a L na hsub hall hnd hlen => ?_⟩
      have s4 : Same H3 (upd H3 a (SetNO P w a L)) := same_new na
      have ha : (upd H3 a (SetNO P w a L)) a = some (SetNO P w a L) := upd_same
      refine ⟨a, L, rfl, ha, fun p hp => nkAt (same_toT s4) p (hsub p hp), sh_alike fun p hp => shp p (hsub p hp), sh_sortable fun p hp => shp p (hsub p hp), fun p hp => ?_, by omega, fun L' p2 pm np2 => ?_⟩
      · obtain ⟨sq, e⟩ := shp p (hsub p hp)
        rw [e, data_Sh]
        exact Nat.le_trans (ddep_Sh sq) (by decide)
      have s5 := s4.trans (same_new (o := .lst (L'.map fun q => V.ref q.1)) np2)
      have hp2 : (upd (upd H3 a (SetNO P w a L)) p2 (.lst (L'.map fun q => V.ref q.1))) p2 = some (.lst (L'.map fun q => V.ref q.1)) := upd_same
      refine ⟨p2, _, rfl, SqL.of hp2, fun D nD => ?_⟩
      have nD3 : H3 D = none := s5.free nD
      have npD : p2 ≠ D := ne_of_none hp2 nD
      have hsub' : ∀ p ∈ L', p ∈ ks := fun p hp => hsub p (pm.mem_iff.mp hp)
      have hnd' : (L'.map (·.2)).Nodup := (pm.map (·.2)).nodup_iff.mpr hnd
      have hL'l : L'.length ≤ 2 * g := by
        rw [pm.length_eq]
        omega
      -- numbers
      refine dcN_it (walk_enum (xs := L'.map fun q => V.ref q.1)) (fun i H6 => Same H3 H6 ∧ H6 p2 = some (.lst (L'.map fun q => V.ref q.1)) ∧ H6 D = some (DicNO P w D (numL (L'.take i)))) ⟨same_put s5 nD3, by rw [upd_ne npD]; exact hp2, by rw [List.take_zero]; exact upd_same⟩ (fun i H6 _ h => SqL.of h.2.1) (fun i x H6 H7 hi hI y => ?_) (fun H6 hI => ?_)
      · obtain ⟨sm6, hp6, hD⟩ := hI
        obtain ⟨U, v1, v2, rfl, nU, rfl, g1, g2⟩ := y
        have e1 : v1 = .int ((i : Nat) : Int) := (Option.some.inj g1).symm
        subst e1
        rw [List.length_map] at hi
        have hLi : L'[i]? = some L'[i] := List.getElem?_eq_getElem hi
        generalize L'[i] = pr at hLi
        have ev : v2 = .ref pr.1 := by
          have g2 : (L'.map fun q => V.ref q.1)[i]? = some v2 := g2
          rw [List.getElem?_map, hLi] at g2
          exact (Option.some.inj g2).symm
        subst ev
        have sU : Same H6 (upd H6 U (.tup [.int ((i : Nat) : Int), .ref pr.1])) := same_new nU
        have sm7 := sm6.trans sU
        have T7 := same_toT sm7
        have hpr : pr ∈ ks := hsub' pr (List.mem_of_getElem? hLi)
        refine ⟨U, _, rfl, SqT.of upd_same, rfl, _, _, rfl, _, _, rfl, ⟨rfl, wipe_put2 (by decide) (by decide), yesT ?_⟩⟩
        refine ⟨.ref pr.1, rfl, .int ((i : Nat) : Int), rfl, pr.1, pr.2, ((i : Nat) : Int), numL (L'.take i), rfl, rfl, sU _ _ hD, fun p hp => ?_, ?_, nkAt T7 pr hpr, ?_, same_put sm7 nD3, by rw [upd_ne npD]; exact sU _ _ hp6, ?_⟩
        · exact nkAt T7 _ (hsub' _ (List.mem_of_mem_take (numL_mem hp)))
        · rw [numL_len, List.length_take]
          omega
        · rw [numL_keys]
          intro z
          obtain ⟨p', hp', e⟩ := List.mem_map.mp z
          obtain ⟨j, hj, ej⟩ := List.getElem_of_mem hp'
          rw [List.length_take] at hj
          rw [List.getElem_take] at ej
          obtain ⟨hi2, ei⟩ := List.getElem?_eq_some_iff.mp hLi
          have n1 : (L'.map (·.2))[j]'(by rw [List.length_map]; omega) = (L'.map (·.2))[i]'(by rw [List.length_map]; omega) := by
            rw [List.getElem_map, List.getElem_map, ej, ei, e]
          have := (List.getElem_inj hnd').mp n1
          omega
        · rw [upd_same, takeSucc hLi, numL_snoc, List.length_take, Nat.min_eq_left (by omega)]
          rfl
      obtain ⟨s6, hp6, hD⟩ := hI
      rw [List.length_map, List.take_of_length_le (Nat.le_refl _)] at hD
      -- kinds
      have hq6 := s6 _ _ hq1
      have hN : ∀ p ∈ numL L', NkV K H6 (p.2.1, p.1) := fun p hp => nkAt (same_toT s6) _ (hsub' _ (numL_mem hp))
      have inL : ∀ x, InN (2 * g) x → nSh (seatM cur (bothR g one other) x) ∈ L'.map (·.2) := fun x hx => by
        have h1 : nSh (seatM cur (bothR g one other) x) ∈ ks.map (·.2) := by
          rw [ek2]
          exact List.mem_map.mpr ⟨_, List.mem_map.mpr ⟨x, mem_rangeI.mpr hx, rfl⟩, rfl⟩
        obtain ⟨p, hp, e⟩ := List.mem_map.mp h1
        have := hall p hp
        rw [e] at this
        exact (pm.map (·.2)).mem_iff.mpr this
      refine ⟨.ref q1, rfl, q1, rfl, ⟨_, SqL.of hq6⟩, fun D2 nD2 => ?_⟩
      have sD2 : Same H6 (upd H6 D2 (.lst [])) := same_new nD2
      refine lc_it (walk_list (xs := xs)) (fun i H7 => Same H6 H7 ∧ H7 D2 = some (.lst ((((rangeI (2 * g)).take i).map fun x => (((L'.map (·.2)).idxOf (nSh (seatM cur (bothR g one other) x)) : Nat) : Int)).map V.int))) ⟨sD2, by rw [List.take_zero]; exact upd_same⟩ (fun i H7 _ h => SqL.of (h.1 _ _ hq6)) (fun i x H7 H8 hi hJ y => ?_) (fun H7 hJ => ?_)
      · obtain ⟨sm7, hD7⟩ := hJ
        obtain ⟨rfl, hx⟩ := y
        obtain ⟨sq, hsq, hsv⟩ := paired_getL hxs hx
        have hxl := paired_len hxs
        rw [List.length_map, rangeI_len] at hxl
        have hi2 : i < 2 * g := by omega
        have er : (rangeI (2 * g))[i]? = some ((i : Nat) : Int) := by
          unfold rangeI
          rw [List.getElem?_map, List.getElem?_range hi2]
          rfl
        rw [List.getElem?_map, er] at hsq
        have hsq := (Option.some.inj hsq).symm
        subst hsq
        obtain ⟨b, bb, bs, rfl, _⟩ := id hsv
        refine ⟨wipe_put (by decide), yesT ?_⟩
        obtain ⟨U, hU⟩ := numL_idx (inL ((i : Nat) : Int) ⟨by omega, by omega⟩)
        refine ⟨.ref D, rfl, .ref b, rfl, D, b, nSh (seatM cur (bothR g one other) ((i : Nat) : Int)), numL L', U, _, rfl, rfl, sm7 _ _ hD, fun p hp => ?_, sh_nkV (hsv.mono (same_toT (s6.trans sm7))), hU, ?_⟩
        · exact nkAt (same_toT (s6.trans sm7)) _ (hsub' _ (numL_mem hp))
        refine ⟨_, hD7, ?_, same_put sm7 nD2, ?_⟩
        · rw [List.length_map, List.length_map, List.length_take]
          omega
        · rw [upd_same, takeSucc er, List.map_append, List.map_append]
          rfl
      · obtain ⟨sm7, hD7⟩ := hJ
        have hxl := paired_len hxs
        rw [List.length_map, rangeI_len] at hxl
        rw [List.take_of_length_le (by rw [rangeI_len]; omega)] at hD7
        have S := step_idx (rs := bothR g one other) (c := cur) hL'l inL
        refine ⟨D2, _, _, _, rfl, ⟨(T.sm.trans s3).trans (s6.trans sm7), SqL.of hD7, T.ti.step hR1 hR2 S, .inr ⟨cur, hcur, S, rfl, ((T.sm.trans s3).trans s6).free nD2, hD7⟩, by omega⟩⟩
    · have hc : metN cur ≤ many := by
        have h1 : ¬ many < metN cur := fun z => hc (decide_eq_true (by omega))
        omega
      refine ⟨.ref lk2, rfl, ?_⟩
      rcases T.st with e | ⟨prev, e1, e2, e3, e4, e5⟩
      · have hx : cF cur 0 ∈ D0 := (d2 _).mpr (cF_mem hcur ⟨Int.le_refl _, by omega⟩)
        have := List.length_pos_of_mem hx
        omega
      · obtain ⟨D1, f1, f2, f3⟩ := metN_list prev
        exact q lk2 H2 cur T.sm e4 e5 (T.ti.done e2 e1 f1 d1 f2 d2 (by omega))
end Nf

set_option Elab.async false
set_option linter.all false
set_option maxRecDepth 100000
set_option maxHeartbeats 4000000
namespace Nf
open PySem PySem.Spec PyProof.Rows L2
variable {P : Program} {w : World} {K : PySem.W.Frag} {mg : Str → Option Value} {base : Heap}
/-! ### alike: turning_by_kinds -/
theorem cutToA (xs : List V) (j : Nat) : cutV xs none (some ((j : Nat) : Int)) = xs.take j := by
  unfold cutV
  rw [HT.sIx_nat xs.length xs.length j]
  show List.take (min j xs.length - 0) (List.drop 0 xs) = _
  rw [List.drop_zero, Nat.sub_zero]
  exact (List.take_eq_take_min ..).symm
theorem cutFromA (xs : List V) (j : Nat) : cutV xs (some ((j : Nat) : Int)) none = xs.drop j := cutFrom xs j
theorem cF_take {c : List Int} {g : Nat} (h : g ≤ c.length) {x : Int} (hx : InN g x) : cF (c.take g) x = cF c x := by
  obtain ⟨i, rfl, hi⟩ := inN_nat hx
  rw [cF_get (by rw [List.length_take]; omega), cF_get (by omega), List.getElem_take]
theorem flat_intsA (l : List Int) : (l.map V.int).all flatV = true := by
  rw [List.all_map]
  exact List.all_eq_true.mpr fun _ _ => rfl
theorem idx_ok {l : List Int} {k : Int} (h : k ∈ l) : (l.map V.int)[l.idxOf k]? = some (.int k) ∧ ∀ (m : Nat) (z : V), m < l.idxOf k → (l.map V.int)[m]? = some z → eqV z (.int k) = false := by
  have hlt := List.idxOf_lt_length_iff.mpr h
  refine ⟨by rw [List.getElem?_map, List.getElem?_eq_getElem hlt, List.getElem_idxOf]; rfl, fun m z hm hz => ?_⟩
  obtain ⟨n, hn, rfl⟩ := getElem?_int hz
  show (n == k) = false
  obtain ⟨h1, h2⟩ := List.getElem?_eq_some_iff.mp hn
  have := List.not_of_lt_findIdx (p := fun x => x == k) (xs := l) (i := m) hm
  rw [h2] at this
  simpa using this
abbrev nTurning : List Str := ["both", "kinds", "half", "ones", "others", "shared", "chosen", "place", "turning", "kind", "at"]
theorem scTurning : FnScope nTurning ["both", "kinds"] (defScope sTurning) := ⟨rfl, rfl, rfl, by decide +kernel, rfl, by decide +kernel, by decide +kernel⟩
def spTurn (K : PySem.W.Frag) (m : Nat) : Sp := fun vs H Q _ => ∃ (lb lk : Addr) (g : Nat) (s : Int) (one other : List Rnd) (c : List Int), vs = [.ref lb, .ref lk] ∧ PlanV K H lb (bothR g one other) ∧ SqL K H lk (c.map V.int) ∧ c.length = 2 * g ∧ 1 ≤ g ∧ g ≤ 64 ∧ one.length = other.length ∧ PlanS (2 * g) (bothR g one other) ∧ (∀ r ∈ one, IsRound g s r) ∧ (∀ r ∈ other, IsRound g s r) ∧ shN g c ≤ m ∧
  ((∀ f, IsoF g one other f → Resp g (cF c) f → False) → ∀ H', Same H H' → Q .non H') ∧ ∀ p l H', p.Perm (rangeI g) → IsoF g one other (cF p) → Same H H' → H l = none → H' l = some (.lst (p.map V.int)) → Q (.ref l) H'
open Classical in
theorem shN_pos {g : Nat} {c : List Int} {x y : Int} (hx : InN g x) (hy : InN g y) (n : y ≠ x) (e : cF c x = cF c y) : 0 < shN g c := by
  unfold shN
  exact List.length_pos_of_mem (List.mem_filter.mpr ⟨mem_rangeI.mpr hx, decide_eq_true ⟨y, hy, n, e.symm⟩⟩)
theorem eqv_intsL (a b : List Int) : PyData.eqv (.list (a.map .int)) (.list (b.map .int)) = true ↔ a = b := by
  simp only [PyData.eqv]
  exact eqvInts
theorem in_one {x y : Int} : V.int x = V.int y ↔ x = y := ⟨fun h => by injection h, fun h => by rw [h]⟩
theorem shared_nil {l : List Int} (h : (l.filter fun k => decide (1 < l.count k)) = []) : l.Nodup := List.nodup_iff_count.mpr fun k => by
  by_cases hk : k ∈ l
  · have := List.filter_eq_nil_iff.mp h k hk
    rw [decide_eq_true_eq] at this
    omega
  · rw [List.count_eq_zero.mpr hk]
    omega
theorem ok_turn0 {f fT : Addr} {fd fdT : FuncData} (F : Fun K "turning_by_kinds" "turning_by_kinds" sTurning f fd) (B : Blt mg) (GT : FnOk P w K mg base CX0 3 fT fdT ["plan", "kinds"] (spTold K)) (FT : Fun K "told_apart" "told_apart" sToldApart fT fdT) (bT : Binds K fdT ["plan", "kinds"] []) (gT : mg "told_apart" = some (.ref fT)) :
    FnOk P w K mg base CX0 4 f fd ["both", "kinds"] (spTurn K 0) := by
  refine F.ok scTurning (fun vs H Q E h => ?_) (fun cdv A outer s H vs Q E hr h => ?_)
  · obtain ⟨lb, lk, g, s, one, other, c, rfl, _⟩ := h
    rfl
  · obtain ⟨lb, lk, g, z, one, other, c, rfl, hp, hk, hcl, hg1, hg64, hlo, hS, hR1, hR2, hsh, qn, qs⟩ := h
    have hr3 : Room 3 _ := hr.mono (by omega)
    have hr1 : Room 1 _ := hr.mono (by omega)
    refine ⟨_, pss_cons (ps_set (i := 1) scTurning.nd rfl (.inl rfl) (pe_call GT hr3 (by rfl) gT FT.kp bT .nil pass0 (pa_cons (pv 0) (pa_cons (pv 1) pa_nil))))
      (pss_cons (ps_set (i := 2) scTurning.nd rfl (.inl rfl) (pe_op op_fdiv (pe_callB call_len_seq (by rfl) B.len PySem.boot_len (pa_cons (pv 1) pa_nil)) pe_int))
      (pss_cons (ps_asg (pe_tup (pa_cons (pe_slice sl_list (pv 1) po_none (po_some (pv 2))) (pa_cons (pe_slice sl_list (pv 1) (po_some (pv 2)) po_none) pa_nil))) (pg_tup rfl (pgs_cons (pg_name (i := 3) scTurning.nd rfl (.inr rfl)) (pgs_cons (pg_name (i := 4) scTurning.nd rfl (.inr rfl)) pgs_nil))))
      (pss_cons (ps_if (pt_cmpR (op_neD hr.units) (pe_callB (cr_sortD (fun i : Int => PyData.int i) hr.units) (by rfl) B.sorted (by decide +kernel) (pa_cons (pv 3) pa_nil)) (pe_callB (cr_sortD (fun i : Int => PyData.int i) hr.units) (by rfl) B.sorted (by decide +kernel) (pa_cons (pv 4) pa_nil)) (nomark _)) (pss_one (ps_ret pe_non)) pss_nil)
      (pss_cons (ps_setLc (i := 5) (own := [("kind", 9)]) (g := gName 9) (tt := tTest (tOp (rI0 fun i j => .bl (decide (j < i))) (tBM K "list" (rCntI K) (tVar 3) (tCons (tVar 9) tNil)) (tC (.int 1)))) (te := tVar 9) (by rfl) scTurning.nd rfl rfl (sw_true rfl rfl rfl (by decide +kernel)) (pi_list (pv 3))
          (blkOk_by (N := nTurning) (sc := defScope sTurning) (by decide +kernel))
          (fun _ _ _ _ _ => pg_name (i := 9) (x := "kind") scTurning.nd rfl (.inl rfl) (.inr rfl)) (fun _ _ _ _ _ => pts_one (pt_cmpR op_gt (pe_bm PySem.F.plainAttrs_list PySem.F.slot_list_count PySem.F.type_list_count mt_lcount (pv 3) (pa_cons (pv 9) pa_nil)) pe_int (nomark _))) (fun _ _ _ _ _ => pv 9))
      (pss_cons (ps_if (pt_not (pt_truth (pv 5) (by intro _; rfl))) (pss_one (ps_ret (pe_lc (own := [("kind", 9)]) (g := gName 9) (tt := tYes) (te := tBM K "list" (rIndex K) (tVar 4) (tCons (tVar 9) tNil)) (by rfl) scTurning.nd (pi_list (pv 3))
          (blkOk_by (N := nTurning) (sc := defScope sTurning) (by decide +kernel))
          (fun _ _ _ _ _ => pg_name (i := 9) (x := "kind") scTurning.nd rfl (.inl rfl) (.inr rfl)) (fun _ _ _ _ _ => pts_nil) (fun _ _ _ _ _ => pe_bm PySem.F.plainAttrs_list PySem.F.slot_list_index PySem.F.type_list_index mt_index (pv 4) (pa_cons (pv 9) pa_nil))))) pss_nil)
      pss_never))))), ?_⟩
    have big : (5000000 : Nat) < sizeLine := by decide
    -- kinds
    refine ⟨.ref lb, rfl, .ref lk, rfl, lb, lk, g, z, one, other, c, rfl, hp, hk, hcl, hg1, hg64, hS, hR1, hR2, fun k2 H1 cur s1 nk2 hk2 T => ?_⟩
    have hcur := T.len
    -- half
    refine ⟨.ref k2, rfl, k2, _, rfl, .inl (SqL.of hk2), _, _, rfl, rfl, ⟨by decide, by decide⟩, ?_⟩
    have eh : (((cur.map V.int).length : Nat) : Int) / 2 = (g : Int) := by
      rw [List.length_map, hcur]
      omega
    show gName 2 (V.int ((((cur.map V.int).length : Nat) : Int) / 2)) _ _ _
    rw [eh]
    -- ones, others
    refine ⟨.ref k2, rfl, .int g, rfl, g, rfl, k2, _, rfl, SqL.of hk2, fun a na => ?_⟩
    rw [cutToA, ← List.map_take]
    have s2 : Same H1 (upd H1 a (.lst ((cur.take g).map V.int))) := same_new na
    have ha : (upd H1 a (.lst ((cur.take g).map V.int))) a = some (.lst ((cur.take g).map V.int)) := upd_same
    generalize (upd H1 a (.lst ((cur.take g).map V.int))) = H2 at s2 ha ⊢
    refine ⟨.ref k2, rfl, .int g, rfl, g, rfl, k2, _, rfl, SqL.of (s2 _ _ hk2), fun b nb => ?_⟩
    rw [cutFromA, ← List.map_drop]
    have s3 : Same H2 (upd H2 b (.lst ((cur.drop g).map V.int))) := same_new nb
    have hb : (upd H2 b (.lst ((cur.drop g).map V.int))) b = some (.lst ((cur.drop g).map V.int)) := upd_same
    generalize (upd H2 b (.lst ((cur.drop g).map V.int))) = H3 at s3 hb ⊢
    refine ⟨by show 2 ≤ sizeLine; decide, fun t nt => ?_⟩
    have s4 := (s2.trans s3).trans (same_new (o := .tup [.ref a, .ref b]) nt)
    refine ⟨t, _, rfl, SqT.of upd_same, rfl, _, _, rfl, _, _, rfl, rfl, ?_⟩
    have ha4 := (s3.trans (same_new (o := .tup [.ref a, .ref b]) nt)) _ _ ha
    have hb4 := (same_new (o := .tup [.ref a, .ref b]) nt) _ _ hb
    generalize (upd H3 t (.tup [.ref a, .ref b])) = H4 at s4 ha4 hb4 ⊢
    have l1 : (cur.take g).length = g := by
      rw [List.length_take]
      omega
    have l2 : (cur.drop g).length = g := by
      rw [List.length_drop]
      omega
    -- sorted(ones) != sorted(others)
    refine ⟨.ref a, rfl, ?_⟩
    dsimp only [tNil]
    refine sort_ints (.inl (SqL.of ha4)) fun p1 np1 => ?_
    have s5 : Same H4 (upd H4 p1 (.lst ((sortI (cur.take g)).map V.int))) := same_new np1
    have hp1 : (upd H4 p1 (.lst ((sortI (cur.take g)).map V.int))) p1 = some (.lst ((sortI (cur.take g)).map V.int)) := upd_same
    generalize (upd H4 p1 (.lst ((sortI (cur.take g)).map V.int))) = H5 at s5 hp1 ⊢
    refine ⟨.ref b, rfl, ?_⟩
    dsimp only [tNil]
    refine sort_ints (.inl (SqL.of (s5 _ _ hb4))) fun p2 np2 => ?_
    have s6 : Same H5 (upd H5 p2 (.lst ((sortI (cur.drop g)).map V.int))) := same_new np2
    have hp2 : (upd H5 p2 (.lst ((sortI (cur.drop g)).map V.int))) p2 = some (.lst ((sortI (cur.drop g)).map V.int)) := upd_same
    generalize (upd H5 p2 (.lst ((sortI (cur.drop g)).map V.int))) = H6 at s6 hp2 ⊢
    have sA := ((s1.trans s4).trans s5).trans s6
    refine ⟨.list ((sortI (cur.take g)).map .int), .list ((sortI (cur.drop g)).map .int), .lst (SqL.of (s6 _ _ hp1)) (dpAll_ints _), .lst (SqL.of hp2) (dpAll_ints _), shInts _, shInts _, _, rfl, ite2 (fun hc => ?_) (fun hc => ?_)⟩
    · refine qn (told_none T fun hpm => ?_) _ sA
      rw [(eqv_intsL _ _).mpr (sortI_congr hpm)] at hc
      cases hc
    have hpm : (cur.take g).Perm (cur.drop g) := perm_of_sortI ((eqv_intsL _ _).mp (by simpa using hc))
    -- shared
    have ha6 := (s5.trans s6) _ _ ha4
    have hb6 := (s5.trans s6) _ _ hb4
    have hk6 := ((s4.trans s5).trans s6) _ _ hk2
    refine ⟨.ref a, rfl, a, rfl, ⟨_, SqL.of ha6⟩, fun D nD => ?_⟩
    refine lc_it (walk_list (xs := (cur.take g).map V.int)) (fun i H7 => Same H6 H7 ∧ H7 D = some (.lst ((((cur.take g).take i).filter fun k => decide (1 < (cur.take g).count k)).map V.int))) ⟨same_new nD, upd_same⟩ (fun i H7 _ h => SqL.of (h.1 _ _ ha6)) (fun i x H7 H8 hi hI y => ?_) (fun H7 hI => ?_)
    · obtain ⟨sm, hD⟩ := hI
      obtain ⟨rfl, hx⟩ := y
      obtain ⟨k, hk1, rfl⟩ := getElem?_int hx
      refine ⟨wipe_put (by decide), ?_⟩
      refine ⟨.ref a, rfl, .inl ⟨rfl, _, SqL.of (sm _ _ ha6)⟩, .int k, rfl, a, cur.take g, k, rfl, rfl, SqL.of (sm _ _ ha6), _, _, rfl, rfl, _, rfl, ite2 (fun hc => ?_) (fun hc => ?_)⟩
      · have hc : 1 < (cur.take g).count k := by
          have := of_decide_eq_true hc
          omega
        refine ⟨.int k, rfl, _, hD, ?_, same_put sm nD, ?_⟩
        · rw [List.length_map]
          have := List.length_filter_le (fun k => decide (1 < (cur.take g).count k)) ((cur.take g).take i)
          rw [List.length_take] at this
          omega
        · rw [upd_same, takeSucc hk1, List.filter_append, List.filter_cons_of_pos (by simpa using hc), List.map_append]
          rfl
      · have hc : ¬ 1 < (cur.take g).count k := fun z => hc (decide_eq_true (by omega))
        refine ⟨sm, ?_⟩
        rw [hD, takeSucc hk1, List.filter_append, List.filter_cons_of_neg (by simpa using hc)]
        simp
    obtain ⟨s7, hD⟩ := hI
    rw [List.length_map, List.take_of_length_le (Nat.le_refl _)] at hD
    have ha7 := s7 _ _ ha6
    have hb7 := s7 _ _ hb6
    have hk7 := s7 _ _ hk6
    have sB := sA.trans s7
    have hfl := List.length_filter_le (fun k => decide (1 < (cur.take g).count k)) (cur.take g)
    rcases Classical.em (((cur.take g).filter fun k => decide (1 < (cur.take g).count k)) = []) with hsn | hsn
    · rw [hsn] at hD
      refine ⟨.ref D, rfl, false, .inl ⟨_, SqL.of hD, rfl⟩, iteT ?_⟩
      obtain ⟨b1, b2⟩ := told_alone hR1 hR2 hlo T hpm (shared_nil hsn)
      refine ⟨.ref a, rfl, a, rfl, ⟨_, SqL.of ha7⟩, fun D2 nD2 => ?_⟩
      refine lc_it (walk_list (xs := (cur.take g).map V.int)) (fun i H8 => Same H7 H8 ∧ H8 D2 = some (.lst ((backL (cur.drop g) ((cur.take g).take i)).map V.int))) ⟨same_new nD2, upd_same⟩ (fun i H8 _ h => SqL.of (h.1 _ _ ha7)) (fun i x H8 H9 hi hI y => ?_) (fun H8 hI => ?_)
      · obtain ⟨sm, hD2⟩ := hI
        obtain ⟨rfl, hx⟩ := y
        obtain ⟨k, hk1, rfl⟩ := getElem?_int hx
        have hkm : k ∈ cur.drop g := hpm.mem_iff.mp (List.mem_of_getElem? hk1)
        obtain ⟨i1, i2⟩ := idx_ok hkm
        refine ⟨wipe_put (by decide), yesT ?_⟩
        refine ⟨.ref b, rfl, .inl ⟨rfl, _, SqL.of (sm _ _ hb7)⟩, .int k, rfl, b, _, .int k, _, _, rfl, rfl, SqL.of (sm _ _ hb7), rfl, flat_intsA _, i1, by simp [eqV], i2, _, hD2, ?_, same_put sm nD2, ?_⟩
        · unfold backL
          rw [List.length_map, List.length_map, List.length_take]
          omega
        · rw [upd_same, takeSucc hk1]
          unfold backL
          rw [List.map_append, List.map_append]
          rfl
      · obtain ⟨sm, hD2⟩ := hI
        rw [List.length_map, List.take_of_length_le (Nat.le_refl _)] at hD2
        exact qs _ D2 H8 b1 b2 (sB.trans sm) (sB.free nD2) hD2
    · exfalso
      obtain ⟨k, hk1⟩ := List.exists_mem_of_ne_nil _ hsn
      obtain ⟨hk2, hk3⟩ := List.mem_filter.mp hk1
      obtain ⟨x, hx, ex⟩ := mem_cF l1 hk2
      obtain ⟨y, hy, ny, ey⟩ := count_two l1 (of_decide_eq_true hk3) hx ex
      have h1 : shN g cur ≤ 0 := Nat.le_trans (shN_mono T.ref) hsh
      have h2 : 0 < shN g cur := shN_pos hx hy ny (by rw [← cF_take (by omega) hx, ← cF_take (by omega) hy, ex, ey])
      omega
theorem ok_turnS {m : Nat} {f fT fA : Addr} {fd fdT fdA : FuncData} (F : Fun K "turning_by_kinds" "turning_by_kinds" sTurning f fd) (B : Blt mg) (GT : FnOk P w K mg base CX0 3 fT fdT ["plan", "kinds"] (spTold K)) (FT : Fun K "told_apart" "told_apart" sToldApart fT fdT) (bT : Binds K fdT ["plan", "kinds"] []) (gT : mg "told_apart" = some (.ref fT)) (bR : Binds K fd ["both", "kinds"] []) (gR : mg "turning_by_kinds" = some (.ref f)) (GR : FnOk P w K mg base CX0 (m + 4) f fd ["both", "kinds"] (spTurn K m))
    (FA : Fun K "set_apart" "set_apart" sSetApart fA fdA) (bA : Binds K fdA ["kinds", "guests"] []) (gA : mg "set_apart" = some (.ref fA)) :
    FnOk P w K mg base CX0 (m + 5) f fd ["both", "kinds"] (spTurn K (m + 1)) := by
  have GA : FnOk P w K mg base CX0 1 fA fdA ["kinds", "guests"] (spSetApart K) := ok_setApart FA B
  refine F.ok scTurning (fun vs H Q E h => ?_) (fun cdv A outer s H vs Q E hr h => ?_)
  · obtain ⟨lb, lk, g, s, one, other, c, rfl, _⟩ := h
    rfl
  · obtain ⟨lb, lk, g, z, one, other, c, rfl, hp, hk, hcl, hg1, hg64, hlo, hS, hR1, hR2, hsh, qn, qs⟩ := h
    have hr3 : Room 3 _ := hr.mono (by omega)
    have hr1 : Room 1 _ := hr.mono (by omega)
    refine ⟨_, pss_cons (ps_set (i := 1) scTurning.nd rfl (.inl rfl) (pe_call GT hr3 (by rfl) gT FT.kp bT .nil pass0 (pa_cons (pv 0) (pa_cons (pv 1) pa_nil))))
      (pss_cons (ps_set (i := 2) scTurning.nd rfl (.inl rfl) (pe_op op_fdiv (pe_callB call_len_seq (by rfl) B.len PySem.boot_len (pa_cons (pv 1) pa_nil)) pe_int))
      (pss_cons (ps_asg (pe_tup (pa_cons (pe_slice sl_list (pv 1) po_none (po_some (pv 2))) (pa_cons (pe_slice sl_list (pv 1) (po_some (pv 2)) po_none) pa_nil))) (pg_tup rfl (pgs_cons (pg_name (i := 3) scTurning.nd rfl (.inr rfl)) (pgs_cons (pg_name (i := 4) scTurning.nd rfl (.inr rfl)) pgs_nil))))
      (pss_cons (ps_if (pt_cmpR (op_neD hr.units) (pe_callB (cr_sortD (fun i : Int => PyData.int i) hr.units) (by rfl) B.sorted (by decide +kernel) (pa_cons (pv 3) pa_nil)) (pe_callB (cr_sortD (fun i : Int => PyData.int i) hr.units) (by rfl) B.sorted (by decide +kernel) (pa_cons (pv 4) pa_nil)) (nomark _)) (pss_one (ps_ret pe_non)) pss_nil)
      (pss_cons (ps_setLc (i := 5) (own := [("kind", 9)]) (g := gName 9) (tt := tTest (tOp (rI0 fun i j => .bl (decide (j < i))) (tBM K "list" (rCntI K) (tVar 3) (tCons (tVar 9) tNil)) (tC (.int 1)))) (te := tVar 9) (by rfl) scTurning.nd rfl rfl (sw_true rfl rfl rfl (by decide +kernel)) (pi_list (pv 3))
          (blkOk_by (N := nTurning) (sc := defScope sTurning) (by decide +kernel))
          (fun _ _ _ _ _ => pg_name (i := 9) (x := "kind") scTurning.nd rfl (.inl rfl) (.inr rfl)) (fun _ _ _ _ _ => pts_one (pt_cmpR op_gt (pe_bm PySem.F.plainAttrs_list PySem.F.slot_list_count PySem.F.type_list_count mt_lcount (pv 3) (pa_cons (pv 9) pa_nil)) pe_int (nomark _))) (fun _ _ _ _ _ => pv 9))
      (pss_cons (ps_if (pt_not (pt_truth (pv 5) (by intro _; rfl))) (pss_one (ps_ret (pe_lc (own := [("kind", 9)]) (g := gName 9) (tt := tYes) (te := tBM K "list" (rIndex K) (tVar 4) (tCons (tVar 9) tNil)) (by rfl) scTurning.nd (pi_list (pv 3))
          (blkOk_by (N := nTurning) (sc := defScope sTurning) (by decide +kernel))
          (fun _ _ _ _ _ => pg_name (i := 9) (x := "kind") scTurning.nd rfl (.inl rfl) (.inr rfl)) (fun _ _ _ _ _ => pts_nil) (fun _ _ _ _ _ => pe_bm PySem.F.plainAttrs_list PySem.F.slot_list_index PySem.F.type_list_index mt_index (pv 4) (pa_cons (pv 9) pa_nil))))) pss_nil)
      (pss_cons (ps_set (i := 6) scTurning.nd rfl (.inr rfl) (pe_callB (cr_max rfl) (by rfl) B.max (by decide +kernel) (pa_cons (pv 5) pa_nil)))
      (pss_cons (ps_for PassesOwn.never rfl (pi_list (pe_lc (own := [("at", 10)]) (g := gName 10) (tt := tTest (tOp rEq (tOp (rIxL K) (tVar 4) (tVar 10)) (tVar 6))) (te := tVar 10) (by rfl) scTurning.nd (pi_range1 (by rfl) B.range (pa_cons (pv 2) pa_nil))
            (blkOk_by (N := nTurning) (sc := defScope sTurning) (by decide +kernel))
            (fun _ _ _ _ _ => pg_name (i := 10) (x := "at") scTurning.nd rfl (.inl rfl) (.inr rfl)) (fun _ _ _ _ _ => pts_one (pt_cmpR op_eq (pe_ix ix_list (pv 4) (pv 10) (fun _ _ => rfl)) (pv 6) (nomark _))) (fun _ _ _ _ _ => pv 10))) (pg_name (i := 7) scTurning.nd rfl (.inl rfl))
        (pss_cons (ps_set (i := 8) scTurning.nd rfl (.inl rfl) (pe_call GR hr (by rfl) gR F.kp bR .nil pass0 (pa_cons (pv 0) (pa_cons (pe_call GA hr1 (by rfl) gA FA.kp bA .nil pass0 (pa_cons (pv 1) (pa_cons (pe_tup (pa_cons (pe_bm PySem.F.plainAttrs_list PySem.F.slot_list_index PySem.F.type_list_index mt_index (pv 3) (pa_cons (pv 6) pa_nil)) (pa_cons (pe_op op_add (pv 2) (pv 7)) pa_nil))) pa_nil))) pa_nil))))
        (pss_one (ps_if (pt_cmpR op_notN (pv 8) pe_non (nomark _)) (pss_one (ps_ret (pv 8))) pss_nil))))
      (pss_one (ps_ret pe_non))))))))), ?_⟩
    have big : (5000000 : Nat) < sizeLine := by decide
    -- kinds
    refine ⟨.ref lb, rfl, .ref lk, rfl, lb, lk, g, z, one, other, c, rfl, hp, hk, hcl, hg1, hg64, hS, hR1, hR2, fun k2 H1 cur s1 nk2 hk2 T => ?_⟩
    have hcur := T.len
    -- half
    refine ⟨.ref k2, rfl, k2, _, rfl, .inl (SqL.of hk2), _, _, rfl, rfl, ⟨by decide, by decide⟩, ?_⟩
    have eh : (((cur.map V.int).length : Nat) : Int) / 2 = (g : Int) := by
      rw [List.length_map, hcur]
      omega
    show gName 2 (V.int ((((cur.map V.int).length : Nat) : Int) / 2)) _ _ _
    rw [eh]
    -- ones, others
    refine ⟨.ref k2, rfl, .int g, rfl, g, rfl, k2, _, rfl, SqL.of hk2, fun a na => ?_⟩
    rw [cutToA, ← List.map_take]
    have s2 : Same H1 (upd H1 a (.lst ((cur.take g).map V.int))) := same_new na
    have ha : (upd H1 a (.lst ((cur.take g).map V.int))) a = some (.lst ((cur.take g).map V.int)) := upd_same
    generalize (upd H1 a (.lst ((cur.take g).map V.int))) = H2 at s2 ha ⊢
    refine ⟨.ref k2, rfl, .int g, rfl, g, rfl, k2, _, rfl, SqL.of (s2 _ _ hk2), fun b nb => ?_⟩
    rw [cutFromA, ← List.map_drop]
    have s3 : Same H2 (upd H2 b (.lst ((cur.drop g).map V.int))) := same_new nb
    have hb : (upd H2 b (.lst ((cur.drop g).map V.int))) b = some (.lst ((cur.drop g).map V.int)) := upd_same
    generalize (upd H2 b (.lst ((cur.drop g).map V.int))) = H3 at s3 hb ⊢
    refine ⟨by show 2 ≤ sizeLine; decide, fun t nt => ?_⟩
    have s4 := (s2.trans s3).trans (same_new (o := .tup [.ref a, .ref b]) nt)
    refine ⟨t, _, rfl, SqT.of upd_same, rfl, _, _, rfl, _, _, rfl, rfl, ?_⟩
    have ha4 := (s3.trans (same_new (o := .tup [.ref a, .ref b]) nt)) _ _ ha
    have hb4 := (same_new (o := .tup [.ref a, .ref b]) nt) _ _ hb
    generalize (upd H3 t (.tup [.ref a, .ref b])) = H4 at s4 ha4 hb4 ⊢
    have l1 : (cur.take g).length = g := by
      rw [List.length_take]
      omega
    have l2 : (cur.drop g).length = g := by
      rw [List.length_drop]
      omega
    -- sorted(ones) != sorted(others)
    refine ⟨.ref a, rfl, ?_⟩
    dsimp only [tNil]
    refine sort_ints (.inl (SqL.of ha4)) fun p1 np1 => ?_
    have s5 : Same H4 (upd H4 p1 (.lst ((sortI (cur.take g)).map V.int))) := same_new np1
    have hp1 : (upd H4 p1 (.lst ((sortI (cur.take g)).map V.int))) p1 = some (.lst ((sortI (cur.take g)).map V.int)) := upd_same
    generalize (upd H4 p1 (.lst ((sortI (cur.take g)).map V.int))) = H5 at s5 hp1 ⊢
    refine ⟨.ref b, rfl, ?_⟩
    dsimp only [tNil]
    refine sort_ints (.inl (SqL.of (s5 _ _ hb4))) fun p2 np2 => ?_
    have s6 : Same H5 (upd H5 p2 (.lst ((sortI (cur.drop g)).map V.int))) := same_new np2
    have hp2 : (upd H5 p2 (.lst ((sortI (cur.drop g)).map V.int))) p2 = some (.lst ((sortI (cur.drop g)).map V.int)) := upd_same
    generalize (upd H5 p2 (.lst ((sortI (cur.drop g)).map V.int))) = H6 at s6 hp2 ⊢
    have sA := ((s1.trans s4).trans s5).trans s6
    refine ⟨.list ((sortI (cur.take g)).map .int), .list ((sortI (cur.drop g)).map .int), .lst (SqL.of (s6 _ _ hp1)) (dpAll_ints _), .lst (SqL.of hp2) (dpAll_ints _), shInts _, shInts _, _, rfl, ite2 (fun hc => ?_) (fun hc => ?_)⟩
    · refine qn (told_none T fun hpm => ?_) _ sA
      rw [(eqv_intsL _ _).mpr (sortI_congr hpm)] at hc
      cases hc
    have hpm : (cur.take g).Perm (cur.drop g) := perm_of_sortI ((eqv_intsL _ _).mp (by simpa using hc))
    -- shared
    have ha6 := (s5.trans s6) _ _ ha4
    have hb6 := (s5.trans s6) _ _ hb4
    have hk6 := ((s4.trans s5).trans s6) _ _ hk2
    refine ⟨.ref a, rfl, a, rfl, ⟨_, SqL.of ha6⟩, fun D nD => ?_⟩
    refine lc_it (walk_list (xs := (cur.take g).map V.int)) (fun i H7 => Same H6 H7 ∧ H7 D = some (.lst ((((cur.take g).take i).filter fun k => decide (1 < (cur.take g).count k)).map V.int))) ⟨same_new nD, upd_same⟩ (fun i H7 _ h => SqL.of (h.1 _ _ ha6)) (fun i x H7 H8 hi hI y => ?_) (fun H7 hI => ?_)
    · obtain ⟨sm, hD⟩ := hI
      obtain ⟨rfl, hx⟩ := y
      obtain ⟨k, hk1, rfl⟩ := getElem?_int hx
      refine ⟨wipe_put (by decide), ?_⟩
      refine ⟨.ref a, rfl, .inl ⟨rfl, _, SqL.of (sm _ _ ha6)⟩, .int k, rfl, a, cur.take g, k, rfl, rfl, SqL.of (sm _ _ ha6), _, _, rfl, rfl, _, rfl, ite2 (fun hc => ?_) (fun hc => ?_)⟩
      · have hc : 1 < (cur.take g).count k := by
          have := of_decide_eq_true hc
          omega
        refine ⟨.int k, rfl, _, hD, ?_, same_put sm nD, ?_⟩
        · rw [List.length_map]
          have := List.length_filter_le (fun k => decide (1 < (cur.take g).count k)) ((cur.take g).take i)
          rw [List.length_take] at this
          omega
        · rw [upd_same, takeSucc hk1, List.filter_append, List.filter_cons_of_pos (by simpa using hc), List.map_append]
          rfl
      · have hc : ¬ 1 < (cur.take g).count k := fun z => hc (decide_eq_true (by omega))
        refine ⟨sm, ?_⟩
        rw [hD, takeSucc hk1, List.filter_append, List.filter_cons_of_neg (by simpa using hc)]
        simp
    obtain ⟨s7, hD⟩ := hI
    rw [List.length_map, List.take_of_length_le (Nat.le_refl _)] at hD
    have ha7 := s7 _ _ ha6
    have hb7 := s7 _ _ hb6
    have hk7 := s7 _ _ hk6
    have sB := sA.trans s7
    have hfl := List.length_filter_le (fun k => decide (1 < (cur.take g).count k)) (cur.take g)
    rcases Classical.em (((cur.take g).filter fun k => decide (1 < (cur.take g).count k)) = []) with hsn | hsn
    · rw [hsn] at hD
      refine ⟨.ref D, rfl, false, .inl ⟨_, SqL.of hD, rfl⟩, iteT ?_⟩
      obtain ⟨b1, b2⟩ := told_alone hR1 hR2 hlo T hpm (shared_nil hsn)
      refine ⟨.ref a, rfl, a, rfl, ⟨_, SqL.of ha7⟩, fun D2 nD2 => ?_⟩
      refine lc_it (walk_list (xs := (cur.take g).map V.int)) (fun i H8 => Same H7 H8 ∧ H8 D2 = some (.lst ((backL (cur.drop g) ((cur.take g).take i)).map V.int))) ⟨same_new nD2, upd_same⟩ (fun i H8 _ h => SqL.of (h.1 _ _ ha7)) (fun i x H8 H9 hi hI y => ?_) (fun H8 hI => ?_)
      · obtain ⟨sm, hD2⟩ := hI
        obtain ⟨rfl, hx⟩ := y
        obtain ⟨k, hk1, rfl⟩ := getElem?_int hx
        have hkm : k ∈ cur.drop g := hpm.mem_iff.mp (List.mem_of_getElem? hk1)
        obtain ⟨i1, i2⟩ := idx_ok hkm
        refine ⟨wipe_put (by decide), yesT ?_⟩
        refine ⟨.ref b, rfl, .inl ⟨rfl, _, SqL.of (sm _ _ hb7)⟩, .int k, rfl, b, _, .int k, _, _, rfl, rfl, SqL.of (sm _ _ hb7), rfl, flat_intsA _, i1, by simp [eqV], i2, _, hD2, ?_, same_put sm nD2, ?_⟩
        · unfold backL
          rw [List.length_map, List.length_map, List.length_take]
          omega
        · rw [upd_same, takeSucc hk1]
          unfold backL
          rw [List.map_append, List.map_append]
          rfl
      · obtain ⟨sm, hD2⟩ := hI
        rw [List.length_map, List.take_of_length_le (Nat.le_refl _)] at hD2
        exact qs _ D2 H8 b1 b2 (sB.trans sm) (sB.free nD2) hD2
    · obtain ⟨k0, hk0⟩ := List.exists_mem_of_ne_nil _ hsn
      have hpos : 0 < ((cur.take g).filter fun k => decide (1 < (cur.take g).count k)).length := List.length_pos_of_mem hk0
      refine ⟨.ref D, rfl, true, .inl ⟨_, SqL.of hD, ?_⟩, iteF ?_⟩
      · cases hL : ((cur.take g).filter fun k => decide (1 < (cur.take g).count k)) with
        | nil => exact absurd hL hsn
        | cons x l => rfl
      -- chosen
      refine ⟨.ref D, rfl, D, _, rfl, SqL.of hD, hpos, fun mx hmx _ => ?_⟩
      obtain ⟨hm1, hm2⟩ := List.mem_filter.mp hmx
      have hm2 : 1 < (cur.take g).count mx := of_decide_eq_true hm2
      obtain ⟨i1, i2⟩ := idx_ok hm1
      have hil := List.idxOf_lt_length_iff.mpr hm1
      have ei0 : (cur.take g)[(cur.take g).idxOf mx] = mx := List.getElem_idxOf hil
      have hi0 : InN g (((cur.take g).idxOf mx : Nat) : Int) := ⟨by omega, by omega⟩
      have e0 : cF (cur.take g) (((cur.take g).idxOf mx : Nat) : Int) = mx := by
        rw [cF_get hil]
        exact ei0
      obtain ⟨yy, hyy, nyy, eyy⟩ := count_two l1 hm2 hi0 e0
      rw [cF_take (by omega) hi0] at e0
      rw [cF_take (by omega) hyy] at eyy
      generalize (cur.take g).idxOf mx = i0 at i1 i2 hil ei0 hi0 e0 nyy
      -- places
      refine ⟨.int g, rfl, (g : Int), rfl, by omega, by omega, fun D3 nD3 => ?_⟩
      refine lc_it walk_range (fun i H8 => Same H7 H8 ∧ H8 D3 = some (.lst ((((rangeI g).take i).filter fun x => decide (cF cur (x + g) = mx)).map V.int))) ⟨same_new nD3, upd_same⟩ (fun _ _ _ _ => trivial) (fun i x H8 H9 hi hI y => ?_) (fun H8 hI => ?_)
      · obtain ⟨sm, hD3⟩ := hI
        obtain ⟨rfl, rfl⟩ := y
        have hig : i < g := by omega
        have er : (rangeI g)[i]? = some ((i : Nat) : Int) := by
          unfold rangeI
          rw [List.getElem?_map, List.getElem?_range hig]
          rfl
        have eo : atI ((cur.drop g).map V.int) (0 + ((i : Nat) : Int)) = some (.int (cF cur (((i : Nat) : Int) + g))) := by
          rw [Int.zero_add]
          refine atI_nat ?_
          rw [List.getElem?_map, List.getElem?_drop, List.getElem?_eq_getElem (by omega), show ((i : Nat) : Int) + (g : Int) = ((g + i : Nat) : Int) by omega, cF_get (by omega)]
          rfl
        refine ⟨wipe_put (by decide), ?_⟩
        refine ⟨.ref b, rfl, .int (0 + ((i : Nat) : Int)), rfl, b, _, _, _, rfl, rfl, SqL.of (sm _ _ hb7), eo, .int mx, rfl, rfl, _, rfl, ite2 (fun hc => ?_) (fun hc => ?_)⟩
        · have hc := in_one.mp (of_decide_eq_true hc)
          refine ⟨.int (0 + ((i : Nat) : Int)), rfl, _, hD3, ?_, same_put sm nD3, ?_⟩
          · rw [List.length_map]
            have := List.length_filter_le (fun x => decide (cF cur (x + g) = mx)) ((rangeI g).take i)
            rw [List.length_take] at this
            omega
          · rw [upd_same, takeSucc er, List.filter_append, List.filter_cons_of_pos (by simpa using hc), List.map_append, Int.zero_add]
            rfl
        · have hc : ¬ cF cur (((i : Nat) : Int) + g) = mx := fun z => hc (decide_eq_true (in_one.mpr z))
          refine ⟨sm, ?_⟩
          rw [hD3, takeSucc er, List.filter_append, List.filter_cons_of_neg (by simpa using hc)]
          simp
      obtain ⟨s8, hD3⟩ := hI
      rw [Int.toNat_natCast, List.take_of_length_le (by rw [rangeI_len]; exact Nat.le_refl _)] at hD3
      have ha8 := s8 _ _ ha7
      have hk8 := s8 _ _ hk7
      have sC := sB.trans s8
      refine ⟨D3, rfl, ⟨_, SqL.of hD3⟩, ?_⟩
      refine for_it (walk_list (xs := ((rangeI g).filter fun x => decide (cF cur (x + g) = mx)).map V.int)) (fun i σ H9 => ∃ (y7 y8 : Option V), σ = [some (.ref lb), some (.ref k2), some (.int (g : Int)), some (.ref a), some (.ref b), some (.ref D), some (.int mx), y7, y8, none, none] ∧ Same H8 H9 ∧ ∀ x ∈ ((rangeI g).filter fun x => decide (cF cur (x + g) = mx)).take i, ∀ f, IsoF g one other f → Resp g (cF cur) f → f (i0 : Int) = x → False)
        ⟨none, none, rfl, Same.refl _, fun x hx => by simp at hx⟩ (fun i σ H9 _ h => ?_) (fun i x σ H9 H10 hi hI y => ?_) (fun σ H9 hI => ?_)
      · obtain ⟨_, _, _, sm, _⟩ := h
        exact SqL.of (sm _ _ hD3)
      · obtain ⟨y7, y8, rfl, sm, hno⟩ := hI
        obtain ⟨rfl, hx⟩ := y
        obtain ⟨pl, hpl, rfl⟩ := getElem?_int hx
        obtain ⟨hp1m, hp2m⟩ := List.mem_filter.mp (List.mem_of_getElem? hpl)
        have hpn : InN g pl := mem_rangeI.mp hp1m
        have hpe : cF cur (pl + g) = mx := of_decide_eq_true hp2m
        -- set_apart
        refine ⟨.ref lb, rfl, .ref k2, rfl, .ref a, rfl, .inl ⟨rfl, _, SqL.of (sm _ _ ha8)⟩, .int mx, rfl, a, _, .int mx, i0, _, rfl, rfl, SqL.of (sm _ _ ha8), rfl, flat_intsA _, i1, by simp [eqV], i2, .int (g : Int), rfl, .int pl, rfl, _, _, rfl, rfl, by show 2 ≤ sizeLine; decide, fun T9 nT9 => ?_⟩
        have s9 : Same H10 (upd H10 T9 (.tup [.int ((i0 : Nat) : Int), .int ((g : Int) + pl)])) := same_new nT9
        refine ⟨k2, T9, cur, ((i0 : Nat) : Int), (g : Int) + pl, rfl, SqL.of ((sm.trans s9) _ _ hk8), SqT.of upd_same, by omega, fun q1 H11 s11 nq1 hq1 => ?_⟩
        rw [Int.add_comm (g : Int) pl] at hq1
        have A := apartL_ok hcur ((i0 : Nat) : Int) pl
        have eA : cF cur ((i0 : Nat) : Int) = cF cur (pl + g) := by rw [e0, hpe]
        have less := A.less T.lo hcur hi0 hpn eA ⟨yy, hyy, nyy, by rw [eyy, e0]⟩
        have mono := shN_mono (g := g) (nx := cur) (c := c) T.ref
        generalize apartL cur ((i0 : Nat) : Int) (pl + g) = ap at hq1 A less
        have s12 := (sm.trans s9).trans s11
        -- turning
        refine ⟨lb, q1, g, z, one, other, ap, rfl, planV_same hp (sC.trans s12), SqL.of hq1, A.len, hg1, hg64, hlo, hS, hR1, hR2, by omega, fun hn H12 s13 => ?_, fun p l H12 hpp hiso s13 nl hl => ?_⟩
        · refine ⟨.non, rfl, rfl, _, rfl, iteF ⟨_, _, rfl, s12.trans s13, fun x hx f hf hr he => ?_⟩⟩
          rw [takeSucc hpl] at hx
          rcases List.mem_append.mp hx with hx | hx
          · exact hno x hx f hf hr he
          · rw [List.mem_singleton.mp hx] at he
            subst he
            exact hn f hf (A.resp hf.pm hi0 hr)
        · exact ⟨.ref l, rfl, rfl, _, rfl, iteT ⟨.ref l, rfl, qs p l H12 hpp hiso ((sC.trans s12).trans s13) ((sC.trans s12).free nl) hl⟩⟩
      · obtain ⟨y7, y8, rfl, sm, hno⟩ := hI
        refine qn (fun f hf hr => ?_) _ (sC.trans sm)
        have hr2 := T.rs f hf hr
        rw [List.length_map, List.take_of_length_le (Nat.le_refl _)] at hno
        have hfi := hf.pm.lo _ hi0.1 hi0.2
        refine hno (f (i0 : Int)) (List.mem_filter.mpr ⟨mem_rangeI.mpr hfi, decide_eq_true ?_⟩) f hf hr2 rfl
        rw [hr2 _ hi0.1 hi0.2, e0]
end Nf

set_option Elab.async false
set_option linter.all false
set_option maxRecDepth 100000
set_option maxHeartbeats 4000000
namespace Nf
open PySem PySem.Spec PyProof.Rows L2
variable {P : Program} {w : World} {K : PySem.W.Frag} {mg : Str → Option Value} {base : Heap}
/-! ### is_table, is_round -/
theorem atI_head {t : Tbl} (h : 1 ≤ t.length) : atI (t.map V.int) 0 = some (.int (t.headD 0)) := by
  cases t with
  | nil => simp at h
  | cons a t => exact atI_nat (j := 0) rfl
theorem atI_end {t : Tbl} (h : 1 ≤ t.length) : atI (t.map V.int) (-1) = some (.int (t.getLastD 0)) := by
  have hn : t ≠ [] := by
    intro e
    subst e
    simp at h
  have e : t.map V.int = t.dropLast.map V.int ++ [.int (t.getLast hn)] := by
    rw [← List.map_singleton, ← List.map_append, List.dropLast_concat_getLast]
  rw [e, atI_last]
  rw [List.getLastD_eq_getLast?, List.getLast?_eq_getLast hn]
  rfl
theorem scIsTable : FnScope ["party", "table"] ["party", "table"] (defScope sIsTable) := ⟨rfl, rfl, rfl, by decide +kernel, rfl, by decide +kernel, by decide +kernel⟩
def spIsTable (C : Addr) : Sp := fun vs H Q _ => ∃ (p : Addr) (g s : Int) (x : V) (t : Tbl), vs = [.ref p, x] ∧ PartyV C H p g s ∧ TabV H x t ∧ t.length ≤ 100000 ∧ ∀ b H', Same H H' → (b = true ↔ IsTable g s t) → Q (.bl b) H'
theorem ok_isTable {f fR fG fS C : Addr} {fd fdR fdG fdS : FuncData} (F : Fun K "is_table" "is_table" sIsTable f fd) (B : Blt mg) (T : Txt K mg C) (FR : Fun K "rises" "rises" sRises fR fdR) (bR : Binds K fdR ["numbers"] []) (gR : mg "rises" = some (.ref fR))
    (FG : Fun K "guests" "Party.guests" sGuests fG fdG) (bG : Binds K fdG ["self"] []) (mG : Meth K C "guests" fG) (FS : Fun K "size" "Party.size" sSize fS fdS) (bS : Binds K fdS ["self"] []) (mS : Meth K C "size" fS) : FnOk P w K mg base CX0 2 f fd ["party", "table"] (spIsTable C) := by
  have GR : FnOk P w K mg base CX0 1 fR fdR ["numbers"] (spRises K) := ok_rises FR B
  have GG : FnOk P w K mg base CX0 1 fG fdG ["self"] (spGuests C) := ok_guests FG T
  have GS : FnOk P w K mg base CX0 1 fS fdS ["self"] (spSize C) := ok_size FS T
  have ng : ∀ g s, (pf g s).lookup ("guests" : Str) = none := fun g s => pf_no _ _ (by decide +kernel) (by decide +kernel)
  have ns : ∀ g s, (pf g s).lookup ("size" : Str) = none := fun g s => pf_no _ _ (by decide +kernel) (by decide +kernel)
  refine F.ok scIsTable (fun vs H Q E h => ?_) (fun cdv A outer s H vs Q E hr h => ?_)
  · obtain ⟨p, g, s, x, t, rfl, _⟩ := h
    rfl
  · obtain ⟨p, g, z, x, t, rfl, hP, ⟨a, rfl, ha⟩, hlen, q⟩ := h
    refine ⟨_, pss_cons (ps_if (pt_not (pt_chain op_le op_le pe_int (pe_callB call_len_seq (by rfl) B.len PySem.boot_len (pa_cons (pv 1) pa_nil)) (pe_meth0 (pv 0) T.cl mS GS hr bS .nil pass0))) (pss_one (ps_ret pe_bl)) pss_nil)
      (pss_one (ps_ret (pe_and (pe_call GR hr (by rfl) gR FR.kp bR .nil pass0 (pa_cons (pv 1) pa_nil)) (pe_and (pe_cmpR op_ge (pe_ix ix_tup (pv 1) pe_int (fun _ _ => rfl)) pe_int (nomark _))
        (pe_one (pe_cmpR op_lt (pe_ix ix_tup (pv 1) (pe_un un_neg pe_int) (fun _ _ => rfl)) (pe_meth0 (pv 0) T.cl mG GG hr bG .nil pass0) (nomark _))))))), ?_⟩
    have no : ∀ H', Same H H' → ¬ IsTable g z t → Q (.bl false) H' := fun H' sm h => q false H' sm ⟨(fun e => by cases e), fun e => absurd e h⟩
    obtain ⟨dx, hp⟩ := id hP
    refine ⟨.ref a, rfl, a, _, rfl, .inr (SqT.of ha), 1, _, rfl, rfl, _, rfl, ite2 (fun h1 => ?_) (fun h1 => ?_)⟩
    · have h1 : 1 ≤ t.length := by
        have := of_decide_eq_true h1
        rw [List.length_map] at this
        omega
      refine ⟨_, rfl, p, dx, _, rfl, hp, ns _ _, p, g, z, rfl, hP, _, _, rfl, rfl, _, rfl, ite2 (fun h2 => ?_) (fun h2 => ?_)⟩
      · exact no _ (Same.refl _) fun y => by
          have := y.sz.2
          rw [List.length_map] at h2
          simp [this] at h2
      · have h2 : (t.length : Int) ≤ z := by
          rw [List.length_map] at h2
          simpa using h2
        refine ⟨.ref a, rfl, a, t, rfl, .inr (SqT.of ha), hlen, fun H1 s1 => ?_⟩
        have ha1 := s1 _ _ ha
        refine ⟨_, rfl, ite2 (fun h3 => ?_) (fun h3 => ?_)⟩
        · refine ⟨.ref a, rfl, a, _, 0, _, rfl, rfl, SqT.of ha1, atI_head h1, _, _, rfl, rfl, _, rfl, ite2 (fun h4 => ?_) (fun h4 => ?_)⟩
          · have h4 := of_decide_eq_true h4
            obtain ⟨dx1, hp1⟩ := hP.same s1
            refine ⟨.ref a, rfl, 1, rfl, a, _, -1, _, rfl, rfl, SqT.of ha1, atI_end h1, _, rfl, p, dx1, _, rfl, hp1, ng _ _, p, g, z, rfl, ⟨dx1, hp1⟩, _, _, rfl, rfl, ?_⟩
            refine q _ H1 s1 ⟨fun e => ⟨⟨h1, h2⟩, (rises_iff t).mp h3, h4, of_decide_eq_true e⟩, fun e => decide_eq_true e.hi⟩
          · exact no H1 s1 fun y => h4 (decide_eq_true y.lo)
        · exact no H1 s1 fun y => h3 ((rises_iff t).mpr y.up)
    · refine ⟨_, rfl, iteT ?_⟩
      exact no _ (Same.refl _) fun y => h1 (decide_eq_true (by rw [List.length_map]; have := y.sz.1; omega))
theorem scIsRound : FnScope ["party", "thing", "sitting", "table", "guest"] ["party", "thing"] (defScope sIsRound) := ⟨rfl, rfl, rfl, by decide +kernel, rfl, by decide +kernel, by decide +kernel⟩
def spIsRound (C : Addr) : Sp := fun vs H Q _ => ∃ (p : Addr) (g s : Int) (x : V) (r : Rnd), vs = [.ref p, x] ∧ PartyV C H p g s ∧ IsParty g s ∧ RndV H x r ∧ r.length ≤ 100000 ∧ (∀ t ∈ r, t.length ≤ 100000) ∧ ∀ b H', Same H H' → (b = true ↔ IsRound g s r) → Q (.bl b) H'
theorem ok_isRound {f fT fR fB C : Addr} {fd fdT fdR fdB : FuncData} (F : Fun K "is_round" "is_round" sIsRound f fd) (B : Blt mg) (T : Txt K mg C) (GT : FnOk P w K mg base CX0 2 fT fdT ["party", "table"] (spIsTable C)) (FT : Fun K "is_table" "is_table" sIsTable fT fdT) (bT : Binds K fdT ["party", "table"] []) (gT : mg "is_table" = some (.ref fT))
    (FR : Fun K "rises" "rises" sRises fR fdR) (bR : Binds K fdR ["numbers"] []) (gR : mg "rises" = some (.ref fR)) (FB : Fun K "tables" "Party.tables" sTables fB fdB) (bB : Binds K fdB ["self"] []) (mB : Meth K C "tables" fB) : FnOk P w K mg base CX0 3 f fd ["party", "thing"] (spIsRound C) := by
  have GR : FnOk P w K mg base CX0 1 fR fdR ["numbers"] (spRises K) := ok_rises FR B
  have GB : FnOk P w K mg base CX0 1 fB fdB ["self"] (spTables C) := ok_tables FB T
  have nt : ∀ g s, (pf g s).lookup ("tables" : Str) = none := fun g s => pf_no _ _ (by decide +kernel) (by decide +kernel)
  refine F.ok scIsRound (fun vs H Q E h => ?_) (fun cdv A outer s H vs Q E hr h => ?_)
  · obtain ⟨p, g, s, x, r, rfl, _⟩ := h
    rfl
  · obtain ⟨p, g, z, x, r, rfl, hP, hI, ⟨a, xs, rfl, ha, hxs⟩, hlen, hlt, q⟩ := h
    have hr1 : Room 1 _ := hr.mono (by decide)
    refine ⟨_, pss_cons (ps_if (pt_cmpR op_gt (pe_callB call_len_seq (by rfl) B.len PySem.boot_len (pa_cons (pv 1) pa_nil)) (pe_meth0 (pv 0) T.cl mB GB hr1 bB .nil pass0) (nomark _)) (pss_one (ps_ret pe_bl)) pss_nil)
      (pss_cons (ps_if (pt_not (pt_val (pe_callB (cr_all rfl) (by rfl) B.all (by decide +kernel) (pa_cons
          (pe_lc (own := [("table", 3)]) (g := gName 3) (tt := tYes) (te := tCall (spIsTable C) [] E0 (tCons (tVar 0) (tCons (tVar 3) tNil))) (by rfl) scIsRound.nd (pi_tup (pv 1)) (blkOk_by (N := ["party", "thing", "sitting", "table", "guest"]) (sc := defScope sIsRound) (by decide +kernel))
            (fun _ _ _ _ _ => pg_name (i := 3) (x := "table") scIsRound.nd rfl (.inl rfl) (.inr rfl)) (fun _ _ _ _ _ => pts_nil) (fun _ _ _ _ _ => pe_call GT hr (by rfl) gT FT.kp bT .nil pass0 (pa_cons (pv 0) (pa_cons (pv 3) pa_nil)))) pa_nil)))) (pss_one (ps_ret pe_bl)) pss_nil)
      (pss_cons (ps_setLcN (i := 2) (own := [("table", 3), ("guest", 4)]) (wi := iTup K (tVar 1)) (t := tCl (gName 3) tYes [3, 4] (bMid (iTup K (tVar 3)) (tCl (gName 4) tYes [4] (bLast (tVar 4)))))
          (by rfl) scIsRound.nd rfl rfl (sw_true rfl rfl rfl (by decide +kernel)) (pi_tup (pv 1)) (blkOk_by (N := ["party", "thing", "sitting", "table", "guest"]) (sc := defScope sIsRound) (by decide +kernel))
          (fun _ _ _ _ _ => pcl_mid rfl rfl rfl rfl (by decide) (pg_name (i := 3) (x := "table") scIsRound.nd rfl (.inl rfl) (.inr rfl)) pts_nil (pi_tup (pv 3)) (by intro _; rfl) (pcl_last rfl rfl rfl rfl (pg_name (i := 4) (x := "guest") scIsRound.nd rfl (.inl rfl) (.inr rfl)) pts_nil (pv 4))))
      (pss_cons (ps_if (pt_cmpR op_lt (pe_lenSet (by rfl) B.len (by rfl) B.set (pv 2)) (pe_callB call_len_seq (by rfl) B.len PySem.boot_len (pa_cons (pv 2) pa_nil)) (nomark _)) (pss_one (ps_ret pe_bl)) pss_nil)
      (pss_one (ps_ret (pe_call GR hr1 (by rfl) gR FR.kp bR .nil pass0 (pa_cons
        (pe_lc (own := [("table", 3)]) (g := gName 3) (tt := tYes) (te := tOp (rIxT K) (tVar 3) (tC (.int 0))) (by rfl) scIsRound.nd (pi_tup (pv 1)) (blkOk_by (N := ["party", "thing", "sitting", "table", "guest"]) (sc := defScope sIsRound) (by decide +kernel))
            (fun _ _ _ _ _ => pg_name (i := 3) (x := "table") scIsRound.nd rfl (.inl rfl) (.inr rfl)) (fun _ _ _ _ _ => pts_nil) (fun _ _ _ _ _ => pe_ix ix_tup (pv 3) pe_int (fun _ _ => rfl))) pa_nil))))))), ?_⟩
    have no : ∀ H', Same H H' → ¬ IsRound g z r → Q (.bl false) H' := fun H' sm h => q false H' sm ⟨(fun e => by cases e), fun e => absurd e h⟩
    obtain ⟨dx, hp⟩ := id hP
    have hxl := paired_len hxs
    have big : (100000 : Nat) < sizeLine := by decide
    have haT : ∀ {H' : Hp}, Same H H' → SqT K H' a xs := fun sm => SqT.of (sm _ _ ha)
    -- len(thing) > party.tables()
    refine ⟨.ref a, rfl, a, _, rfl, .inr (SqT.of ha), _, rfl, p, dx, _, rfl, hp, nt _ _, p, g, z, rfl, hP, by have := hI.s2; omega, by have := hI.s8; omega, _, _, rfl, rfl, _, rfl, ite2 (fun h1 => ?_) (fun h1 => ?_)⟩
    · have h1 := of_decide_eq_true h1
      exact no _ (Same.refl _) fun y => by
        have := y.ct
        omega
    have h1 : (r.length : Int) ≤ g / z := by
      have h2 : ¬ (g / z < ((xs.length : Nat) : Int)) := fun y => h1 (decide_eq_true y)
      omega
    -- all([is_table(..)])
    refine ⟨.ref a, rfl, a, rfl, ⟨_, SqT.of ha⟩, fun D nD => ?_⟩
    have s0 : Same H (upd H D (.lst [])) := same_new nD
    refine lc_it walk_tup (fun i H2 => Same H H2 ∧ ∃ bs : List Bool, H2 D = some (.lst (bs.map V.bl)) ∧ bs.length = i ∧ (bs.all id = true ↔ ∀ t ∈ r.take i, IsTable g z t)) ⟨s0, [], upd_same, rfl, by simp⟩ (fun i H2 _ p => haT p.1) (fun i x H2 H3 hi hI2 y => ?_) (fun H2 hI2 => ?_)
    · obtain ⟨rfl, hx⟩ := y
      obtain ⟨t, ht, b, rfl, hb⟩ := paired_getL hxs hx
      obtain ⟨sm, bs, hD, hbl, hba⟩ := hI2
      refine ⟨wipe_put (by decide), yesT ?_⟩
      show tCall (spIsTable C) [] E0 _ [some (.ref p), some (.ref a), none, some (.ref b), none] _ _
      refine ⟨.ref p, rfl, .ref b, rfl, p, g, z, .ref b, t, rfl, hP.same sm, ⟨b, rfl, sm _ _ hb⟩, hlt t (List.mem_of_getElem? ht), fun c H4 s4 hc => ?_⟩
      refine ⟨_, s4 _ _ hD, by rw [List.length_map]; omega, same_put (sm.trans s4) nD, bs ++ [c], ?_, by simp [hbl], ?_⟩
      · rw [upd_same, List.map_append]
        rfl
      · rw [takeSucc ht, List.all_append]
        simp only [List.all_cons, List.all_nil, Bool.and_true, Bool.and_eq_true, id]
        rw [hba, hc]
        constructor
        · rintro ⟨u1, u2⟩ y hy
          rcases List.mem_append.mp hy with hy | hy
          · exact u1 y hy
          · rw [List.mem_singleton.mp hy]
            exact u2
        · exact fun u => ⟨fun y hy => u y (List.mem_append_left _ hy), u t (by simp)⟩
    obtain ⟨sm2, bs, hD, _, hba⟩ := hI2
    rw [hxl, List.take_of_length_le (Nat.le_refl _)] at hba
    refine ⟨D, bs, rfl, SqL.of hD, _, rfl, ite2 (fun h2 => ?_) (fun h2 => ?_)⟩
    · refine no _ sm2 fun y => ?_
      have := hba.mpr (isRound_iff.mp y).2.1
      rw [this] at h2
      cases h2
    have hall : ∀ t ∈ r, IsTable g z t := hba.mp (by simpa using h2)
    -- sitting
    refine ⟨.ref a, rfl, a, rfl, ⟨_, haT sm2⟩, fun D2 nD2 => ?_⟩
    show tCl (gName 3) tYes [3, 4] _ _ D2 [some (.ref p), some (.ref a), none, none, none] _ _
    have s3 : Same H2 (upd H2 D2 (.lst [])) := same_new nD2
    have nD20 : H D2 = none := sm2.free nD2
    have hfl : r.flatten.length ≤ 64 := by
      have e1 := sum_le (fun t ht => (hall t ht).sz.2)
      have hz : 0 < z := by have := hI.s2; omega
      have e2 : (r.length : Int) * z ≤ g / z * z := Int.mul_le_mul_of_nonneg_right h1 (by omega)
      have e3 : g / z * z ≤ g := Int.ediv_mul_le g (by omega)
      have := hI.g64
      omega
    refine cl_it walk_tup (fun i H5 => Same H H5 ∧ ∃ ms : List Int, H5 D2 = some (.lst (ms.map V.int)) ∧ ms ++ (r.drop i).flatten = r.flatten) ⟨sm2.trans s3, [], upd_same, by simp⟩ (fun i H5 _ p => haT p.1) (fun i x H5 H6 hi hI5 y => ?_) (fun H5 hI5 => ?_)
    · obtain ⟨rfl, hx⟩ := y
      obtain ⟨t, ht, b, rfl, hb⟩ := paired_getL hxs hx
      obtain ⟨sm, ms, hD2, e⟩ := hI5
      rw [dropCons ht, List.flatten_cons] at e
      refine ⟨wipe_put (by decide), yesT ?_⟩
      show bMid _ _ D2 [some (.ref p), some (.ref a), none, some (.ref b), none] _ _
      refine ⟨.ref b, rfl, b, rfl, ⟨_, SqT.of (sm _ _ hb)⟩, ?_⟩
      refine cl_it (walk_tup (xs := t.map V.int)) (fun j H7 => Same H H7 ∧ ∃ ms : List Int, H7 D2 = some (.lst (ms.map V.int)) ∧ ms ++ (t.drop j ++ (r.drop (i + 1)).flatten) = r.flatten) ⟨sm, ms, hD2, by rw [List.drop_zero]; exact e⟩ (fun j H7 _ p => SqT.of (p.1 _ _ hb)) (fun j x H7 H8 hj hJ y => ?_)
        (fun H7 hJ => ?_)
      · obtain ⟨rfl, hx⟩ := y
        obtain ⟨n, hn, rfl⟩ := getElem?_int hx
        obtain ⟨sm7, ms7, hD7, e7⟩ := hJ
        rw [dropCons hn, List.cons_append] at e7
        refine ⟨wipe_put (by decide), yesT ?_⟩
        show bLast _ D2 [some (.ref p), some (.ref a), none, some (.ref b), some (.int n)] _ _
        refine ⟨.int n, rfl, _, hD7, ?_, same_put sm7 nD20, ms7 ++ [n], ?_, ?_⟩
        · have : ms7.length ≤ r.flatten.length := by
            rw [← e7, List.length_append]
            omega
          rw [List.length_map]
          omega
        · rw [upd_same, List.map_append]
          rfl
        · rw [List.append_assoc]
          exact e7
      · obtain ⟨sm7, ms7, hD7, e7⟩ := hJ
        refine ⟨sm7, ms7, hD7, ?_⟩
        rw [List.length_map, List.drop_of_length_le (Nat.le_refl _)] at e7
        exact e7
    obtain ⟨sm5, ms, hD2, e⟩ := hI5
    rw [hxl, List.drop_of_length_le (Nat.le_refl _), List.flatten_nil, List.append_nil] at e
    subst e
    -- len(set(sitting)) < len(sitting)
    refine ⟨.ref D2, rfl, D2, r.flatten, rfl, SqL.of hD2, by omega, .ref D2, rfl, D2, _, rfl, .inl (SqL.of hD2), _, _, rfl, rfl, _, rfl, ite2 (fun h3 => ?_) (fun h3 => ?_)⟩
    · have h3 := of_decide_eq_true h3
      refine no _ sm5 fun y => ?_
      have := (metN_iff _).mpr y.nd
      rw [List.length_map] at h3
      omega
    have hnd : r.flatten.Nodup := by
      refine (metN_iff _).mp ?_
      have h4 : ¬ (((metN r.flatten : Nat) : Int) < (((r.flatten.map V.int).length : Nat) : Int)) := fun y => h3 (decide_eq_true y)
      rw [List.length_map] at h4
      have := metN_le r.flatten
      omega
    -- rises([table[0] ..])
    refine ⟨.ref a, rfl, a, rfl, ⟨_, haT sm5⟩, fun D3 nD3 => ?_⟩
    have nD30 : H D3 = none := sm5.free nD3
    refine lc_it walk_tup (fun i H6 => Same H H6 ∧ H6 D3 = some (.lst (((r.take i).map (·.headD 0)).map V.int))) ⟨sm5.trans (same_new nD3), upd_same⟩ (fun i H6 _ p => haT p.1) (fun i x H6 H7 hi hI6 y => ?_) (fun H6 hI6 => ?_)
    · obtain ⟨rfl, hx⟩ := y
      obtain ⟨t, ht, b, rfl, hb⟩ := paired_getL hxs hx
      obtain ⟨sm, hD3⟩ := hI6
      refine ⟨wipe_put (by decide), yesT ?_⟩
      show tOp _ _ _ [some (.ref p), some (.ref a), some (.ref D2), some (.ref b), none] _ _
      refine ⟨.ref b, rfl, b, _, 0, _, rfl, rfl, SqT.of (sm _ _ hb), atI_head (hall t (List.mem_of_getElem? ht)).sz.1, _, hD3, ?_, same_put sm nD30, ?_⟩
      · rw [List.length_map, List.length_map, List.length_take]
        omega
      · rw [upd_same, takeSucc ht, List.map_append, List.map_append]
        rfl
    obtain ⟨sm6, hD3⟩ := hI6
    rw [hxl, List.take_of_length_le (Nat.le_refl _)] at hD3
    refine ⟨D3, r.map (·.headD 0), rfl, .inl (SqL.of hD3), by rw [List.length_map]; exact hlen, fun H7 s7 => ?_⟩
    refine q _ H7 (sm6.trans s7) ?_
    rw [rises_iff, isRound_iff]
    exact ⟨fun y => ⟨h1, hall, hnd, y⟩, fun y => y.2.2.2⟩
end Nf

set_option Elab.async false
set_option linter.all false
set_option maxRecDepth 100000
set_option maxHeartbeats 4000000
namespace Nf
open PySem PySem.Spec PyProof.Rows L2
variable {P : Program} {w : World} {K : PySem.W.Frag} {mg : Str → Option Value} {base : Heap}
/-! ### check_plan of a plan of rounds -/
theorem scCheck : FnScope ["party", "plan", "number", "thing"] ["party", "plan"] (defScope sCheck) := ⟨rfl, rfl, rfl, by decide +kernel, rfl, by decide +kernel, by decide +kernel⟩
def spCheckOk (K : PySem.W.Frag) (C : Addr) : Sp := fun vs H Q _ => ∃ (p l : Addr) (g s : Int) (rs : List Rnd), vs = [.ref p, .ref l] ∧ PartyV C H p g s ∧ IsParty g s ∧ PlanV K H l rs ∧ Small rs ∧ (∀ r ∈ rs, IsRound g s r) ∧ ∀ H', Same H H' → Q .non H'
theorem ok_checkOk {f fI C : Addr} {fd fdI : FuncData} (F : Fun K "check_plan" "check_plan" sCheck f fd) (B : Blt mg) (GI : FnOk P w K mg base CX0 3 fI fdI ["party", "thing"] (spIsRound C)) (FI : Fun K "is_round" "is_round" sIsRound fI fdI) (bI : Binds K fdI ["party", "thing"] []) (gI : mg "is_round" = some (.ref fI)) :
    FnOk P w K mg base CX0 4 f fd ["party", "plan"] (spCheckOk K C) := by
  refine F.ok scCheck (fun vs H Q E h => ?_) (fun cdv A outer s H vs Q E hr h => ?_)
  · obtain ⟨p, l, g, s, rs, rfl, _⟩ := h
    rfl
  · obtain ⟨p, l, g, z, rs, rfl, hP, hI, ⟨xs, hl, hxs⟩, hS, hR, q⟩ := h
    refine ⟨_, pss_one (ps_for PassesOwn.never rfl (pi_enum (by rfl) B.enumerate (pa_cons (pv 1) pa_nil)) (pg_tup rfl (pgs_cons (pg_name (i := 2) scCheck.nd rfl (.inl rfl)) (pgs_cons (pg_name (i := 3) scCheck.nd rfl (.inl rfl)) pgs_nil)))
        (pss_one (ps_if (pt_not (pt_val (pe_call GI hr (by rfl) gI FI.kp bI .nil pass0 (pa_cons (pv 0) (pa_cons (pv 3) pa_nil))))) pss_never pss_nil))), ?_⟩
    have hxl := paired_len hxs
    refine ⟨.ref l, rfl, l, xs, rfl, hl, ?_⟩
    refine for_it (walk_enum (xs := xs)) (fun i σ H2 => ∃ (y3 y4 : Option V), σ = [some (.ref p), some (.ref l), y3, y4] ∧ Same H H2)
      ⟨none, none, rfl, Same.refl _⟩ (fun i σ H2 _ h => ?_) (fun i x σ H2 H3 hi hI2 y => ?_) (fun σ H2 hI2 => ?_)
    · obtain ⟨_, _, _, sm⟩ := h
      exact sm.seq hl
    · obtain ⟨y3, y4, rfl, sm⟩ := hI2
      obtain ⟨T, v1, v2, rfl, nT, rfl, g1, g2⟩ := y
      have e1 : v1 = .int ((i : Nat) : Int) := (Option.some.inj g1).symm
      subst e1
      obtain ⟨r, hr0, hrx⟩ := paired_getL hxs g2
      have hmem : r ∈ rs := List.mem_of_getElem? hr0
      have sT : Same H2 (upd H2 T (.tup [.int ((i : Nat) : Int), v2])) := same_new nT
      refine ⟨T, _, rfl, SqT.of upd_same, rfl, _, _, rfl, _, _, rfl, ⟨rfl, ?_⟩⟩
      have sm3 := sm.trans sT
      refine ⟨.ref p, rfl, v2, rfl, p, g, z, v2, r, rfl, hP.same sm3, hI, hrx.mono (same_toT sm3), hS.r r hmem, hS.t r hmem, fun b H4 s4 hb => ?_⟩
      have eb : b = true := hb.mpr (hR r hmem)
      subst eb
      exact ⟨_, rfl, iteF ⟨_, _, rfl, sm3.trans s4⟩⟩
    · obtain ⟨_, _, rfl, sm⟩ := hI2
      exact q _ sm
/-! ### the company that each guest kept -/
theorem any_key (kvs : List (Key × V)) (k : Key) : ((kvs.any fun kv => decide (kv.1 = k)) = true) ↔ k ∈ kvs.map (·.1) := by
  simp only [List.any_eq_true, decide_eq_true_eq, List.mem_map]
theorem keys_put_old {kvs : List (Key × V)} {k : Key} (v : V) (h : k ∈ kvs.map (·.1)) : (putK kvs k v).map (·.1) = kvs.map (·.1) := by
  unfold putK
  rw [if_pos ((any_key kvs k).mpr h), List.map_map]
  refine List.map_congr_left fun kv _ => ?_
  show (if kv.1 = k then (kv.1, v) else kv).1 = kv.1
  split <;> rfl
theorem keys_put_new {kvs : List (Key × V)} {k : Key} (v : V) (h : k ∉ kvs.map (·.1)) : (putK kvs k v).map (·.1) = kvs.map (·.1) ++ [k] := by
  unfold putK
  rw [if_neg (fun z => h ((any_key kvs k).mp z))]
  simp
theorem mem_inl {ks : List Int} {b : Int} : (Sum.inl b : Key) ∈ ks.map Sum.inl ↔ b ∈ ks := by
  constructor
  · intro h
    obtain ⟨x, hx, e⟩ := List.mem_map.mp h
    cases e
    exact hx
  · exact fun h => List.mem_map.mpr ⟨b, h, rfl⟩
/-- g dicts, one for each guest, of those whom it met by the pairs told so far -/
structure CompI (H0 H : Hp) (co : Addr) (ds : List Addr) (g : Nat) (qs : List (Int × Int)) : Prop where
  sm : Same H0 H
  lst : H co = some (.lst (ds.map V.ref))
  nco : H0 co = none
  len : ds.length = g
  nd : ds.Nodup
  new : ∀ d ∈ ds, H0 d = none
  dict : ∀ (c : Nat) (d : Addr), ds[c]? = some d → ∃ (kvs : List (Key × V)) (ks : List Int), H d = some (.dK kvs) ∧ kvs.map (·.1) = ks.map Sum.inl ∧ ks.Perm (metD g qs c)
  ne : ∀ p ∈ qs, p.1 ≠ p.2
theorem CompI.keep {H0 H H' : Hp} {co : Addr} {ds : List Addr} {g : Nat} {qs : List (Int × Int)} (h : CompI H0 H co ds g qs) (s : Same H H') : CompI H0 H' co ds g qs := by
  refine ⟨h.sm.trans s, s _ _ h.lst, h.nco, h.len, h.nd, h.new, fun c d e => ?_, h.ne⟩
  obtain ⟨kvs, ks, h1, h2⟩ := h.dict c d e
  exact ⟨kvs, ks, s _ _ h1, h2⟩
theorem nodup_get {ds : List Addr} (nd : ds.Nodup) {i j : Nat} {d : Addr} (h1 : ds[i]? = some d) (h2 : ds[j]? = some d) : i = j := by
  obtain ⟨l1, e1⟩ := List.getElem?_eq_some_iff.mp h1
  obtain ⟨l2, e2⟩ := List.getElem?_eq_some_iff.mp h2
  rcases Nat.lt_trichotomy i j with z | z | z
  · exact absurd (e1.trans e2.symm) (List.pairwise_iff_getElem.mp nd i j l1 l2 z)
  · exact z
  · exact absurd (e2.trans e1.symm) (List.pairwise_iff_getElem.mp nd j i l2 l1 z)
/-- company[a][b] = True -/
theorem CompI.put {H0 H : Hp} {co : Addr} {ds : List Addr} {g : Nat} {qs : List (Int × Int)} (h : CompI H0 H co ds g qs) {a b : Int} (ha : 0 ≤ a ∧ a < g) (hb : 0 ≤ b ∧ b < g) (hab : a ≠ b) (hg : g ≤ 64) :
    ∃ (d : Addr) (H' : Hp), atI (ds.map V.ref) a = some (.ref d) ∧ (∃ kvs : List (Key × V), H d = some (.dK kvs)) ∧ DPut H d (.int b) (.bl true) H' ∧ CompI H0 H' co ds g (qs ++ [(a, b)]) := by
  have hlt : a.toNat < ds.length := by
    rw [h.len]
    omega
  have hd : ds[a.toNat]? = some ds[a.toNat] := List.getElem?_eq_getElem hlt
  generalize ds[a.toNat] = d at hd
  have ea : a = ((a.toNat : Nat) : Int) := by omega
  obtain ⟨kvs, ks, h1, h2, h3⟩ := h.dict _ _ hd
  rw [← ea] at h3
  have hl : kvs.length ≤ g := by
    have e1 : kvs.length = ks.length := by
      have := congrArg List.length h2
      simpa using this
    rw [e1, h3.length_eq]
    exact metD_len _ _ _
  have big : (64 : Nat) < sizeLine := by decide
  refine ⟨d, upd H d (.dK (putK kvs (Sum.inl b) (.bl true))), ?_, ⟨kvs, h1⟩, DPut.k (k := Sum.inl b) h1 (by omega), ?_⟩
  · rw [ea]
    refine atI_nat ?_
    rw [List.getElem?_map, hd]
    rfl
  · have nd0 : H0 d = none := h.new d (List.mem_of_getElem? hd)
    have ncd : co ≠ d := ne_of h.lst h1 (by intro z; cases z)
    refine ⟨same_put h.sm nd0, (upd_ne ncd).trans h.lst, h.nco, h.len, h.nd, h.new, fun c d' e => ?_, fun p hp => ?_⟩
    · by_cases ec : c = a.toNat
      · subst ec
        rw [hd] at e
        cases e
        refine ⟨_, if b ∈ ks then ks else ks ++ [b], upd_same, ?_, ?_⟩
        · by_cases m : b ∈ ks
          · rw [keys_put_old _ (by rw [h2]; exact mem_inl.mpr m), h2, if_pos m]
          · rw [keys_put_new _ (by rw [h2]; exact fun z => m (mem_inl.mp z)), h2, if_neg m, List.map_append]
            rfl
        · rw [← ea]
          by_cases m : b ∈ ks
          · rw [if_pos m, metD_old (.inr (mem_metD.mp (h3.mem_iff.mp m)).2)]
            exact h3
          · rw [if_neg m]
            refine (h3.append_right [b]).trans (metD_new hb.1 hb.2 fun z => m (h3.mem_iff.mpr (mem_metD.mpr ⟨hb, z⟩)))
      · obtain ⟨kv2, k2, g1, g2, g3⟩ := h.dict c d' e
        have ne : d' ≠ d := fun z => ec (nodup_get h.nd e (by rw [z]; exact hd))
        refine ⟨kv2, k2, (upd_ne ne).trans g1, g2, ?_⟩
        rw [metD_old (.inl (by omega))]
        exact g3
    · rcases List.mem_append.mp hp with hp | hp
      · exact h.ne p hp
      · rw [List.mem_singleton.mp hp]
        exact hab
theorem CompI.congr {H0 H : Hp} {co : Addr} {ds : List Addr} {g : Nat} {qs qs' : List (Int × Int)} (h : CompI H0 H co ds g qs) (e : ∀ p, p ∈ qs ↔ p ∈ qs') : CompI H0 H co ds g qs' := by
  refine ⟨h.sm, h.lst, h.nco, h.len, h.nd, h.new, fun c d hd => ?_, fun p hp => h.ne p ((e p).mpr hp)⟩
  obtain ⟨kvs, ks, h1, h2, h3⟩ := h.dict c d hd
  have em : metD g qs' c = metD g qs c := List.filter_congr fun d _ => by simp only [e]
  exact ⟨kvs, ks, h1, h2, em ▸ h3⟩
theorem dirs_congr {ps qs : List (Int × Int)} (h : ∀ p, p ∈ ps ↔ p ∈ qs) : ∀ p, p ∈ dirs ps ↔ p ∈ dirs qs := fun ⟨a, b⟩ => by rw [mem_dirs, mem_dirs, h, h]
/-! ### lists of rising lists, all new -/
def NewL (H0 H : Hp) (x : V) (row : List Int) : Prop := ∃ q, x = .ref q ∧ H q = some (.lst (row.map V.int)) ∧ H0 q = none
theorem NewL.keep {H0 H H' : Hp} {x : V} {row : List Int} (h : NewL H0 H x row) (s : Same H H') : NewL H0 H' x row := by
  obtain ⟨q, e, h1, h2⟩ := h
  exact ⟨q, e, s _ _ h1, h2⟩
def rowsM (f : Int → List Int) (n : Nat) : List (List Int) := (rangeI n).map f
theorem rowsM_len (f : Int → List Int) (n : Nat) : (rowsM f n).length = n := by simp [rowsM, rangeI_len]
theorem rowsM_succ (f : Int → List Int) (n : Nat) : rowsM f (n + 1) = rowsM f n ++ [f (n : Nat)] := by
  unfold rowsM rangeI
  rw [List.range_succ, List.map_append, List.map_append]
  rfl
/-- a new list of new lists -/
def NewLL (H0 H : Hp) (q : Addr) (rows : List (List Int)) : Prop := H0 q = none ∧ ∃ xs, H q = some (.lst xs) ∧ Paired (NewL H0 H) xs rows
/-- one more row -/
theorem newLL_snoc {H0 H : Hp} {D : Addr} {acc : List V} {rows : List (List Int)} {x : V} {row : List Int} (hD : H D = some (.lst acc)) (hp : Paired (NewL H0 H) acc rows) (hx : NewL H0 H x row) (n : ∀ q, x = .ref q → q ≠ D) (m : ∀ y ∈ acc, ∀ q, y = .ref q → q ≠ D) :
    Paired (NewL H0 (upd H D (.lst (acc ++ [x])))) (acc ++ [x]) (rows ++ [row]) := by
  have go : ∀ {y r}, NewL H0 H y r → (∀ q, y = .ref q → q ≠ D) → NewL H0 (upd H D (.lst (acc ++ [x]))) y r := fun {y r} h ne => by
    obtain ⟨q, rfl, h1, h2⟩ := h
    exact ⟨q, rfl, (upd_ne (ne q rfl)).trans h1, h2⟩
  have all : ∀ {ys : List V} {rs : List (List Int)}, (∀ y ∈ ys, y ∈ acc) → Paired (NewL H0 H) ys rs → Paired (NewL H0 (upd H D (.lst (acc ++ [x])))) ys rs := fun {ys rs} hs h => by
    induction h with
    | nil => exact .nil
    | @cons y r ys rs hy t ih => exact .cons (go hy (m y (hs y (by simp)))) (ih fun y hy => hs y (by simp [hy]))
  exact paired_snoc (all (fun _ h => h) hp) (go hx n)
end Nf

set_option Elab.async false
set_option linter.all false
set_option maxRecDepth 100000
set_option maxHeartbeats 4000000
namespace Nf
open PySem PySem.Spec PyProof.Rows L2
variable {P : Program} {w : World} {K : PySem.W.Frag} {mg : Str → Option Value} {base : Heap}
/-! ### seated -/
theorem cutMid (xs : List V) (i j : Nat) : cutV xs (some ((i : Nat) : Int)) (some ((i + j : Nat) : Int)) = (xs.drop i).take j := by
  unfold cutV
  rw [HT.sIx_nat xs.length 0 i, HT.sIx_nat xs.length xs.length (i + j)]
  refine List.ext_getElem? fun k => ?_
  rw [List.getElem?_take, List.getElem?_take, List.getElem?_drop, List.getElem?_drop]
  by_cases h1 : i ≤ xs.length
  · rw [Nat.min_eq_left h1]
    by_cases h2 : k < j
    · rw [if_pos h2]
      by_cases h3 : k < min (i + j) xs.length - i
      · rw [if_pos h3]
      · rw [if_neg h3, List.getElem?_eq_none (by omega)]
    · rw [if_neg h2, if_neg (by omega)]
  · rw [Nat.min_eq_right (by omega)]
    rw [List.getElem?_eq_none (by omega), List.getElem?_eq_none (by omega)]
    simp
theorem size_chunks {n z : Nat} (hs : 1 ≤ z) : Builtin.Range.rangeSize 0 ((n * z : Nat) : Int) (z : Nat) = n := by
  unfold Builtin.Range.rangeSize
  rw [if_pos (by omega)]
  cases n with
  | zero => simp
  | succ m =>
    have e0 : (((m + 1) * z : Nat) : Int) = (z : Int) * m + z := by
      rw [Nat.add_mul, Nat.one_mul, Int.natCast_add, Int.natCast_mul, Int.mul_comm]
    have hm : (0 : Int) ≤ (z : Int) * m := Int.mul_nonneg (by omega) (by omega)
    rw [if_pos (by omega)]
    have e : (((m + 1) * z : Nat) : Int) - 0 - 1 = ((z : Int) - 1) + (z : Int) * m := by omega
    rw [e, Int.add_mul_ediv_left _ _ (by omega), Int.ediv_eq_zero_of_lt (by omega) (by omega)]
    omega
theorem rgc_chunks {n z : Nat} (hs : 1 ≤ z) (hs8 : z ≤ 1000) (hn : n * z ≤ 100000) : RgC 0 ((n * z : Nat) : Int) (z : Nat) n := by
  refine ⟨by omega, by omega, ?_, size_chunks hs⟩
  have hnn : n ≤ 100000 := Nat.le_trans (Nat.le_mul_of_pos_right n hs) hn
  unfold Builtin.Range.small
  rw [size_chunks hs]
  generalize n * z = N at *
  have hz : ((z : Nat) : Int) > 0 := by omega
  simp only [Builtin.Range.rangeFitsLong, Bool.and_eq_true, Bool.or_eq_true, decide_eq_true_eq, beq_iff_eq, hz, if_true]
  first | omega | (split <;> omega)
theorem scSeated : FnScope ["_law_guests", "_law_size", "_law_some_here", "_law_k"] ["_law_guests", "_law_size"] (defScope lSeated) := ⟨rfl, rfl, rfl, by decide +kernel, rfl, by decide +kernel, by decide +kernel⟩
def spSeated (K : PySem.W.Frag) : Sp := fun vs H Q _ => ∃ (b : Addr) (l : List Int) (s n : Nat), vs = [.ref b, .int (s : Nat)] ∧ SqL K H b (l.map V.int) ∧ 1 ≤ s ∧ s ≤ 1000 ∧ l.length = n * s ∧ n * s ≤ 100000 ∧
  ∀ x H', Same H H' → RndV H' x (seatedM l s n) → Q x H'
theorem ok_seated {f : Addr} {fd : FuncData} (F : Fun K "_law_seated" "_law_seated" lSeated f fd) (B : Blt mg) : FnOk P w K mg base CX0 1 f fd ["_law_guests", "_law_size"] (spSeated K) := by
  refine F.ok scSeated (fun vs H Q E h => ?_) (fun cdv A outer s H vs Q E hr h => ?_)
  · obtain ⟨b, l, s, n, rfl, _⟩ := h
    rfl
  · obtain ⟨b, l, z, n, rfl, hS, hz1, hz2, hl, hn, q⟩ := h
    have hll : l.length ≤ 100000 := by omega
    have big : (100000 : Nat) < sizeLine := by decide
    refine ⟨_, pss_cons (ps_setLcN (i := 2) (own := [("_law_k", 3)]) (wi := iRng3 (tCons (tC (.int 0)) (tCons (tCB (fun xs H Q => ∃ p ys, xs = [.ref p] ∧ (SqL K H p ys ∨ SqT K H p ys) ∧ Q (.int ys.length) H) (tCons (tVar 0) tNil)) (tCons (tVar 1) tNil))))
        (t := tCl (gName 3) tYes [3] (bLast (tCB (fun xs H Q => ∃ p ys, xs = [.ref p] ∧ ((SqL K H p ys ∧ ∀ l, H l = none → Q (.ref l) (upd H l (.tup ys))) ∨ (SqT K H p ys ∧ Q (.ref p) H))) (tCons (tCB (rSortD K (fun i : Int => PyData.int i)) (tCons (tSl (rSlL K) (tVar 0) (tPart (tVar 3)) (tPart (tOp (rI0 fun i j => .int (i + j)) (tVar 3) (tVar 1)))) tNil)) tNil))))
        (by rfl) scSeated.nd rfl rfl (sw_true rfl rfl rfl (by decide +kernel)) (pi_range3 (by rfl) B.range (pa_cons pe_int (pa_cons (pe_callB call_len_seq (by rfl) B.len PySem.boot_len (pa_cons (pv 0) pa_nil)) (pa_cons (pv 1) pa_nil))))
        (blkOk_by (N := ["_law_guests", "_law_size", "_law_some_here", "_law_k"]) (sc := defScope lSeated) (by decide +kernel))
        (fun _ _ _ _ _ => pcl_last rfl rfl rfl rfl (pg_name (i := 3) (x := "_law_k") scSeated.nd rfl (.inl rfl) (.inr rfl)) pts_nil (pe_callTy call_tuple_of (by rfl) B.tuple (by decide +kernel) (pa_cons (pe_callB (cr_sortD (fun i : Int => PyData.int i) hr.units) (by rfl) B.sorted (by decide +kernel)
          (pa_cons (pe_slice sl_list (pv 0) (po_some (pv 3)) (po_some (pe_op op_add (pv 3) (pv 1)))) pa_nil)) pa_nil))))
      (pss_one (ps_ret (pe_callTy call_tuple_of (by rfl) B.tuple (by decide +kernel) (pa_cons (pe_callB (cr_sortD dT hr.units) (by rfl) B.sorted (by decide +kernel) (pa_cons (pv 2) pa_nil)) pa_nil)))), ?_⟩
    refine ⟨.ref b, rfl, b, _, rfl, .inl hS, .int (z : Nat), rfl, 0, _, _, n, rfl, ?_, fun D nD => ?_⟩
    · rw [List.length_map, hl]
      exact rgc_chunks hz1 hz2 hn
    have s0 : Same H (upd H D (.lst [])) := same_new nD
    show tCl (gName 3) tYes [3] _ _ D [some (.ref b), some (.int ((z : Nat) : Int)), none, none] _ _
    refine cl_it walk_rangeC (fun i H2 => Same H H2 ∧ ∃ acc, H2 D = some (.lst acc) ∧ Paired (TabV H2) acc ((List.range i).map fun i => sortI ((l.drop (i * z)).take z))) ⟨s0, [], upd_same, .nil⟩ (fun _ _ _ _ => trivial) (fun i x H2 H3 hi hI y => ?_) (fun H2 hI => ?_)
    · obtain ⟨rfl, rfl⟩ := y
      obtain ⟨sm, acc, hD, hp⟩ := hI
      refine ⟨wipe_put (by decide), yesT ?_⟩
      show bLast _ D [some (.ref b), some (.int ((z : Nat) : Int)), none, some (.int (0 + (i : Nat) * ((z : Nat) : Int)))] _ _
      refine ⟨.ref b, rfl, .int (0 + (i : Nat) * ((z : Nat) : Int)), rfl, _, rfl, .int (0 + (i : Nat) * ((z : Nat) : Int)), rfl, .int ((z : Nat) : Int), rfl, _, _, rfl, rfl, _, rfl, b, _, rfl, sm.seq hS, fun c nc => ?_⟩
      have e1 : (0 : Int) + (i : Nat) * ((z : Nat) : Int) = ((i * z : Nat) : Int) := by
        rw [Int.natCast_mul]
        omega
      have e2 : (0 : Int) + (i : Nat) * ((z : Nat) : Int) + ((z : Nat) : Int) = ((i * z + z : Nat) : Int) := by
        rw [Int.natCast_add, Int.natCast_mul]
        omega
      have ec : cutV (l.map V.int) (some (0 + (i : Nat) * ((z : Nat) : Int))) (some (0 + (i : Nat) * ((z : Nat) : Int) + ((z : Nat) : Int))) = ((l.drop (i * z)).take z).map V.int := by
        rw [e2, e1, cutMid, List.map_take, List.map_drop]
      rw [ec]
      have s1 : Same H3 (upd H3 c (.lst (((l.drop (i * z)).take z).map V.int))) := same_new nc
      dsimp only [tNil]
      refine sort_ints (.inl (SqL.of upd_same)) fun p np => ?_
      have s2 := s1.trans (same_new (o := .lst ((sortI ((l.drop (i * z)).take z)).map V.int)) np)
      refine ⟨p, _, rfl, .inl ⟨SqL.of upd_same, fun t nt => ?_⟩⟩
      have s3 := s2.trans (same_new (o := .tup ((sortI ((l.drop (i * z)).take z)).map V.int)) nt)
      have hD3 := s3 _ _ hD
      refine ⟨acc, hD3, ?_, same_put (sm.trans s3) nD, acc ++ [.ref t], upd_same, ?_⟩
      · have := paired_len hp
        simp only [List.length_map, List.length_range] at this
        have : i ≤ n * z := Nat.le_trans (Nat.le_of_lt hi) (Nat.le_mul_of_pos_right n hz1)
        omega
      · have keepT : ∀ {v : V} {u : Tbl}, TabV _ v u → TabV (upd _ D (.lst (acc ++ [.ref t]))) v u := fun {v u} h => by
          obtain ⟨a, rfl, ha⟩ := h
          exact ⟨a, rfl, by rw [upd_ne (ne_of ha hD3 (by intro e; cases e))]; exact ha⟩
        rw [List.range_succ, List.map_append]
        exact paired_snoc (paired_mono (fun v u h => keepT (h.mono (same_toT s3))) hp) (keepT ⟨t, rfl, upd_same⟩)
    · obtain ⟨sm, acc, hD, hp⟩ := hI
      refine ⟨.ref D, rfl, ?_⟩
      dsimp only [tNil]
      refine sort_tabs (.inl (SqL.of hD)) hp (fun t ht => ?_) fun ys p np hys => ?_
      · obtain ⟨i, hi, rfl⟩ := List.mem_map.mp ht
        have hi := List.mem_range.mp hi
        intro e
        have e2 : (sortI ((l.drop (i * z)).take z)).length = 0 := by rw [e]; rfl
        rw [(sortI_perm _).length_eq, List.length_take, List.length_drop, hl] at e2
        have h3 : (i + 1) * z ≤ n * z := Nat.mul_le_mul_right z hi
        rw [Nat.add_mul, Nat.one_mul] at h3
        omega
      · have s1 : Same H2 (upd H2 p (.lst ys)) := same_new np
        refine ⟨p, _, rfl, .inl ⟨SqL.of upd_same, fun t nt => ?_⟩⟩
        have s2 := s1.trans (same_new (o := .tup ys) nt)
        exact q _ _ (sm.trans s2) ⟨t, ys, rfl, upd_same, paired_mono (fun _ _ h => h.mono (same_toT s2)) hys⟩
end Nf

set_option Elab.async false
set_option linter.all false
set_option maxRecDepth 100000
set_option maxHeartbeats 4000000
namespace Nf
open PySem PySem.Spec PyProof.Rows L2
variable {P : Program} {w : World} {K : PySem.W.Frag} {mg : Str → Option Value} {base : Heap}
/-! ### thin -/
theorem eqv_nilT (l : List Int) : PyData.eqv (.tuple (l.map .int)) (.tuple []) = l.isEmpty := by
  cases l <;> simp [PyData.eqv, PyData.eqvAll]
theorem shNilT : SeqAt.shaped (.tuple []) = true := by decide +kernel
theorem scThin : FnScope ["_law_row", "_law_tables", "_law_found", "_law_table", "_law_rest", "_law_guest"] ["_law_row", "_law_tables"] (defScope lThin) := ⟨rfl, rfl, rfl, by decide +kernel, rfl, by decide +kernel, by decide +kernel⟩
def spThin (K : PySem.W.Frag) : Sp := fun vs H Q _ => ∃ (r a : Addr) (ns : List Int) (x : V) (rd : Rnd), vs = [.ref r, x] ∧ RowAt K H r a ns ∧ RndV H x rd ∧ rd.length ≤ 100000 ∧ (∀ t ∈ rd, t.length ≤ 100000) ∧
  ∀ y H' f, RowAt K H' r a ns → Sx r H H' → RndV H' y (sortT f) → Thin rd f rd.length → Q y H'
theorem ok_thin {f fT : Addr} {fd fdT : FuncData} (F : Fun K "_law_thin" "_law_thin" lThin f fd) (B : Blt mg) (FT : Fun K "_law_taken" "_law_taken" lTaken fT fdT) (bT : Binds K fdT ["_law_row", "_law_many"] []) (gT : mg "_law_taken" = some (.ref fT)) : FnOk P w K mg base CX0 2 f fd ["_law_row", "_law_tables"] (spThin K) := by
  have GT : FnOk P w K mg base CX0 1 fT fdT ["_law_row", "_law_many"] (spTaken K) := ok_taken FT B
  refine F.ok scThin (fun vs H Q E h => ?_) (fun cdv A outer s H vs Q E hr h => ?_)
  · obtain ⟨r, a, ns, x, rd, rfl, _⟩ := h
    rfl
  · obtain ⟨r, a, ns, x, rd, rfl, hR, ⟨p, xs, rfl, hp, hxs⟩, hlen, htl, q⟩ := h
    refine ⟨_, pss_cons (ps_set (i := 2) scThin.nd rfl (.inl rfl) (pe_lst pa_nil))
      (pss_cons (ps_for PassesOwn.never rfl (pi_tup (pv 1)) (pg_name (i := 3) scThin.nd rfl (.inl rfl))
        (pss_cons (ps_set (i := 4) scThin.nd rfl (.inl rfl) (pe_callTy call_tuple_of (by rfl) B.tuple (by decide +kernel) (pa_cons
            (pe_lc (own := [("_law_guest", 5)]) (g := gName 5) (te := tVar 5) (by rfl) scThin.nd (pi_tup (pv 3)) (blkOk_by (N := ["_law_row", "_law_tables", "_law_found", "_law_table", "_law_rest", "_law_guest"]) (sc := defScope lThin) (by decide +kernel))
              (fun _ _ _ _ _ => pg_name (i := 5) (x := "_law_guest") scThin.nd rfl (.inl rfl) (.inr rfl)) (fun _ _ _ _ _ => pts_one (pt_cmpR op_gt (pe_call GT hr (by rfl) gT FT.kp bT .nil pass0 (pa_cons (pv 0) (pa_cons pe_int pa_nil))) pe_int (nomark _))) (fun _ _ _ _ _ => pv 5)) pa_nil)))
        (pss_one (ps_if (pt_cmpR (op_neD hr.units) (pv 4) (pe_tup pa_nil) (nomark _))
          (pss_one (ps_expr (pe_bm PySem.F.plainAttrs_list PySem.F.slot_list_append PySem.F.type_list_append mt_append (pv 2) (pa_cons (pv 4) pa_nil)))) pss_nil))))
      (pss_one (ps_ret (pe_callTy call_tuple_of (by rfl) B.tuple (by decide +kernel) (pa_cons (pe_callB (cr_sortD dT hr.units) (by rfl) B.sorted (by decide +kernel) (pa_cons (pv 2) pa_nil)) pa_nil))))), ?_⟩
    have hxl := paired_len hxs
    have big : (100000 : Nat) < sizeLine := by decide
    obtain ⟨xr0, hxr0⟩ := hR.lst
    refine ⟨Nat.zero_le _, fun d nd => ?_⟩
    have ndr : d ≠ r := fun e => by
      rw [e, hxr0] at nd
      cases nd
    have s0 : Same H (upd H d (.lst [])) := same_new nd
    refine ⟨.ref p, rfl, p, rfl, ⟨_, SqT.of (s0 _ _ hp)⟩, ?_⟩
    refine for_it (walk_tup (xs := xs)) (fun i σ H2 => ∃ (y3 y4 y5 : Option V), σ = [some (.ref r), some (.ref p), some (.ref d), y3, y4, y5] ∧ RowAt K H2 r a ns ∧ Sx r H H2 ∧ ∃ acc f, H2 d = some (.lst acc) ∧ Paired (TabV H2) acc f ∧ Thin rd f i)
      ⟨none, none, none, rfl, hR.keep s0, same_sx s0, [], [], upd_same, .nil, Thin.zero rd⟩ (fun i σ H2 _ h => ?_) (fun i x σ H2 H3 hi hI y => ?_) (fun σ H2 hI => ?_)
    · obtain ⟨_, _, _, _, _, sx, _⟩ := h
      exact SqT.of ((sx.toT hxr0) _ _ hp)
    · obtain ⟨y3, y4, y5, rfl, R2, sx, acc, ff, hd, hac, hth⟩ := hI
      obtain ⟨rfl, hx⟩ := y
      obtain ⟨t, ht, b, rfl, hb⟩ := paired_getL hxs hx
      have hb2 := (sx.toT hxr0) _ _ hb
      have htl2 := htl t (List.mem_of_getElem? ht)
      obtain ⟨xr3, hxr3⟩ := R2.lst
      refine ⟨.ref b, rfl, b, rfl, ⟨_, SqT.of hb2⟩, fun D nD => ?_⟩
      have nDr : D ≠ r := fun e => by
        rw [e, hxr3] at nD
        cases nD
      have s1 : Same H3 (upd H3 D (.lst [])) := same_new nD
      refine lc_it (walk_tup (xs := t.map V.int)) (fun j H5 => RowAt K H5 r a ns ∧ Sx r H3 H5 ∧ ∃ ms : List Int, H5 D = some (.lst (ms.map V.int)) ∧ ms.Sublist (t.take j)) ⟨R2.keep s1, same_sx s1, [], upd_same, by simp⟩ (fun j H5 _ p => SqT.of ((p.2.1.toT hxr3) _ _ hb2)) (fun j z H5 H6 hj hJ y => ?_) (fun H5 hJ => ?_)
      · obtain ⟨R5, s5, ms, hD5, hsub⟩ := hJ
        obtain ⟨rfl, hz⟩ := y
        obtain ⟨n, hn, rfl⟩ := getElem?_int hz
        refine ⟨wipe_put (by decide), ?_⟩
        refine ⟨.ref r, rfl, r, a, ns, 4, rfl, R5, by decide, by decide, fun v H7 v0 v1 R7 s7 => ⟨v, 0, rfl, rfl, _, rfl, ?_⟩⟩
        have hD7 := s7 _ _ nDr hD5
        have hsl := hsub.length_le
        rw [List.length_take] at hsl
        refine ite2 (fun _ => ?_) (fun _ => ?_)
        · refine ⟨.int n, rfl, _, hD7, by rw [List.length_map]; omega, row_put (R2.keep (Same.refl _)) nD R7, sx_put (s5.trans s7) nD, ms ++ [n], ?_, ?_⟩
          · rw [upd_same, List.map_append]
            rfl
          · rw [takeSucc hn]
            exact hsub.append (List.Sublist.refl _)
        · refine ⟨R7, s5.trans s7, ms, hD7, ?_⟩
          rw [takeSucc hn]
          exact hsub.trans (List.sublist_append_left _ _)
      · obtain ⟨R5, s5, ms, hD5, hsub⟩ := hJ
        rw [List.length_map, List.take_of_length_le (Nat.le_refl _)] at hsub
        refine ⟨D, _, rfl, .inl ⟨SqL.of hD5, fun u nu => ?_⟩⟩
        have s6 : Same H5 (upd H5 u (.tup (ms.map V.int))) := same_new nu
        have hd3 : H3 d = some (.lst acc) := hd
        have hd6 := s6 _ _ (s5 _ _ ndr hd3)
        have hT36 : SameT H3 (upd H5 u (.tup (ms.map V.int))) := (s5.toT hxr3).trans (same_toT s6)
        have sx6 := (sx.trans s5).trans (same_sx s6)
        have R6 := R5.keep s6
        refine ⟨.ref u, rfl, Nat.zero_le _, fun e ne => ?_⟩
        have s7 : Same (upd H5 u (.tup (ms.map V.int))) (upd (upd H5 u (.tup (ms.map V.int))) e (.tup [])) := same_new ne
        have hu7 := s7 _ _ (upd_same : (upd H5 u (.tup (ms.map V.int))) u = _)
        refine ⟨.tuple (ms.map .int), .tuple [], .tup (SqT.of hu7) (dpAll_ints ms), .tup (SqT.of upd_same) .nil, shIntsT ms, shNilT, _, rfl, ?_⟩
        rw [eqv_nilT]
        have hT37 := hT36.trans (same_toT s7)
        cases ms with
        | nil =>
          refine iteF ?_
          exact ⟨_, _, _, rfl, R6.keep s7, sx6.trans (same_sx s7), acc, ff, s7 _ _ hd6, paired_mono (fun _ _ h => h.mono hT37) hac, hth.skip⟩
        | cons m0 ms =>
          refine iteT ?_
          have hd7 := s7 _ _ hd6
          refine ⟨.ref d, rfl, .inl ⟨rfl, _, SqL.of hd7⟩, .ref u, rfl, d, acc, _, rfl, rfl, hd7, ?_, ⟨_, _, _, rfl, row_put hR nd (R6.keep s7), sx_put (sx6.trans (same_sx s7)) nd, acc ++ [.ref u], ff ++ [m0 :: ms], upd_same, ?_, hth.add ht hsub (by simp)⟩⟩
          · have := paired_len hac
            have := hth.ct
            omega
          · have keepT : ∀ {v : V} {t : Tbl}, TabV (upd (upd H5 u (.tup ((m0 :: ms).map V.int))) e (.tup [])) v t → TabV (upd (upd (upd H5 u (.tup ((m0 :: ms).map V.int))) e (.tup [])) d (.lst (acc ++ [.ref u]))) v t := fun {v t} h => by
              obtain ⟨a2, rfl, ha2⟩ := h
              exact ⟨a2, rfl, by rw [upd_ne (ne_of ha2 hd7 (by intro z; cases z))]; exact ha2⟩
            exact paired_snoc (paired_mono (fun v t h => keepT (h.mono hT37)) hac) (keepT ⟨u, rfl, hu7⟩)
    · obtain ⟨y3, y4, y5, rfl, R2, sx, acc, ff, hd, hac, hth⟩ := hI
      rw [hxl] at hth
      refine ⟨.ref d, rfl, ?_⟩
      dsimp only [tNil]
      refine sort_tabs (.inl (SqL.of hd)) hac (fun t ht => (hth.each t ht).1) fun ys u nu hys => ?_
      have s1 : Same H2 (upd H2 u (.lst ys)) := same_new nu
      refine ⟨u, _, rfl, .inl ⟨SqL.of upd_same, fun t nt => ?_⟩⟩
      have s2 := s1.trans (same_new (o := .tup ys) nt)
      exact q _ _ ff (R2.keep s2) (sx.trans (same_sx s2)) ⟨t, ys, rfl, upd_same, paired_mono (fun _ _ h => h.mono (same_toT s2)) hys⟩ hth
end Nf

set_option Elab.async false
set_option linter.all false
set_option maxRecDepth 100000
set_option maxHeartbeats 4000000
namespace Nf
open PySem PySem.Spec PyProof.Rows L2
variable {P : Program} {w : World} {K : PySem.W.Frag} {mg : Str → Option Value} {base : Heap}
/-! ### plan -/
theorem party_nat {g s : Int} (h : IsParty g s) : ∃ n z : Nat, s = ((z : Nat) : Int) ∧ g = ((n * z : Nat) : Int) ∧ 1 ≤ z ∧ z ≤ 8 ∧ n * z ≤ 64 := by
  have h1 := h.s2
  have h2 := h.s8
  have h3 := h.g2
  have h4 := h.g64
  refine ⟨(g / s).toNat, s.toNat, by omega, ?_, by omega, by omega, ?_⟩
  · rw [Int.natCast_mul, Int.toNat_of_nonneg (Int.ediv_nonneg (by omega) (by omega)), Int.toNat_of_nonneg (by omega)]
    exact (Int.ediv_mul_cancel (Int.dvd_of_emod_eq_zero h.dv)).symm
  · have e : (((g / s).toNat * s.toNat : Nat) : Int) = g := by
      rw [Int.natCast_mul, Int.toNat_of_nonneg (Int.ediv_nonneg (by omega) (by omega)), Int.toNat_of_nonneg (by omega)]
      exact Int.ediv_mul_cancel (Int.dvd_of_emod_eq_zero h.dv)
    omega
theorem rgV_range (g : Nat) : rgV 0 ((g : Nat) : Int) = (rangeI g).map V.int := by
  unfold rgV rangeI
  rw [List.map_map]
  have e : (((g : Nat) : Int) - 0).toNat = g := by omega
  rw [e]
  refine List.map_congr_left fun i _ => ?_
  show V.int (0 + (i : Nat)) = V.int ((i : Nat) : Int)
  rw [Int.zero_add]
/-- a drawn full round: of the guests in an order -/
theorem drawn_round {g s : Int} (h : IsParty g s) {n z : Nat} (ez : s = ((z : Nat) : Int)) (eg : g = ((n * z : Nat) : Int)) (hz : 1 ≤ z) {l : List Int} (hp : l.Perm (rangeI (n * z))) : IsRound g s (seatedM l z n) := by
  rw [eg, ez]
  exact seated_round hp hz
theorem scPlan : FnScope ["_law_row", "_law_guests", "_law_size", "_law_most", "_law_found", "_law_k", "_law_turn", "_law_tables"] ["_law_row", "_law_guests", "_law_size", "_law_most"] (defScope lPlan) := ⟨rfl, rfl, rfl, by decide +kernel, rfl, by decide +kernel, by decide +kernel⟩
def PlanM (H : Hp) (l : Addr) (rs : List Rnd) : Prop := ∃ xs, H l = some (.lst xs) ∧ Paired (RndV H) xs rs
def spPlan (K : PySem.W.Frag) : Sp := fun vs H Q _ => ∃ (r a : Addr) (ns : List Int) (g s m : Int), vs = [.ref r, .int g, .int s, .int m] ∧ RowAt K H r a ns ∧ IsParty g s ∧ 0 ≤ m ∧ m ≤ 100 ∧
  ∀ l H' rs, RowAt K H' r a ns → Sx r H H' → H l = none → PlanM H' l rs → GoodP g s rs → (rs.length : Int) ≤ m → Q (.ref l) H'
theorem good_small {g s : Int} (hI : IsParty g s) {r : Rnd} (h : IsRound g s r) : (pairsR r).length ≤ 4096 ∧ r.length ≤ 100000 ∧ ∀ t ∈ r, t.length ≤ 100000 := by
  have h1 := hI.s2
  have h2 := hI.s8
  refine ⟨h.pairs_le (by omega) hI.g64, ?_, fun t ht => ?_⟩
  · have e : g / s ≤ g := Int.ediv_le_self _ (by have := hI.g2; omega)
    have := h.ct
    have := hI.g64
    omega
  · have := (h.sz t ht).2
    omega
theorem ok_plan {f fT fM fS fH fN fP fK : Addr} {fd fdT fdM fdS fdH fdN fdP fdK : FuncData} (F : Fun K "_law_plan" "_law_plan" lPlan f fd) (B : Blt mg) (FT : Fun K "_law_taken" "_law_taken" lTaken fT fdT) (bT : Binds K fdT ["_law_row", "_law_many"] []) (gT : mg "_law_taken" = some (.ref fT))
    (FM : Fun K "_law_mixed" "_law_mixed" lMixed fM fdM) (bM : Binds K fdM ["_law_row", "_law_some_here"] []) (gM : mg "_law_mixed" = some (.ref fM)) (FS : Fun K "_law_seated" "_law_seated" lSeated fS fdS) (bS : Binds K fdS ["_law_guests", "_law_size"] []) (gS : mg "_law_seated" = some (.ref fS))
    (FH : Fun K "_law_thin" "_law_thin" lThin fH fdH) (bH : Binds K fdH ["_law_row", "_law_tables"] []) (gH : mg "_law_thin" = some (.ref fH)) (FN : Fun K "_law_new" "_law_new" lNew fN fdN) (bN : Binds K fdN ["_law_tables", "_law_plan_here"] []) (gN : mg "_law_new" = some (.ref fN))
    (FP : Fun K "_law_pairs" "_law_pairs" lPairs fP fdP) (bP : Binds K fdP ["_law_tables"] []) (gP : mg "_law_pairs" = some (.ref fP)) (FK : Fun K "_law_known" "_law_known" lKnown fK fdK) (bK : Binds K fdK ["_law_plan_here"] []) (gK : mg "_law_known" = some (.ref fK)) :
    FnOk P w K mg base CX0 4 f fd ["_law_row", "_law_guests", "_law_size", "_law_most"] (spPlan K) := by
  have GT : FnOk P w K mg base CX0 1 fT fdT ["_law_row", "_law_many"] (spTaken K) := ok_taken FT B
  have GM : FnOk P w K mg base CX0 2 fM fdM ["_law_row", "_law_some_here"] (spMixed K) := ok_mixed FM B FT bT gT
  have GS : FnOk P w K mg base CX0 1 fS fdS ["_law_guests", "_law_size"] (spSeated K) := ok_seated FS B
  have GH : FnOk P w K mg base CX0 2 fH fdH ["_law_row", "_law_tables"] (spThin K) := ok_thin FH B FT bT gT
  have GN : FnOk P w K mg base CX0 3 fN fdN ["_law_tables", "_law_plan_here"] (spLNew K) := ok_lnew FN B FP bP gP FK bK gK
  refine F.ok scPlan (fun vs H Q E h => ?_) (fun cdv A outer s H vs Q E hr h => ?_)
  · obtain ⟨r, a, ns, g, s, m, rfl, _⟩ := h
    rfl
  · obtain ⟨r, a, ns, g, z, m, rfl, hR, hI, hm0, hm1, q⟩ := h
    have hr1 : Room 1 _ := hr.mono (by decide)
    have hr2 : Room 2 _ := hr.mono (by decide)
    refine ⟨_, pss_cons (ps_set (i := 4) scPlan.nd rfl (.inl rfl) (pe_lst pa_nil))
      (pss_cons (ps_for PassesOwn.never rfl (pi_range1 (by rfl) B.range (pa_cons (pe_call GT hr1 (by rfl) gT FT.kp bT .nil pass0 (pa_cons (pv 0) (pa_cons (pe_op op_add (pv 3) pe_int) pa_nil))) pa_nil)) (pg_name (i := 5) scPlan.nd rfl (.inl rfl))
        (pss_cons (ps_for PassesOwn.never rfl (pi_range1 (by rfl) B.range (pa_cons pe_int pa_nil)) (pg_name (i := 6) scPlan.nd rfl (.inl rfl))
          (pss_cons (ps_set (i := 7) scPlan.nd rfl (.inl rfl) (pe_call GS hr1 (by rfl) gS FS.kp bS .nil pass0 (pa_cons (pe_call GM hr2 (by rfl) gM FM.kp bM .nil pass0 (pa_cons (pv 0) (pa_cons (pe_listRg rfl (by rfl) B.list (prg_1 (by rfl) B.range (pv 1))) pa_nil))) (pa_cons (pv 2) pa_nil))))
          (pss_cons (ps_if (pt_cmpR op_eq (pe_call GT hr1 (by rfl) gT FT.kp bT .nil pass0 (pa_cons (pv 0) (pa_cons pe_int pa_nil))) pe_int (nomark _))
            (pss_one (ps_set (i := 7) scPlan.nd rfl (.inl rfl) (pe_call GH hr2 (by rfl) gH FH.kp bH .nil pass0 (pa_cons (pv 0) (pa_cons (pv 7) pa_nil))))) pss_nil)
          (pss_one (ps_if (PW.pt (pw_and (pt_cmpR op_eq (pe_callB call_len_seq (by rfl) B.len PySem.boot_len (pa_cons (pv 4) pa_nil)) (pv 5) (nomark _)) (pw_and1 (pt_val (pe_call GN hr (by rfl) gN FN.kp bN .nil pass0 (pa_cons (pv 7) (pa_cons (pv 4) pa_nil)))))))
            (pss_one (ps_expr (pe_bm PySem.F.plainAttrs_list PySem.F.slot_list_append PySem.F.type_list_append mt_append (pv 4) (pa_cons (pv 7) pa_nil)))) pss_nil)))))
        (pss_one (ps_if (pt_cmpR op_eq (pe_callB call_len_seq (by rfl) B.len PySem.boot_len (pa_cons (pv 4) pa_nil)) (pv 5) (nomark _)) (pss_one (ps_ret (pv 4))) pss_nil))))
      (pss_one (ps_ret (pv 4)))), ?_⟩
    have big : (100000 : Nat) < sizeLine := by decide
    obtain ⟨xr0, hxr0⟩ := hR.lst
    obtain ⟨n, zn, ez, eg, hz1, hz8, hn64⟩ := party_nat hI
    refine ⟨Nat.zero_le _, fun l nl => ?_⟩
    have nlr : l ≠ r := fun e => by
      rw [e, hxr0] at nl
      cases nl
    have s0 : Same H (upd H l (.lst [])) := same_new nl
    refine ⟨.ref r, rfl, .int m, rfl, m, 1, rfl, rfl, r, a, ns, m + 1, rfl, hR.keep s0, by omega, by omega, fun v H1 v0 v1 R1 s1 => ?_⟩
    refine ⟨v, rfl, by omega, by omega, ?_⟩
    -- what holds of the list so far
    let Inv0 : Hp → Nat → Nat → Prop := fun H2 lo hi => RowAt K H2 r a ns ∧ Sx r H H2 ∧ ∃ rs : List Rnd, PlanM H2 l rs ∧ GoodP g z rs ∧ lo ≤ rs.length ∧ rs.length ≤ hi
    refine for_it walk_range (fun k σ H2 => ∃ (y5 y6 y7 : Option V), σ = [some (.ref r), some (.int g), some (.int z), some (.int m), some (.ref l), y5, y6, y7] ∧ Inv0 H2 k k)
      ⟨none, none, none, rfl, R1, (same_sx s0).trans s1, [], ⟨[], s1 _ _ nlr upd_same, .nil⟩, GoodP.nil, Nat.le_refl _, Nat.le_refl _⟩ (fun _ _ _ _ _ => trivial) (fun k x σ H2 H3 hk hI2 y => ?_) (fun σ H2 hI2 => ?_)
    · obtain ⟨y5, y6, y7, rfl, hI2⟩ := hI2
      obtain ⟨rfl, rfl⟩ := y
      refine ⟨6, rfl, by decide, by decide, ?_⟩
      refine for_it walk_range (fun j σ H4 => ∃ (y6 y7 : Option V), σ = [some (.ref r), some (.int g), some (.int z), some (.int m), some (.ref l), some (.int (0 + (k : Nat))), y6, y7] ∧ Inv0 H4 k (k + 1))
        ⟨y6, y7, rfl, hI2.1, hI2.2.1, hI2.2.2.imp fun rs h => ⟨h.1, h.2.1, h.2.2.1, Nat.le_succ_of_le h.2.2.2⟩⟩ (fun _ _ _ _ _ => trivial) (fun j x σ H4 H5 hj hJ y => ?_) (fun σ H4 hJ => ?_)
      · obtain ⟨y6, y7, rfl, R4, sx4, rs, ⟨xs, hl4, hxs⟩, hG, hlo, hhi⟩ := hJ
        obtain ⟨rfl, rfl⟩ := y
        -- seated(mixed(row, list(range(guests))), size)
        refine ⟨.ref r, rfl, .int g, rfl, g, rfl, ?_, fun b nb => ?_⟩
        · exact RgOk.of_le (by decide) (by have := hI.g64; omega) (by decide) (by have := hI.g2; omega)
        have er : rgV 0 g = (rangeI (n * zn)).map V.int := by
          rw [eg]
          exact rgV_range _
        rw [er]
        have s5 : Same H5 (upd H5 b (.lst ((rangeI (n * zn)).map V.int))) := same_new nb
        refine ⟨r, a, b, ns, rangeI (n * zn), rfl, R4.keep s5, SqL.of upd_same, by rw [rangeI_len]; omega, fun c H6 l' R6 s6 nc hc hp => ?_⟩
        refine ⟨.int z, rfl, c, l', zn, n, by rw [ez]; rfl, SqL.of hc, hz1, by omega, by rw [hp.length_eq, rangeI_len], by omega, fun x H7 s7 hx => ?_⟩
        have hRd : IsRound g z (seatedM l' zn n) := drawn_round hI ez eg hz1 hp
        have R7 := R6.keep s7
        obtain ⟨xr5, hxr5⟩ := R4.lst
        have T6 : SameT H5 H6 := (same_toT s5).trans (s6.toT (s5 _ _ hxr5))
        have T7 : SameT H5 H7 := T6.trans (same_toT s7)
        have sx7 : Sx r H H7 := ((sx4.trans (same_sx s5)).trans s6).trans (same_sx s7)
        have hl7 : H7 l = some (.lst xs) := s7 _ _ (s6 _ _ nlr (s5 _ _ hl4))
        have hxs7 : Paired (RndV H7) xs rs := paired_mono (fun _ _ h => h.mono T7) hxs
        -- one turn's end, the round known
        have fin : ∀ (y : V) (rd : Rnd) (H8 : Hp), RowAt K H8 r a ns → Sx r H H8 → RndV H8 y rd → IsRound g z rd → H8 l = some (.lst xs) → Paired (RndV H8) xs rs →
            tIfS (tAnd (tTest (tOp rEq (tCB (fun xs H Q => ∃ p ys, xs = [V.ref p] ∧ (SqL K H p ys ∨ SqT K H p ys) ∧ Q (V.int ys.length) H) (tCons (tVar 4) tNil)) (tVar 5))) (tB (tCall (spLNew K) [] E0 (tCons (tVar 7) (tCons (tVar 4) tNil)))))
              (tDrop (tBM K "list" rAppend (tVar 4) (tCons (tVar 7) tNil))) tNext
              { nx := fun σ H4 => ∃ (y6 y7 : Option V), σ = [some (.ref r), some (.int g), some (.int z), some (.int m), some (.ref l), some (.int (0 + (k : Nat))), y6, y7] ∧ Inv0 H4 k (k + 1), rt := Q }
              [some (.ref r), some (.int g), some (.int z), some (.int m), some (.ref l), some (.int (0 + (k : Nat))), some (.int (0 + (j : Nat))), some y] H8 := fun y rd H8 R8 sx8 hy hrd hl8 hxs8 => by
          have hxl := paired_len hxs8
          obtain ⟨hp1, hp2, hp3⟩ := good_small hI hrd
          refine ⟨.ref l, rfl, l, xs, rfl, .inl (SqL.of hl8), .int (0 + (k : Nat)), rfl, rfl, _, rfl, ite2 (fun hc1 => ?_) (fun hc1 => ?_)⟩
          · have hk1 : xs.length = k := by
              have := V.int.inj (of_decide_eq_true hc1)
              omega
            refine ⟨y, rfl, .ref l, rfl, y, l, rd, rs, rfl, hy, by omega, hp3, ⟨xs, SqL.of hl8, hxs8⟩, by omega, fun q hq => ?_, fun b H9 s9 hb => ⟨_, rfl, ite2 (fun hc2 => ?_) (fun hc2 => ?_)⟩⟩
            · obtain ⟨h1, _, h3⟩ := good_small hI (hG.rd q hq)
              exact ⟨h1, h3⟩
            · have hnew := hb.mp hc2
              have hl9 := s9 _ _ hl8
              refine ⟨.ref l, rfl, .inl ⟨rfl, _, SqL.of hl9⟩, y, rfl, l, xs, y, rfl, rfl, hl9, by omega, ⟨_, _, rfl, row_put hR nl (R8.keep s9), sx_put (sx8.trans (same_sx s9)) nl, rs ++ [rd], ⟨xs ++ [y], upd_same, ?_⟩, hG.snoc hrd (fun p hp q hq hm => hnew p hp (List.mem_flatMap.mpr ⟨q, hq, hm⟩)), by rw [List.length_append, List.length_singleton]; omega, by rw [List.length_append, List.length_singleton]; omega⟩⟩
              have keepT : SameT H8 (upd H9 l (.lst (xs ++ [y]))) := fun a2 ys e2 => by
                have e3 := s9 _ _ e2
                rw [upd_ne (ne_of e3 hl9 (by intro z; cases z))]
                exact e3
              exact paired_snoc (paired_mono (fun _ _ h => h.mono keepT) hxs8) (hy.mono keepT)
            · exact ⟨_, _, rfl, R8.keep s9, sx8.trans (same_sx s9), rs, ⟨xs, s9 _ _ hl8, paired_mono (fun _ _ h => h.mono (same_toT s9)) hxs8⟩, hG, hlo, hhi⟩
          · exact ⟨_, _, rfl, R8, sx8, rs, ⟨xs, hl8, hxs8⟩, hG, hlo, hhi⟩
        -- if taken(row, 4) == 3
        refine ⟨.ref r, rfl, r, a, ns, 4, rfl, R7, by decide, by decide, fun u H8 u0 u1 R8 s8 => ⟨rfl, _, rfl, ite2 (fun hc => ?_) (fun hc => ?_)⟩⟩
        · obtain ⟨xr7, hxr7⟩ := R7.lst
          obtain ⟨hp1, hp2, hp3⟩ := good_small hI hRd
          have T8 := s8.toT hxr7
          refine ⟨.ref r, rfl, x, rfl, r, a, ns, x, _, rfl, R8, hx.mono T8, hp2, hp3, fun y H9 ff R9 s9 hy hth => ?_⟩
          obtain ⟨xr8, hxr8⟩ := R8.lst
          have T9 := T8.trans (s9.toT hxr8)
          exact fin y _ H9 R9 ((sx7.trans s8).trans s9) hy (hth.round hRd) (s9 _ _ nlr (s8 _ _ nlr hl7)) (paired_mono (fun _ _ h => h.mono T9) hxs7)
        · obtain ⟨xr7, hxr7⟩ := R7.lst
          have T8 := s8.toT hxr7
          exact fin x _ H8 R8 (sx7.trans s8) (hx.mono T8) hRd (s8 _ _ nlr hl7) (paired_mono (fun _ _ h => h.mono T8) hxs7)
      · obtain ⟨y6, y7, rfl, R4, sx4, rs, ⟨xs, hl4, hxs⟩, hG, hlo, hhi⟩ := hJ
        have hxl := paired_len hxs
        refine ⟨.ref l, rfl, l, xs, rfl, .inl (SqL.of hl4), .int (0 + (k : Nat)), rfl, rfl, _, rfl, ite2 (fun hc => ?_) (fun hc => ?_)⟩
        · exact ⟨.ref l, rfl, q l H4 rs R4 sx4 nl ⟨xs, hl4, hxs⟩ hG (by omega)⟩
        · have hk1 : xs.length ≠ k := fun e => hc (decide_eq_true (congrArg V.int (by omega)))
          exact ⟨_, _, _, rfl, R4, sx4, rs, ⟨xs, hl4, hxs⟩, hG, by omega, by omega⟩
    · obtain ⟨y5, y6, y7, rfl, R2, sx, rs, hP, hG, _, hhi⟩ := hI2
      exact ⟨.ref l, rfl, q l H2 rs R2 sx nl hP hG (by omega)⟩
end Nf

set_option Elab.async false
set_option linter.all false
set_option maxRecDepth 100000
set_option maxHeartbeats 4000000
namespace Nf
open PySem PySem.Spec PyProof.Rows L2
variable {P : Program} {w : World} {K : PySem.W.Frag} {mg : Str → Option Value} {base : Heap}
/-! ### what all laws share -/
structure Has (P : Program) (w : World) (K : PySem.W.Frag) (mg : Str → Option Value) (base : Heap) (n : Nat) (x : Str) (f : Addr) (fd : FuncData) (ps : List Str) (sp : Sp) : Prop where
  ok : FnOk P w K mg base CX0 n f fd ps sp
  kp : PySem.W.keepIn K (.ref f) = true
  b : Binds K fd ps []
  g : mg x = some (.ref f)
theorem paired_set {α β : Type} {R : α → β → Prop} {x : α} {y : β} : ∀ {xs : List α} {ys : List β} (i : Nat), Paired R xs ys → R x y → Paired R (xs.set i x) (ys.set i y)
  | _, _, _, .nil, _ => .nil
  | _, _, 0, .cons _ t, h => .cons h t
  | _, _, i + 1, .cons r t, h => .cons r (paired_set i t h)
theorem paired_ins {α β : Type} {R : α → β → Prop} {x : α} {y : β} : ∀ {xs : List α} {ys : List β} (i : Nat), Paired R xs ys → R x y → Paired R (xs.take i ++ [x] ++ xs.drop i) (ys.take i ++ [y] ++ ys.drop i)
  | _, _, i, .nil, h => by simpa using Paired.cons h .nil
  | _, _, 0, .cons r t, h => .cons h (.cons r t)
  | _, _, i + 1, .cons r t, h => .cons r (paired_ins i t h)
/-- what stands in one turn of the law: the row, the party, the plan so far -/
structure LawI (K : PySem.W.Frag) (C : Addr) (H : Hp) (r a p dx l : Addr) (ns : List Int) (g z : Int) (rs : List Rnd) (m n L : Nat) : Prop where
  row : RowAt K H r a ns
  pa : H p = some (.ins C dx (pf g z))
  pl : ∃ xs, H l = some (.lst xs) ∧ Paired (RndV H) xs rs
  nlr : l ≠ r
  cnt : rs.length ≤ m
  bd : ∀ rd ∈ rs, rd.length ≤ n ∧ ∀ t ∈ rd, t.length ≤ L
  put : ∀ (H' : Hp) (o : HO), RowAt K H' r a ns → RowAt K (upd H' l o) r a ns
section
variable {C : Addr} {H H' : Hp} {r a p dx l : Addr} {ns : List Int} {g z : Int} {rs : List Rnd} {m n L : Nat}
theorem LawI.keep (h : LawI K C H r a p dx l ns g z rs m n L) (R : RowAt K H' r a ns) (s : Sx r H H') : LawI K C H' r a p dx l ns g z rs m n L := by
  obtain ⟨xr, hxr⟩ := h.row.lst
  obtain ⟨xs, hl, hp⟩ := h.pl
  exact ⟨R, s _ _ (ne_of h.pa hxr (by intro e; cases e)) h.pa, ⟨xs, s _ _ h.nlr hl, paired_mono (fun _ _ z => z.mono (s.toT hxr)) hp⟩, h.nlr, h.cnt, h.bd, h.put⟩
theorem LawI.same (h : LawI K C H r a p dx l ns g z rs m n L) (s : Same H H') : LawI K C H' r a p dx l ns g z rs m n L := h.keep (h.row.keep s) (same_sx s)
theorem LawI.toT (h : LawI K C H r a p dx l ns g z rs m n L) (s : Sx r H H') : SameT H H' := by
  obtain ⟨xr, hxr⟩ := h.row.lst
  exact s.toT hxr
theorem LawI.putL (h : LawI K C H r a p dx l ns g z rs m n L) {ys : List V} {qs : List Rnd} {m' n' L' : Nat} (hq : Paired (RndV H) ys qs) (hm : qs.length ≤ m') (hb : ∀ rd ∈ qs, rd.length ≤ n' ∧ ∀ t ∈ rd, t.length ≤ L') : LawI K C (upd H l (.lst ys)) r a p dx l ns g z qs m' n' L' := by
  obtain ⟨xs, hl, hp⟩ := h.pl
  have T : SameT H (upd H l (.lst ys)) := fun a2 us e2 => by
    rw [upd_ne (ne_of e2 hl (by intro z; cases z))]
    exact e2
  refine ⟨h.put _ _ h.row, ?_, ⟨ys, upd_same, paired_mono (fun _ _ z => z.mono T) hq⟩, h.nlr, hm, hb, h.put⟩
  rw [upd_ne (ne_of h.pa hl (by intro e; cases e))]
  exact h.pa
theorem LawI.wide (h : LawI K C H r a p dx l ns g z rs m n L) {m' n' L' : Nat} (e1 : m ≤ m') (e2 : n ≤ n') (e3 : L ≤ L') : LawI K C H r a p dx l ns g z rs m' n' L' :=
  ⟨h.row, h.pa, h.pl, h.nlr, Nat.le_trans h.cnt e1, fun rd hr => ⟨Nat.le_trans (h.bd rd hr).1 e2, fun t ht => Nat.le_trans ((h.bd rd hr).2 t ht) e3⟩, h.put⟩
end
theorem round_bd {g z : Int} (hI : IsParty g z) {rd : Rnd} (h : IsRound g z rd) : rd.length ≤ 32 ∧ ∀ t ∈ rd, t.length ≤ 8 := by
  have h2 := hI.s2
  have h8 := hI.s8
  have h64 := hI.g64
  refine ⟨?_, fun t ht => ?_⟩
  · have e : g / z * z ≤ g := Int.ediv_mul_le g (by omega)
    have e2 : g / z ≤ 32 := by
      refine Int.le_of_lt_add_one ((Int.ediv_lt_iff_lt_mul (by omega)).mpr ?_)
      omega
    have := h.ct
    omega
  · have := (h.sz t ht).2
    omega
theorem four_le : 4 ≤ sizeLine := by decide
end Nf

set_option Elab.async false
set_option linter.all false
set_option maxRecDepth 100000
set_option maxHeartbeats 4000000
namespace Nf
open PySem PySem.Spec PyProof.Rows L2
variable {P : Program} {w : World} {K : PySem.W.Frag} {mg : Str → Option Value} {base : Heap}
/-- what stands in one turn: the row, the plan so far -/
structure LawP (K : PySem.W.Frag) (H : Hp) (r a l : Addr) (ns : List Int) (g z : Int) (rs : List Rnd) (m : Nat) : Prop where
  row : RowAt K H r a ns
  pl : ∃ xs, H l = some (.lst xs) ∧ Paired (RndV H) xs rs
  nlr : l ≠ r
  cnt : rs.length ≤ m
  rd : ∀ rd ∈ rs, IsRound g z rd
  put : ∀ (H' : Hp) (o : HO), RowAt K H' r a ns → RowAt K (upd H' l o) r a ns
section
variable {H H' : Hp} {r a l : Addr} {ns : List Int} {g z : Int} {rs : List Rnd} {m : Nat}
theorem LawP.toT (h : LawP K H r a l ns g z rs m) (s : Sx r H H') : SameT H H' := by
  obtain ⟨xr, hxr⟩ := h.row.lst
  exact s.toT hxr
theorem LawP.keep (h : LawP K H r a l ns g z rs m) (R : RowAt K H' r a ns) (s : Sx r H H') : LawP K H' r a l ns g z rs m := by
  obtain ⟨xs, hl, hp⟩ := h.pl
  exact ⟨R, ⟨xs, s _ _ h.nlr hl, paired_mono (fun _ _ z => z.mono (h.toT s)) hp⟩, h.nlr, h.cnt, h.rd, h.put⟩
theorem LawP.same (h : LawP K H r a l ns g z rs m) (s : Same H H') : LawP K H' r a l ns g z rs m := h.keep (h.row.keep s) (same_sx s)
theorem LawP.putL (h : LawP K H r a l ns g z rs m) {ys : List V} {qs : List Rnd} {m' : Nat} (hq : Paired (RndV H) ys qs) (hm : qs.length ≤ m') (hb : ∀ rd ∈ qs, IsRound g z rd) : LawP K (upd H l (.lst ys)) r a l ns g z qs m' := by
  obtain ⟨xs, hl, hp⟩ := h.pl
  have T : SameT H (upd H l (.lst ys)) := fun a2 us e2 => by
    rw [upd_ne (ne_of e2 hl (by intro z; cases z))]
    exact e2
  exact ⟨h.put _ _ h.row, ⟨ys, upd_same, paired_mono (fun _ _ z => z.mono T) hq⟩, h.nlr, hm, hb, h.put⟩
end
end Nf

set_option Elab.async false
set_option linter.all false
set_option maxRecDepth 100000
set_option maxHeartbeats 4000000
namespace Nf
open PySem PySem.Spec PyProof.Rows L2
variable {P : Program} {w : World} {K : PySem.W.Frag} {mg : Str → Option Value} {base : Heap}
/-! ### alike -/
theorem ok_turnN {f fT fA : Addr} {fd fdT fdA : FuncData} (F : Fun K "turning_by_kinds" "turning_by_kinds" sTurning f fd) (B : Blt mg) (GT : FnOk P w K mg base CX0 3 fT fdT ["plan", "kinds"] (spTold K)) (FT : Fun K "told_apart" "told_apart" sToldApart fT fdT) (bT : Binds K fdT ["plan", "kinds"] []) (gT : mg "told_apart" = some (.ref fT))
    (bR : Binds K fd ["both", "kinds"] []) (gR : mg "turning_by_kinds" = some (.ref f)) (FA : Fun K "set_apart" "set_apart" sSetApart fA fdA) (bA : Binds K fdA ["kinds", "guests"] []) (gA : mg "set_apart" = some (.ref fA)) : ∀ m, FnOk P w K mg base CX0 (m + 4) f fd ["both", "kinds"] (spTurn K m)
  | 0 => ok_turn0 F B GT FT bT gT
  | m + 1 => ok_turnS F B GT FT bT gT bR gR (ok_turnN F B GT FT bT gT bR gR FA bA gA m) FA bA gA
theorem paired_app {α β : Type} {R : α → β → Prop} : ∀ {xs xs' : List α} {ys ys' : List β}, Paired R xs ys → Paired R xs' ys' → Paired R (xs ++ xs') (ys ++ ys')
  | _, _, _, _, .nil, q => q
  | _, _, _, _, .cons r t, q => .cons r (paired_app t q)
theorem planS_both {g : Nat} {s : Int} (hI : IsParty g s) {one other : List Rnd} (h1 : ∀ r ∈ one, IsRound g s r) (h2 : ∀ r ∈ other, IsRound g s r) (l1 : one.length ≤ 400) (l2 : other.length ≤ 400) : PlanS (2 * g) (bothR g one other) := by
  have go : ∀ r, IsRound g s r → r.length ≤ 1000 ∧ r.flatten.Nodup ∧ ∀ t ∈ r, t ≠ [] ∧ t.length ≤ 1000 ∧ ∀ x ∈ t, 0 ≤ x ∧ x < g := fun r hr => by
    obtain ⟨b1, b2⟩ := round_bd hI hr
    refine ⟨by omega, hr.nd, fun t ht => ⟨fun e => ?_, by have := b2 t ht; omega, fun x hx => hr.lo x (List.mem_flatten.mpr ⟨t, ht, hx⟩)⟩⟩
    have := (hr.sz t ht).1
    rw [e] at this
    simp at this
  refine ⟨?_, fun r hr => ?_⟩
  · unfold bothR
    rw [List.length_append, List.length_map]
    omega
  · unfold bothR at hr
    rcases List.mem_append.mp hr with hr | hr
    · obtain ⟨a, b, c⟩ := go r (h1 r hr)
      exact ⟨a, b, fun t ht => let ⟨x, y, z⟩ := c t ht; ⟨x, y, fun u hu => ⟨(z u hu).1, by have := (z u hu).2; omega⟩⟩⟩
    · obtain ⟨q, hq, rfl⟩ := List.mem_map.mp hr
      obtain ⟨a, b, c⟩ := go q (h2 q hq)
      refine ⟨by unfold shR; rw [List.length_map]; exact a, sh_nodup b, fun t ht => ?_⟩
      obtain ⟨u, hu, rfl⟩ := List.mem_map.mp ht
      obtain ⟨x, y, z⟩ := c u hu
      refine ⟨fun e => x (List.map_eq_nil_iff.mp e), by rw [List.length_map]; exact y, fun v hv => ?_⟩
      obtain ⟨k, hk, rfl⟩ := List.mem_map.mp hv
      have := z k hk
      show 0 ≤ k + (g : Int) ∧ k + (g : Int) < ((2 * g : Nat) : Int)
      omega
theorem cF_zero (n : Nat) (x : Int) : cF (List.replicate n 0) x = 0 := by
  unfold cF
  rw [List.getD_eq_getElem?_getD]
  by_cases h : x.toNat < n
  · rw [List.getElem?_eq_getElem (by rw [List.length_replicate]; exact h), List.getElem_replicate]
    rfl
  · rw [List.getElem?_eq_none (by rw [List.length_replicate]; omega)]
    rfl
theorem rep_zero : ∀ n : Nat, (List.replicate n [V.int 0]).flatten = (List.replicate n (0 : Int)).map V.int
  | 0 => rfl
  | n + 1 => by
    rw [List.replicate_succ, List.replicate_succ, List.flatten_cons, rep_zero n, List.map_cons]
    rfl
def spAlikeP (K : PySem.W.Frag) (C : Addr) : Sp := fun vs H Q _ => ∃ (p l1 l2 : Addr) (g : Nat) (s : Int) (xs1 xs2 : List V) (one other : List Rnd), vs = [.ref p, .ref l1, .ref l2] ∧ PartyV C H p g s ∧ IsParty g s ∧ g ≤ 9 ∧ H l1 = some (.lst xs1) ∧ Paired (RndV H) xs1 one ∧ H l2 = some (.lst xs2) ∧ Paired (RndV H) xs2 other ∧ (∀ r ∈ one, IsRound g s r) ∧ (∀ r ∈ other, IsRound g s r) ∧ one.length ≤ 400 ∧ other.length ≤ 400 ∧
  ((∀ f, IsoF g one other f → False) → ∀ H', Same H H' → Q .non H') ∧ ∀ pm l H', pm.Perm (rangeI g) → IsoF g one other (cF pm) → Same H H' → H l = none → H' l = some (.lst (pm.map V.int)) → Q (.ref l) H'
theorem small_of {g s : Int} (hI : IsParty g s) {rs : List Rnd} (h : ∀ r ∈ rs, IsRound g s r) (l : rs.length ≤ 400) : Small rs :=
  ⟨by omega, fun r hr => by have := (round_bd hI (h r hr)).1; omega, fun r hr t ht => by have := (round_bd hI (h r hr)).2 t ht; omega⟩
theorem scAlikeP : FnScope ["party", "one", "other", "guests", "both", "tables"] ["party", "one", "other"] (defScope sAlikeP) := ⟨rfl, rfl, rfl, by decide +kernel, rfl, by decide +kernel, by decide +kernel⟩
theorem ok_alikeP {f fC fG fM fT C : Addr} {fd fdC fdG fdM fdT : FuncData} (F : Fun K "alike" "alike" sAlikeP f fd) (B : Blt mg) (T : Txt K mg C) (GC : FnOk P w K mg base CX0 4 fC fdC ["party", "plan"] (spCheckOk K C)) (FC : Fun K "check_plan" "check_plan" sCheck fC fdC) (bC : Binds K fdC ["party", "plan"] []) (gC : mg "check_plan" = some (.ref fC))
    (FG : Fun K "guests" "Party.guests" sGuests fG fdG) (bG : Binds K fdG ["self"] []) (mG : Meth K C "guests" fG) (FM : Fun K "moved" "moved" sMovedP fM fdM) (bM : Binds K fdM ["tables", "by"] []) (gM : mg "moved" = some (.ref fM))
    (GT : FnOk P w K mg base CX0 13 fT fdT ["both", "kinds"] (spTurn K 9)) (FT : Fun K "turning_by_kinds" "turning_by_kinds" sTurning fT fdT) (bT : Binds K fdT ["both", "kinds"] []) (gT : mg "turning_by_kinds" = some (.ref fT)) :
    FnOk P w K mg base CX0 14 f fd ["party", "one", "other"] (spAlikeP K C) := by
  have GM : FnOk P w K mg base CX0 1 fM fdM ["tables", "by"] spMovedP := ok_movedP FM B
  have GG : FnOk P w K mg base CX0 1 fG fdG ["self"] (spGuests C) := ok_guests FG T
  have ng : ∀ g s, (pf g s).lookup ("guests" : Str) = none := fun g s => pf_no _ _ (by decide +kernel) (by decide +kernel)
  refine F.ok scAlikeP (fun vs H Q E h => ?_) (fun cdv A outer s H vs Q E hr h => ?_)
  · obtain ⟨p, l1, l2, g, s, xs1, xs2, one, other, rfl, _⟩ := h
    rfl
  · obtain ⟨p, l1, l2, g, z, xs1, xs2, one, other, rfl, hP, hI, hg9, h1, hx1, h2, hx2, hR1, hR2, hl1, hl2, qn, qs⟩ := h
    have hr4 : Room 4 _ := hr.mono (by decide)
    have hr1 : Room 1 _ := hr.mono (by decide)
    refine ⟨_, pss_cons (ps_expr (pe_call GC hr4 (by rfl) gC FC.kp bC .nil pass0 (pa_cons (pv 0) (pa_cons (pv 1) pa_nil))))
      (pss_cons (ps_expr (pe_call GC hr4 (by rfl) gC FC.kp bC .nil pass0 (pa_cons (pv 0) (pa_cons (pv 2) pa_nil))))
      (pss_cons (ps_if (pt_cmpR op_ne (pe_callB call_len_seq (by rfl) B.len PySem.boot_len (pa_cons (pv 1) pa_nil)) (pe_callB call_len_seq (by rfl) B.len PySem.boot_len (pa_cons (pv 2) pa_nil)) (nomark _)) (pss_one (ps_ret pe_non)) pss_nil)
      (pss_cons (ps_set (i := 3) scAlikeP.nd rfl (.inr rfl) (pe_meth0 (pv 0) T.cl mG GG hr1 bG .nil pass0))
      (pss_cons (ps_set (i := 4) scAlikeP.nd rfl (.inl rfl) (pe_op op_cat (pv 1) (pe_lc (own := [("tables", 5)]) (g := gName 5) (tt := tYes) (te := tCall spMovedP [] E0 (tCons (tVar 5) (tCons (tVar 3) tNil))) (by rfl) scAlikeP.nd (pi_list (pv 2))
          (blkOk_by (N := ["party", "one", "other", "guests", "both", "tables"]) (sc := defScope sAlikeP) (by decide +kernel))
          (fun _ _ _ _ _ => pg_name (i := 5) (x := "tables") scAlikeP.nd rfl (.inl rfl) (.inr rfl)) (fun _ _ _ _ _ => pts_nil) (fun _ _ _ _ _ => pe_call GM hr1 (by rfl) gM FM.kp bM .nil pass0 (pa_cons (pv 5) (pa_cons (pv 3) pa_nil))))))
      (pss_one (ps_ret (pe_call GT hr (by rfl) gT FT.kp bT .nil pass0 (pa_cons (pv 4) (pa_cons (pe_op op_rep (pe_lst (pa_cons pe_int pa_nil)) (pe_op op_mul pe_int (pv 3))) pa_nil))))))))), ?_⟩
    have big : (5000000 : Nat) < sizeLine := by decide
    have e1 := paired_len hx1
    have e2 := paired_len hx2
    obtain ⟨dx, hp⟩ := id hP
    -- check_plan, twice
    refine ⟨.ref p, rfl, .ref l1, rfl, p, l1, g, z, one, rfl, hP, hI, ⟨xs1, SqL.of h1, hx1⟩, small_of hI hR1 hl1, hR1, fun H1 s1 => ?_⟩
    refine ⟨.ref p, rfl, .ref l2, rfl, p, l2, g, z, other, rfl, hP.same s1, hI, ⟨xs2, SqL.of (s1 _ _ h2), paired_mono (fun _ _ h => RndV.mono h (same_toT s1)) hx2⟩, small_of hI hR2 hl2, hR2, fun H2 s2 => ?_⟩
    have s12 := s1.trans s2
    have h12 := s12 _ _ h1
    have h22 := s12 _ _ h2
    -- len
    refine ⟨.ref l1, rfl, l1, _, rfl, .inl (SqL.of h12), .ref l2, rfl, l2, _, rfl, .inl (SqL.of h22), rfl, _, rfl, ite2 (fun hc => ?_) (fun hc => ?_)⟩
    · refine qn (fun f hf => ?_) _ s12
      have hl := hf.to.length_eq
      rw [List.length_map] at hl
      have e3 : xs1.length = xs2.length := by omega
      rw [e3] at hc
      simp at hc
    have hle : one.length = other.length := by
      have e3 : ¬ xs1.length ≠ xs2.length := fun e => hc (by simpa using fun z => e (by omega))
      omega
    -- guests
    refine ⟨.ref p, rfl, p, dx, _, rfl, s12 _ _ hp, ng _ _, p, g, z, rfl, ⟨dx, s12 _ _ hp⟩, ?_⟩
    -- both
    refine ⟨.ref l1, rfl, .ref l2, rfl, l2, rfl, ⟨_, SqL.of h22⟩, fun D nD => ?_⟩
    refine lc_it (walk_list (xs := xs2)) (fun i H5 => Same H2 H5 ∧ ∃ acc, H5 D = some (.lst acc) ∧ Paired (RndV H5) acc ((other.take i).map (shR g))) ⟨same_new nD, [], upd_same, .nil⟩ (fun i H5 _ h => SqL.of (h.1 _ _ h22)) (fun i x H5 H6 hi hI y => ?_) (fun H5 hJ => ?_)
    · obtain ⟨sm, acc, hD, hac⟩ := hI
      obtain ⟨rfl, hx⟩ := y
      obtain ⟨r, hr0, hrv⟩ := paired_getL hx2 hx
      obtain ⟨b1, b2⟩ := round_bd ‹IsParty g z› (hR2 r (List.mem_of_getElem? hr0))
      refine ⟨wipe_put (by decide), yesT ?_⟩
      refine ⟨x, rfl, .int g, rfl, x, r, (g : Int), rfl, hrv.mono (same_toT (s12.trans sm)), by omega, fun t ht => by have := b2 t ht; omega, fun y H7 s7 hy => ?_⟩
      have hD7 := s7 _ _ hD
      have T7 : SameT H7 (upd H7 D (.lst (acc ++ [y]))) := fun a us e => by
        rw [upd_ne (ne_of e hD7 (by intro z; cases z))]
        exact e
      refine ⟨acc, hD7, ?_, same_put (sm.trans s7) nD, acc ++ [y], upd_same, ?_⟩
      · have := paired_len hac
        rw [List.length_map, List.length_take] at this
        omega
      · rw [takeSucc hr0, List.map_append]
        exact paired_snoc (paired_mono (fun v u h => (RndV.mono h (same_toT s7)).mono T7) hac) (hy.mono T7)
    obtain ⟨sm, acc, hD, hac⟩ := hJ
    rw [e2, List.take_of_length_le (Nat.le_refl _)] at hac
    have e3 := paired_len hac
    rw [List.length_map] at e3
    refine ⟨l1, D, xs1, acc, rfl, rfl, sm _ _ h12, hD, by omega, fun b nb => ?_⟩
    have s6 : Same H5 (upd H5 b (.lst (xs1 ++ acc))) := same_new nb
    have hb : (upd H5 b (.lst (xs1 ++ acc))) b = some (.lst (xs1 ++ acc)) := upd_same
    generalize (upd H5 b (.lst (xs1 ++ acc))) = H6 at s6 hb ⊢
    have sm6 := (s12.trans sm).trans s6
    have hboth : Paired (RndV H6) (xs1 ++ acc) (bothR g one other) := paired_app (paired_mono (fun _ _ h => RndV.mono h (same_toT sm6)) hx1) (paired_mono (fun _ _ h => RndV.mono h (same_toT s6)) hac)
    -- [0] * (2 * guests)
    refine ⟨.ref b, rfl, (by show 1 ≤ sizeLine; decide), fun z0 nz0 => ?_⟩
    have s7 : Same H6 (upd H6 z0 (.lst [.int 0])) := same_new nz0
    have hz0 : (upd H6 z0 (.lst [.int 0])) z0 = some (.lst [.int 0]) := upd_same
    generalize (upd H6 z0 (.lst [.int 0])) = H7 at s7 hz0 ⊢
    refine ⟨.int g, rfl, _, _, rfl, rfl, .inl ⟨by omega, by omega⟩, z0, 2 * (g : Int), [.int 0], rfl, rfl, hz0, by omega, by omega, ?_, fun k nk => ?_⟩
    · rw [show (2 * (g : Int)).toNat = 2 * g by omega]
      show 1 * (2 * g) ≤ sizeLine
      omega
    rw [show (2 * (g : Int)).toNat = 2 * g by omega, rep_zero]
    have s8 : Same H7 (upd H7 k (.lst ((List.replicate (2 * g) (0 : Int)).map V.int))) := same_new nk
    have hk : (upd H7 k (.lst ((List.replicate (2 * g) (0 : Int)).map V.int))) k = some (.lst ((List.replicate (2 * g) (0 : Int)).map V.int)) := upd_same
    have sA := (sm6.trans s7).trans s8
    have g2 := ‹IsParty g z›.g2
    refine ⟨b, k, g, z, one, other, List.replicate (2 * g) 0, rfl, ⟨_, SqL.of ((s7.trans s8) _ _ hb), paired_mono (fun _ _ h => RndV.mono h (same_toT (s7.trans s8))) hboth⟩, SqL.of hk, by rw [List.length_replicate], by omega, by omega, hle, planS_both ‹IsParty g z› hR1 hR2 hl1 hl2, hR1, hR2, Nat.le_trans (shN_le g _) hg9, fun hno H9 s9 => ?_, fun pm l H9 hpm hiso s9 nl hl => ?_⟩
    · exact qn (fun f hf => hno f hf fun x _ _ => by rw [cF_zero, cF_zero]) _ (sA.trans s9)
    · exact qs pm l H9 hpm hiso (sA.trans s9) (sA.free nl) hl
end Nf

set_option Elab.async false
set_option linter.all false
set_option maxRecDepth 100000
set_option maxHeartbeats 4000000
namespace PySem.W
open PySem PySem.Spec PySem.SeqAt PySem.Calls PyProof.Rows
/-! ### sorted of tuples, empty ones among them -/
section
variable {prog : Program} {w : World} {A : Around} {E : Value → Shared → Prop} {s : Shared}
theorem tup_lt_call {l b : Addr} {items items2 : Array Value} {e r : Nat → Bool} {Q : Value → Shared → Prop} (hl : s.heap.IsTuple l items) (hb : s.heap.IsTuple b items2)
    (he : ∀ j (h1 : j < items.size) (h2 : j < items2.size), EqAt A.in1 s items[j] items2[j] (e j)) (hr : ∀ j (h1 : j < items.size) (h2 : j < items2.size), e j = false → RcLt A.in1 s items[j] items2[j] (r j))
    (h : Q (.bool (firstLt e r (decide (items.size < items2.size)) (List.range (min items.size items2.size)))) s) : wpAny (model prog w) A (call (.builtin "tuple.__lt__") [.ref l, .ref b]) Q E s := by
  obtain ⟨⟨k1, d1, q1, sl1⟩, g1, c1, n1, e1⟩ := id hl
  obtain ⟨⟨k2, d2, q2, sl2⟩, g2, c2, n2, e2⟩ := id hb
  dsimp only at c1 e1 c2 e2
  subst c1 e1 c2 e2
  exact call_meets F.slot_tuple_lt ⟨_, g1, rfl⟩ F.entry_tuple_lt (F.args_tuple_lt_2 _ _) (tuple_ltAt l b items items2 n1 n2 d1 d2 sl1 sl2 e r) ⟨g1, g2, he, hr, h⟩
/-- x < y of two tuples, as sorting asks it where all are of one type -/
theorem one_lt_tup {xs ys : List PyData} {a b : Value} {as bs : List Addr} {Q : Bool → Shared → Prop} (ra : Reads s.heap a (.tuple xs) as) (rb : Reads s.heap b (.tuple ys) bs) (hal : alikeAll xs ys = true)
    (hu : A.units + min (PyData.tuple xs).depth (PyData.tuple ys).depth < cLine) (hq : Q (dataLt (.tuple xs) (.tuple ys)) s) : wpAny (model prog w) A (oneLt' true a b) Q E s := by
  cases ra with
  | @tuple l o vs n _ _ h1 h2 h3 h4 =>
    cases rb with
    | @tuple l' o' vs' n' _ _ k1 k2 k3 k4 =>
      have n1 : vs.size = xs.length := by simpa using ReadsAll.length _ _ _ h4
      have n2 : vs'.size = ys.length := by simpa using ReadsAll.length _ _ _ k4
      rw [dataLt_tuple, ← firstLt_toks xs ys hal, ← n1, ← n2] at hq
      rw [oneLt'_eq, if_pos rfl]
      refine wpAny_bind (wpAny_cRoomFor (room_here hu) ?_)
      refine wpAny_bind (wpAny_callSpecialIfBound?_slot (T := "tuple") ⟨_, h1, h2⟩ F.slot_tuple_lt (tup_lt_call (e := pairEq xs ys) (r := fun j => dataLt (xs.getD j .none) (ys.getD j .none)) ⟨_, h1, h2, _, h3⟩ ⟨_, k1, k2, _, k3⟩ (fun j j1 j2 => ?_) (fun j j1 j2 hj => ?_) (wpAny_truthy_bool hq)))
      · have z := eqAt_alikeAll xs ys A.in1 s vs.toList vs'.toList _ _ h4 k4 hal (room_in hu) j (by simpa using j1) (by simpa using j2)
        simpa using z
      · have z := rcLt_alikeAll xs ys A.in1 s vs.toList vs'.toList _ _ h4 k4 hal (room_in hu) j (by simpa using j1) (by simpa using j2) hj
        simpa using z
/-- the first items of tuples, none of an empty one -/
theorem firsts_of : ∀ {vs : List Value} {ds : List PyData}, EachIs (fun v d => ∃ as, Reads s.heap v d as) vs ds → (∀ d ∈ ds, ∃ xs, d = .tuple xs) →
    ∃ fs : List (Option Value), fs.map Option.isSome = ds.map (fun d => match d with | .tuple (_ :: _) => true | _ => false) ∧ ∀ (E : Value → Shared → Prop) {Q : List (Option Value) → Shared → Prop}, Q fs s → wpAny (model prog w) A (vs.mapM firstOfTuple') Q E s
  | _, _, .nil, _ => ⟨[], rfl, fun E {Q} h => by rw [List.mapM_nil]; exact wpAny_pure h⟩
  | _, _, .cons (b := d) ⟨as, r⟩ t, ht => by
    obtain ⟨fs, h1, h2⟩ := firsts_of t fun d hd => ht d (List.mem_cons_of_mem _ hd)
    obtain ⟨xs, rfl⟩ := ht d List.mem_cons_self
    cases r with
    | @tuple a o vs n _ _ ho hc hd hr =>
      refine ⟨vs[0]? :: fs, ?_, fun E {Q} h => ?_⟩
      · rw [List.map_cons, List.map_cons, h1]
        congr 1
        have n1 : vs.size = xs.length := by simpa using ReadsAll.length _ _ _ hr
        cases xs with
        | nil => rw [Array.getElem?_eq_none (by rw [n1]; exact Nat.le_refl _)]; rfl
        | cons x xs => rw [Array.getElem?_eq_getElem (by rw [n1]; exact Nat.succ_pos _)]; rfl
      · rw [List.mapM_cons]
        refine wpAny_bind ?_
        rw [kas_first_eq]
        refine wpAny_bind (Looks.here (show Looks _ s.heap (typeOf (.ref a)) o.cls from (Looks.ld ho).andThen .now) ?_)
        rw [hc, if_neg (by first | decide | simp)]
        exact wpAny_bind (listItems_at ho hd (wpAny_pure (wpAny_bind (h2 E (wpAny_pure h)))))
theorem SortsAt.tups {vs : List Value} {ds : List PyData} (e : EachIs (fun v d => ∃ as, Reads s.heap v d as) vs ds) (hal : AllAlike ds) (ht : ∀ d ∈ ds, ∃ xs, d = .tuple xs) (hu : ∀ d, d ∈ ds → A.units + d.depth < cLine) : SortsAt prog w A s (dataKind s.heap ds) vs := by
  by_cases hall : ∀ d, d ∈ ds → ∃ x r, d = .tuple (x :: r)
  · exact SortsAt.data e hal (.inl hall) hu
  have room : ∀ {d d' : PyData}, d ∈ ds → A.units + min d.depth d'.depth < cLine := fun {d d'} hd => Nat.lt_of_le_of_lt (Nat.add_le_add_left (Nat.min_le_left _ _) _) (hu d hd)
  refine ⟨fun v hv => ?_, ?_⟩
  · obtain ⟨d, hd, as, r⟩ := e.left v hv
    exact ⟨_, dataKind_some hal hd r⟩
  have lt : ∀ (f : Bool) (E : Value → Shared → Prop) (x y : Value) {a b : List (Int ⊕ List Nat)} {Q : Bool → Shared → Prop}, (dataKind s.heap ds).keyOf x = some a → (dataKind s.heap ds).keyOf y = some b → Q (PyProof.Rows.lexLt itemOrd a b) s → wpAny (model prog w) A (oneLt' f x y) Q E s := fun f E x y a b Q ha hb hq => by
    obtain ⟨d, as, hd, ra, rfl⟩ := dataKind_inv ha
    obtain ⟨d', as', hd', rb, rfl⟩ := dataKind_inv hb
    have q := hal d hd d' hd'
    obtain ⟨xs, rfl⟩ := ht d hd
    obtain ⟨ys, rfl⟩ := ht d' hd'
    cases f with
    | true => exact one_lt_tup ra rb (by simpa [alike] using q) (room hd) hq
    | false => exact oneLt_alike (fun z => nomatch z) ra rb q (fun z => nomatch z) (room hd) hq
  have kind : ∀ {vs : List Value} {ds : List PyData}, EachIs (fun v d => ∃ as, Reads s.heap v d as) vs ds → (∀ d ∈ ds, ∃ xs, d = .tuple xs) → (¬ ∀ d, d ∈ ds → ∃ x r, d = .tuple (x :: r)) → ∃ k : SortKind, (k = general' ∨ k = oneType') ∧ ∀ (E : Value → Shared → Prop) {Q : SortKind → Shared → Prop}, Q k s → wpAny (model prog w) A (keyKind' vs.toArray) Q E s := fun {vs ds} e ht hall => by
    obtain ⟨fs, f1, f2⟩ := firsts_of (prog := prog) (w := w) (A := A) e ht
    have hne : vs ≠ [] := fun z => by
      subst z
      cases e
      exact hall fun d hd => by cases hd
    have typ : ∀ v ∈ vs, Looks (model prog w) s.heap (typeOf v) (.type "tuple") := fun v hv => by
      obtain ⟨d, hd, as, r⟩ := e.left v hv
      obtain ⟨xs, rfl⟩ := ht d hd
      exact looks_reads r
    have hno : ¬ (fs.toArray.all fun x => x.isSome) = true := fun z => hall fun d hd => by
      obtain ⟨xs, rfl⟩ := ht d hd
      have z2 : ∀ x ∈ fs.map Option.isSome, x = true := fun x hx => by
        obtain ⟨o, ho, rfl⟩ := List.mem_map.mp hx
        rw [List.all_toArray, List.all_eq_true] at z
        exact z o ho
      rw [f1] at z2
      cases xs with
      | nil =>
        have := z2 _ (List.mem_map.mpr ⟨_, hd, rfl⟩)
        cases this
      | cons x xs => exact ⟨x, xs, rfl⟩
    have pre : ∀ (E : Value → Shared → Prop) {Q : SortKind → Shared → Prop}, (wpAny (model prog w) A (if (fs.toArray[0]?.bind id).isSome = true then pure general' else do
        let o ← oneTypeOnly' vs.toArray
        pure (if o.isSome = true then oneType' else general')) Q E s) → wpAny (model prog w) A (keyKind' vs.toArray) Q E s := fun E {Q} h => by
      rw [kat_kind_eq, List.mapM_toArray, map_eq_pure_bind]
      refine wpAny_bind (wpAny_bind (f2 E (wpAny_pure ?_)))
      rw [if_neg hno]
      exact h
    by_cases h0 : (fs.toArray[0]?.bind id).isSome = true
    · refine ⟨general', .inl rfl, fun E {Q} hq => pre E ?_⟩
      rw [if_pos h0]
      exact wpAny_pure hq
    · refine ⟨oneType', .inr rfl, fun E {Q} hq => pre E ?_⟩
      rw [if_neg h0, oneTypeOnly'_eq, List.mapM_toArray, map_eq_pure_bind]
      refine wpAny_bind (wpAny_bind (wpAny_bind (kas_mapM (r := Value.type "tuple") _ (fun v hv Q' hq' => (typ v hv).here hq') (wpAny_pure ?_))))
      have h3 : (List.map (fun _ => Value.type "tuple") vs).toArray[0]? = some (Value.type "tuple") := by
        cases vs with
        | nil => exact absurd rfl hne
        | cons v vs => rfl
      have h4 : ((List.map (fun _ => Value.type "tuple") vs).toArray.all fun x => x == Value.type "tuple") = true := by
        simp only [List.all_toArray, List.all_map, List.all_eq_true]
        intro _ _
        rfl
      rw [h3]
      dsimp only
      rw [if_pos h4]
      exact wpAny_pure (wpAny_pure hq)
  obtain ⟨k, hk, h2⟩ := kind e ht hall
  refine ⟨k, fun E x y a b Q ha hb hq => ?_, fun _ E Q hq => h2 E hq⟩
  rcases hk with rfl | rfl
  · exact lt false E x y ha hb hq
  · exact lt true E x y ha hb hq
end
end PySem.W

set_option Elab.async false
set_option linter.all false
set_option maxRecDepth 100000
set_option maxHeartbeats 4000000
namespace Nf
open PySem PySem.Spec PyProof.Rows L2
/-! ### sorted of rounds, those of no tables among them, at the layer -/
open PySem.W in
theorem sorted_tups {prog : Program} {w : World} {A : Around} {E : Value → Shared → Prop} {s : Shared} {β : Type} {R : Value → β → Prop} {enc : β → PyData} {vs : List Value} {bs : List β} {l : Addr} {Q : Value → Shared → Prop} (hl : s.heap.IsList l vs.toArray) (e : PySem.W.EachIs R vs bs)
    (er : PySem.W.EachIs (fun v b => ∃ as, Reads s.heap v (enc b) as) vs bs) (hal : PySem.W.AllAlike (bs.map enc)) (ht : ∀ d ∈ bs.map enc, ∃ xs, d = .tuple xs) (hL : bs.length ≤ sizeLine) (hu : ∀ b, b ∈ bs → A.units + 2 + (enc b).depth < cLine)
    (h : ∀ out, out.length = bs.length → PySem.W.EachIs R out (bs.mergeSort (PySem.W.dataLe false enc)) → Q (.ref (s.heap.objs.size + 1)) { s with heap := sortedAll s.heap vs (List.toArray out) }) : wpAny (model prog w) A (call (.builtin "sorted") [.ref l]) Q E s := by
  have er2 : PySem.W.EachIs (fun v b => ∃ as, Reads (PySem.W.sortingHeap (copyHeap s.heap vs) (s.heap.objs.size + 1) vs) v (enc b) as) vs bs := er.mono fun _ _ ⟨as, r⟩ => ⟨as, PyProof.Rows.Reads.keeps (fun _ _ => PySem.W.sorting_copy_old) r⟩
  refine PySem.W.sorted_vals hl (PySem.W.SortsAt.tups (s := { s with heap := PySem.W.sortingHeap (copyHeap s.heap vs) (s.heap.objs.size + 1) vs }) (PySem.W.each_map (R := fun v d => ∃ as, Reads (PySem.W.sortingHeap (copyHeap s.heap vs) (s.heap.objs.size + 1) vs) v d as) enc er2) hal ht fun d hd => ?_) (by rw [e.length]; exact hL) (h _ (by rw [PySem.W.sortVals_length false rfl]; exact e.length) (PySem.W.sortVals_data false e er2 hal))
  obtain ⟨b, hb, rfl⟩ := List.mem_map.mp hd
  exact hu b hb
def rSortU (K : PySem.W.Frag) {β : Type} (enc : β → PyData) : List V → Hp → VK → Prop := fun vs H Q => ∃ (a : Addr) (xs : List V) (bs : List β) (R : V → β → Prop), vs = [.ref a] ∧ SqL K H a xs ∧ Paired R xs bs ∧ (∀ x b, R x b → Dp K H x (enc b)) ∧ PySem.W.AllAlike (bs.map enc) ∧ (∀ d ∈ bs.map enc, ∃ xs, d = .tuple xs) ∧ (∀ b ∈ bs, (enc b).depth ≤ 8) ∧
  ∀ ys p, Paired R ys (bs.mergeSort (PySem.W.dataLe false enc)) → H p = none → Q (.ref p) (upd H p (.lst ys))
theorem cr_sortU {X : Cx} {β : Type} (enc : β → PyData) (hu : X.A.units + 64 < cLine) : CallR X (.builtin "sorted") (rSortU X.K enc) := by
  intro pins s σ H vs us Q I r h
  obtain ⟨a, xs, bs, R, rfl, hs, hp, hd, hal, hk, hdp, q⟩ := h
  rw [Vals.ref1 r]
  obtain ⟨its, rv, hl, hz⟩ := I.list hs
  have e := each_of_paired rv hp
  have hlb : bs.length = xs.length := by
    rw [← e.length, ← rv.length]
  refine sorted_tups hl.isList e (e.mono fun u b ⟨x, rx, rb⟩ => Dp.reads I (enc b) x u (hd x b rb) rx) hal hk (by omega) (fun b hb => by have := hdp b hb; omega) fun out hlo eo => ?_
  obtain ⟨ys, ry, py⟩ := paired_of_each eo
  obtain ⟨ep, he'⟩ := PyProof.Rows.sortedAll_at s.heap its out.toArray
  have hly := ry.length
  exact ⟨.ref _, upd H (s.heap.objs.size + 1) (.lst ys), I.laid (t' := s.toks) (fun _ _ => PyProof.Rows.sortedAll_old) (Nat.le_succ _) ⟨by omega, out, ep, ry, he'⟩, rfl, q _ _ py (I.hok.fresh (Nat.le_succ _))⟩
def sortRn (rs : List Rnd) : List Rnd := rs.mergeSort (PySem.W.dataLe false dRn)
theorem sortRn_perm (rs : List Rnd) : (sortRn rs).Perm rs := List.mergeSort_perm _ _
theorem sortRn_iff {l m : List Rnd} : sortRn l = sortRn m ↔ l.Perm m := ⟨fun h => (sortRn_perm l).symm.trans (h ▸ sortRn_perm m), fun h => pfx_Rn.sorted h⟩
theorem sort_rndsU {K : PySem.W.Frag} {H : Hp} {Q : VK} {a : Addr} {xs : List V} {bs : List Rnd} (hl : SqL K H a xs) (hp : Paired (RndV H) xs bs) (q : ∀ ys p, H p = none → Paired (RndV H) ys (sortRn bs) → Q (.ref p) (upd H p (.lst ys))) : rSortU K dRn [.ref a] H Q :=
  ⟨a, xs, bs, RndV H, rfl, hl, hp, fun x b h => dp_rnd h, allAlike_of alike_Rn bs, fun d hd => by
    obtain ⟨b, _, rfl⟩ := List.mem_map.mp hd
    exact ⟨_, rfl⟩, fun b _ => Nat.le_trans (ddep_Rn b) (by decide), fun ys p hy hn => q ys p hn hy⟩
end Nf

set_option Elab.async false
set_option linter.all false
set_option maxRecDepth 100000
set_option maxHeartbeats 4000000
namespace Nf
open PySem PySem.Spec PyProof.Rows L2
variable {P : Program} {w : World} {K : PySem.W.Frag} {mg : Str → Option Value} {base : Heap}
/-! ### the law's moved -/
theorem scMoved : FnScope ["_law_tables", "_law_turning", "_law_found", "_law_table", "_law_guest"] ["_law_tables", "_law_turning"] (defScope lMoved) := ⟨rfl, rfl, rfl, by decide +kernel, rfl, by decide +kernel, by decide +kernel⟩
theorem ok_moved {f : Addr} {fd : FuncData} (F : Fun K "_law_moved" "_law_moved" lMoved f fd) (B : Blt mg) : FnOk P w K mg base CX0 1 f fd ["_law_tables", "_law_turning"] (spMoved K) := by
  refine F.ok scMoved (fun vs H Q E h => ?_) (fun cdv A outer s H vs Q E hr h => ?_)
  · obtain ⟨x, l, r, tn, rfl, _⟩ := h
    rfl
  · obtain ⟨x, l, r, tn, rfl, ⟨p, xs, rfl, hp, hxs⟩, hl, hr1, hrt, q⟩ := h
    refine ⟨_, pss_cons (ps_set (i := 2) scMoved.nd rfl (.inl rfl) (pe_lst pa_nil)) (pss_cons
      (ps_for PassesOwn.never rfl (pi_tup (pv 0)) (pg_name (i := 3) scMoved.nd rfl (.inl rfl))
        (pss_one (ps_expr (pe_bm PySem.F.plainAttrs_list PySem.F.slot_list_append PySem.F.type_list_append mt_append (pv 2) (pa_cons (pe_callTy call_tuple_of (by rfl) B.tuple (by decide +kernel) (pa_cons (pe_callB (cr_sortD (fun i : Int => PyData.int i) hr.units) (by rfl) B.sorted (by decide +kernel) (pa_cons
            (pe_lc (own := [("_law_guest", 4)]) (g := gName 4) (wi := iTup K (tVar 3)) (tt := tYes) (te := tOp (rIxL K) (tVar 1) (tVar 4)) (by rfl) scMoved.nd (pi_tup (pv 3))
              (blkOk_by (N := ["_law_tables", "_law_turning", "_law_found", "_law_table", "_law_guest"]) (sc := defScope lMoved) (by decide +kernel))
              (fun _ _ _ _ _ => pg_name (i := 4) (x := "_law_guest") scMoved.nd rfl (.inl rfl) (.inr rfl)) (fun _ _ _ _ _ => pts_nil)
              (fun _ _ _ _ _ => pe_ix ix_list (pv 1) (pv 4) (fun _ _ => rfl))) pa_nil)) pa_nil)) pa_nil)))))
      (pss_one (ps_ret (pe_callTy call_tuple_of (by rfl) B.tuple (by decide +kernel) (pa_cons (pe_callB (cr_sortD dT hr.units) (by rfl) B.sorted (by decide +kernel) (pa_cons (pv 2) pa_nil)) pa_nil))))), ?_⟩
    have big : (1000 : Nat) < sizeLine := by decide
    refine ⟨Nat.zero_le _, fun D nD => ?_⟩
    have s0 : Same H (upd H D (.lst [])) := same_new nD
    refine ⟨.ref p, rfl, p, rfl, ⟨_, SqT.of (s0 _ _ hp)⟩, ?_⟩
    refine for_it (walk_tup (xs := xs)) (fun i σ H5 => ∃ (y3 y4 : Option V), σ = [some (.ref p), some (.ref l), some (.ref D), y3, y4] ∧ Same H H5 ∧ ∃ acc, H5 D = some (.lst acc) ∧ Paired (TabV H5) acc ((r.take i).map (movedT tn)))
      ⟨none, none, rfl, s0, [], upd_same, .nil⟩ (fun i σ H5 _ h => ?_) (fun i x σ H5 H6 hi hI y => ?_) (fun σ H5 hI => ?_)
    · obtain ⟨_, _, _, sm, _⟩ := h
      exact SqT.of (sm _ _ hp)
    · obtain ⟨y3, y4, rfl, sm, acc, hD, hac⟩ := hI
      obtain ⟨rfl, hx⟩ := y
      obtain ⟨t, ht, b, rfl, hb⟩ := paired_getL hxs hx
      obtain ⟨htn, htl, htg⟩ := hrt t (List.mem_of_getElem? ht)
      refine ⟨.ref D, rfl, .inl ⟨rfl, _, SqL.of hD⟩, ?_⟩
      refine ⟨.ref b, rfl, b, rfl, ⟨_, SqT.of (sm _ _ hb)⟩, fun D2 nD2 => ?_⟩
      have s1 : Same H6 (upd H6 D2 (.lst [])) := same_new nD2
      refine lc_it (walk_tup (xs := t.map V.int)) (fun m H7 => Same H6 H7 ∧ H7 D2 = some (.lst (((t.take m).map (tAt tn)).map V.int))) ⟨s1, upd_same⟩ (fun m H7 _ h => SqT.of (h.1 _ _ (sm _ _ hb))) (fun m x H7 H8 hm hM y => ?_) (fun H7 hM => ?_)
      · obtain ⟨sm7, hD7⟩ := hM
        obtain ⟨rfl, hx2⟩ := y
        obtain ⟨d, hd, rfl⟩ := getElem?_int hx2
        obtain ⟨hd0, hd1⟩ := htg d (List.mem_of_getElem? hd)
        refine ⟨wipe_put (by decide), yesT ?_⟩
        refine ⟨.ref l, rfl, .int d, rfl, l, _, d, _, rfl, rfl, (sm.trans sm7).seq hl, tAt_at hd0 hd1, _, hD7, ?_, same_put sm7 nD2, ?_⟩
        · rw [List.length_map, List.length_map, List.length_take]
          omega
        · rw [upd_same, takeSucc hd, List.map_append, List.map_append]
          rfl
      · obtain ⟨sm7, hD7⟩ := hM
        rw [List.length_map, List.take_of_length_le (Nat.le_refl _)] at hD7
        dsimp only [tNil]
        refine sort_ints (.inl (SqL.of hD7)) fun p2 np2 => ?_
        have s2 := sm7.trans (same_new (o := .lst ((sortI (t.map (tAt tn))).map V.int)) np2)
        refine ⟨p2, _, rfl, .inl ⟨SqL.of upd_same, fun t2 nt2 => ?_⟩⟩
        have s3 := s2.trans (same_new (o := .tup ((sortI (t.map (tAt tn))).map V.int)) nt2)
        have hD3 := s3 _ _ hD
        refine ⟨D, acc, _, rfl, rfl, hD3, ?_, ⟨_, _, rfl, same_put (sm.trans s3) nD, acc ++ [.ref t2], upd_same, ?_⟩⟩
        · have := paired_len hac
          rw [List.length_map, List.length_take] at this
          omega
        · have keepT : ∀ {v : V} {u : Tbl}, TabV _ v u → TabV (upd _ D (.lst (acc ++ [.ref t2]))) v u := fun {v u} h => by
            obtain ⟨a, rfl, ha⟩ := h
            exact ⟨a, rfl, by rw [upd_ne (ne_of ha hD3 (by intro e; cases e))]; exact ha⟩
          rw [takeSucc ht, List.map_append]
          exact paired_snoc (paired_mono (fun v u h => keepT (h.mono (same_toT s3))) hac) (keepT ⟨t2, rfl, upd_same⟩)
    · obtain ⟨y3, y4, rfl, sm, acc, hD, hac⟩ := hI
      rw [paired_len hxs, List.take_of_length_le (Nat.le_refl _)] at hac
      refine ⟨.ref D, rfl, ?_⟩
      dsimp only [tNil]
      refine sort_tabs (.inl (SqL.of hD)) hac (fun t ht => ?_) fun ys p2 np2 hys => ?_
      · obtain ⟨u, hu, rfl⟩ := List.mem_map.mp ht
        intro e
        have e2 := congrArg List.length e
        rw [movedT_len] at e2
        exact (hrt u hu).1 (List.eq_nil_of_length_eq_zero e2)
      · have s1 : Same H5 (upd H5 p2 (.lst ys)) := same_new np2
        refine ⟨p2, _, rfl, .inl ⟨SqL.of upd_same, fun t nt => ?_⟩⟩
        have s2 := s1.trans (same_new (o := .tup ys) nt)
        exact q _ _ (sm.trans s2) ⟨t, ys, rfl, upd_same, paired_mono (fun _ _ h => h.mono (same_toT s2)) hys⟩
end Nf

set_option Elab.async false
set_option linter.all false
set_option maxRecDepth 100000
set_option maxHeartbeats 4000000
namespace Nf
open PySem PySem.Spec PyProof.Rows L2
/-! ### a round turned is a round -/
theorem tAt_nat9 {tn : List Int} {i : Nat} : tAt tn (i : Int) = tn.getD i 0 := by
  unfold tAt
  rw [Int.toNat_natCast]
theorem tAt_mem9 {tn : List Int} {g : Nat} (hp : tn.Perm (rangeI g)) {x : Int} (h0 : 0 ≤ x) (h1 : x < g) : 0 ≤ tAt tn x ∧ tAt tn x < g := by
  obtain ⟨n, rfl⟩ := Int.eq_ofNat_of_zero_le h0
  have hl : tn.length = g := by rw [hp.length_eq, rangeI_len]
  have hn : n < tn.length := by omega
  rw [tAt_nat9, List.getD_eq_getElem?_getD, List.getElem?_eq_getElem hn]
  exact mem_rangeI.mp (hp.mem_iff.mp (List.getElem_mem hn))
theorem tAt_inj9 {tn : List Int} {g : Nat} (hp : tn.Perm (rangeI g)) {x y : Int} (h0 : 0 ≤ x) (h1 : x < g) (h2 : 0 ≤ y) (h3 : y < g) (e : tAt tn x = tAt tn y) : x = y := by
  obtain ⟨n, rfl⟩ := Int.eq_ofNat_of_zero_le h0
  obtain ⟨m, rfl⟩ := Int.eq_ofNat_of_zero_le h2
  have hl : tn.length = g := by rw [hp.length_eq, rangeI_len]
  have hn : n < tn.length := by omega
  have hm : m < tn.length := by omega
  rw [tAt_nat9, tAt_nat9, List.getD_eq_getElem?_getD, List.getElem?_eq_getElem hn, List.getD_eq_getElem?_getD, List.getElem?_eq_getElem hm] at e
  have nd : tn.Nodup := hp.nodup_iff.mpr (rangeI_nodup g)
  have e : tn[n] = tn[m] := e
  rcases Nat.lt_trichotomy n m with z | z | z
  · exact absurd e (List.pairwise_iff_getElem.mp nd n m hn hm z)
  · rw [z]
  · exact absurd e.symm (List.pairwise_iff_getElem.mp nd m n hm hn z)
theorem flat_map_sort9 (tn : List Int) : ∀ r : Rnd, (r.map (movedT tn)).flatten.Perm (r.flatten.map (tAt tn))
  | [] => .refl _
  | t :: r => by
    rw [List.map_cons, List.flatten_cons, List.flatten_cons, List.map_append]
    exact (sortI_perm _).append (flat_map_sort9 tn r)
theorem flat_moved9 (tn : List Int) (r : Rnd) : (movedM tn r).flatten.Perm (r.flatten.map (tAt tn)) := by
  unfold movedM
  exact ((sortT_perm _).flatten).trans (flat_map_sort9 tn r)
theorem mem_moved9 {tn : List Int} {r : Rnd} {t : Tbl} : t ∈ movedM tn r ↔ ∃ u ∈ r, t = movedT tn u := by
  unfold movedM
  rw [(sortT_perm _).mem_iff, List.mem_map]
  constructor
  · rintro ⟨u, hu, rfl⟩
    exact ⟨u, hu, rfl⟩
  · rintro ⟨u, hu, rfl⟩
    exact ⟨u, hu, rfl⟩
theorem mem_movedT9 {tn : List Int} {t : Tbl} {x : Int} : x ∈ movedT tn t ↔ ∃ y ∈ t, x = tAt tn y := by
  unfold movedT
  rw [(sortI_perm _).mem_iff, List.mem_map]
  constructor
  · rintro ⟨u, hu, rfl⟩
    exact ⟨u, hu, rfl⟩
  · rintro ⟨u, hu, rfl⟩
    exact ⟨u, hu, rfl⟩
theorem moved_len9 (tn : List Int) (r : Rnd) : (movedM tn r).length = r.length := by
  unfold movedM
  rw [(sortT_perm _).length_eq, List.length_map]
theorem map_nodup_on9 {f : Int → Int} : ∀ {l : List Int}, (∀ x ∈ l, ∀ y ∈ l, f x = f y → x = y) → l.Nodup → (l.map f).Nodup
  | [], _, _ => by simp
  | x :: l, hf, hn => by
    obtain ⟨h1, h2⟩ := List.nodup_cons.mp hn
    rw [List.map_cons]
    refine List.nodup_cons.mpr ⟨fun h => ?_, map_nodup_on9 (fun a ha b hb => hf a (by simp [ha]) b (by simp [hb])) h2⟩
    obtain ⟨y, hy, e⟩ := List.mem_map.mp h
    have := hf x (by simp) y (by simp [hy]) e.symm
    exact h1 (this ▸ hy)
theorem moved_round9 {g : Nat} {s : Int} {r : Rnd} {tn : List Int} (hR : IsRound g s r) (hp : tn.Perm (rangeI g)) : IsRound g s (movedM tn r) := by
  have fl : (r.map (movedT tn)).flatten.Perm (r.flatten.map (tAt tn)) := flat_map_sort9 tn r
  unfold movedM
  refine isRound_sort (fun t ht => ?_) (fun t ht => ?_) (fun x hx => ?_) ?_ ?_
  · obtain ⟨u, hu, rfl⟩ := List.mem_map.mp ht
    rw [movedT_len]
    exact hR.sz u hu
  · obtain ⟨u, hu, rfl⟩ := List.mem_map.mp ht
    exact sortI_up _
  · obtain ⟨y, hy, rfl⟩ := List.mem_map.mp (fl.mem_iff.mp hx)
    exact tAt_mem9 hp (hR.lo y hy).1 (hR.lo y hy).2
  · exact fl.nodup_iff.mpr (map_nodup_on9 (fun x hx y hy e => tAt_inj9 hp (hR.lo x hx).1 (hR.lo x hx).2 (hR.lo y hy).1 (hR.lo y hy).2 e) hR.nd)
  · rw [List.length_map]
    exact hR.ct
end Nf

set_option Elab.async false
set_option linter.all false
set_option maxRecDepth 100000
set_option maxHeartbeats 4000000
namespace Nf
open PySem PySem.Spec PyProof.Rows L2
variable {P : Program} {w : World} {K : PySem.W.Frag} {mg : Str → Option Value} {base : Heap}
/-! ### alike, of what a verdict is -/
theorem scAlike : FnScope ["_law_found", "_law_due", "_law_k"] ["_law_found", "_law_due"] (defScope lAlike) := ⟨rfl, rfl, rfl, by decide +kernel, rfl, by decide +kernel, by decide +kernel⟩
theorem rd_isi {K : PySem.W.Frag} {H : Hp} {Q : VK} {x : V} {a b : String} {r : Bool} (ty : TyX K H x (.type a)) (h : kitB a b = some r) (q : Q (.bl r) H) : rIsi K [x, .ty b] H Q :=
  ⟨x, .ty b, .type a, .type b, r, rfl, .ty b, ty, kit_ty h, q⟩
theorem kNT : kitB "NoneType" "tuple" = some false := by decide +kernel
theorem kNL : kitB "NoneType" "list" = some false := by decide +kernel
theorem kIT : kitB "int" "tuple" = some false := by decide +kernel
theorem kIL : kitB "int" "list" = some false := by decide +kernel
theorem kIB : kitB "int" "bool" = some false := by decide +kernel
theorem kIS : kitB "int" "str" = some false := by decide +kernel
theorem kII : kitB "int" "int" = some true := by decide +kernel
theorem kST : kitB "str" "tuple" = some false := by decide +kernel
theorem kSL : kitB "str" "list" = some false := by decide +kernel
theorem kSB : kitB "str" "bool" = some false := by decide +kernel
theorem kSS : kitB "str" "str" = some true := by decide +kernel
theorem kTT : kitB "tuple" "tuple" = some true := by decide +kernel
theorem kTL : kitB "tuple" "list" = some false := by decide +kernel
def Flat : V → Prop := fun x => x = .non ∨ (∃ i, x = .int i) ∨ ∃ s, x = .str s
def spAlike1 : Sp := fun vs H Q _ => ∃ x : V, vs = [x, x] ∧ Flat x ∧ Q (.bl true) H
theorem ok_alike1 {f : Addr} {fd : FuncData} (F : Fun K "_law_alike" "_law_alike" lAlike f fd) (B : Blt mg) : FnOk P w K mg base CX0 1 f fd ["_law_found", "_law_due"] spAlike1 := by
  refine F.ok scAlike (fun vs H Q E h => ?_) (fun cdv A outer s H vs Q E hr h => ?_)
  · obtain ⟨x, rfl, _⟩ := h
    rfl
  · obtain ⟨x, rfl, hf, q⟩ := h
    refine ⟨_, pss_cons (ps_if (PW.pt (pw_or (pt_val (pe_callB call_isi (by rfl) B.isinstance (by decide +kernel) (pa_cons (pv 1) (pa_cons (pe_bltn (v := .ty "tuple") (by rfl) B.tuple (by decide +kernel) rfl) pa_nil))))
          (pw_or1 (pt_val (pe_callB call_isi (by rfl) B.isinstance (by decide +kernel) (pa_cons (pv 1) (pa_cons (pe_bltn (v := .ty "list") (by rfl) B.list (by decide +kernel) rfl) pa_nil))))))) pss_never pss_nil)
      (pss_cons (ps_if (PW.pt (pw_or (pt_cmpR op_isN (pv 1) pe_non (nomark _)) (pw_or1 (pt_cmpR op_isN (pv 0) pe_non (nomark _)))))
        (pss_one (ps_ret (pe_and (pe_cmpR op_isN (pv 1) pe_non (nomark _)) (pe_one (pe_cmpR op_isN (pv 0) pe_non (nomark _)))))) pss_nil)
      (pss_cons (ps_if (PW.pt (pw_or (pt_val (pe_callB call_isi (by rfl) B.isinstance (by decide +kernel) (pa_cons (pv 1) (pa_cons (pe_bltn (v := .ty "bool") (by rfl) B.bool (by decide +kernel) rfl) pa_nil))))
          (pw_or1 (pt_val (pe_callB call_isi (by rfl) B.isinstance (by decide +kernel) (pa_cons (pv 0) (pa_cons (pe_bltn (v := .ty "bool") (by rfl) B.bool (by decide +kernel) rfl) pa_nil))))))) pss_never pss_nil)
      (pss_cons (ps_if (pt_val (pe_callB call_isi (by rfl) B.isinstance (by decide +kernel) (pa_cons (pv 1) (pa_cons (pe_bltn (v := .ty "str") (by rfl) B.str (by decide +kernel) rfl) pa_nil))))
        (pss_one (ps_ret (pe_and (pe_callB call_isi (by rfl) B.isinstance (by decide +kernel) (pa_cons (pv 0) (pa_cons (pe_bltn (v := .ty "str") (by rfl) B.str (by decide +kernel) rfl) pa_nil))) (pe_one (pe_cmpR op_eq (pv 0) (pv 1) (nomark _)))))) pss_nil)
      (pss_one (ps_ret (pe_and (pe_callB call_isi (by rfl) B.isinstance (by decide +kernel) (pa_cons (pv 0) (pa_cons (pe_bltn (v := .ty "int") (by rfl) B.int (by decide +kernel) rfl) pa_nil))) (pe_one (pe_cmpR op_eq (pv 0) (pv 1) (nomark _))))))))), ?_⟩
    rcases hf with rfl | ⟨i, rfl⟩ | ⟨y, rfl⟩
    · refine ⟨.non, rfl, _, _, _, _, _, rfl, .ty _, (.base .non), kit_ty kNT, ⟨_, rfl, iteF ⟨.non, rfl, _, _, _, _, _, rfl, .ty _, (.base .non), kit_ty kNL, ⟨_, rfl, iteF ?_⟩⟩⟩⟩
      refine ⟨.non, rfl, rfl, _, rfl, iteT (iteT ?_)⟩
      exact ⟨.non, rfl, rfl, _, rfl, iteT ⟨.non, rfl, rfl, q⟩⟩
    · refine ⟨.int i, rfl, _, _, _, _, _, rfl, .ty _, (.base (.int i)), kit_ty kIT, ⟨_, rfl, iteF ⟨.int i, rfl, _, _, _, _, _, rfl, .ty _, (.base (.int i)), kit_ty kIL, ⟨_, rfl, iteF ?_⟩⟩⟩⟩
      refine ⟨.int i, rfl, rfl, _, rfl, iteF ⟨.int i, rfl, rfl, _, rfl, iteF ?_⟩⟩
      refine ⟨.int i, rfl, _, _, _, _, _, rfl, .ty _, (.base (.int i)), kit_ty kIB, ⟨_, rfl, iteF ⟨.int i, rfl, _, _, _, _, _, rfl, .ty _, (.base (.int i)), kit_ty kIB, ⟨_, rfl, iteF ?_⟩⟩⟩⟩
      refine ⟨.int i, rfl, _, _, _, _, _, rfl, .ty _, (.base (.int i)), kit_ty kIS, ⟨_, rfl, iteF ?_⟩⟩
      refine ⟨.int i, rfl, _, _, _, _, _, rfl, .ty _, (.base (.int i)), kit_ty kII, ⟨_, rfl, iteT ⟨.int i, rfl, .int i, rfl, rfl, ?_⟩⟩⟩
      rw [decide_eq_true rfl]
      exact q
    · refine ⟨.str y, rfl, _, _, _, _, _, rfl, .ty _, (.base (.str y)), kit_ty kST, ⟨_, rfl, iteF ⟨.str y, rfl, _, _, _, _, _, rfl, .ty _, (.base (.str y)), kit_ty kSL, ⟨_, rfl, iteF ?_⟩⟩⟩⟩
      refine ⟨.str y, rfl, rfl, _, rfl, iteF ⟨.str y, rfl, rfl, _, rfl, iteF ?_⟩⟩
      refine ⟨.str y, rfl, _, _, _, _, _, rfl, .ty _, (.base (.str y)), kit_ty kSB, ⟨_, rfl, iteF ⟨.str y, rfl, _, _, _, _, _, rfl, .ty _, (.base (.str y)), kit_ty kSB, ⟨_, rfl, iteF ?_⟩⟩⟩⟩
      refine ⟨.str y, rfl, _, _, _, _, _, rfl, .ty _, (.base (.str y)), kit_ty kSS, ⟨_, rfl, iteT ?_⟩⟩
      refine ⟨.str y, rfl, _, _, _, _, _, rfl, .ty _, (.base (.str y)), kit_ty kSS, ⟨_, rfl, iteT ⟨.str y, rfl, .str y, rfl, rfl, ?_⟩⟩⟩
      rw [decide_eq_true rfl]
      exact q
def SamV (H : Hp) (x y : V) : Prop := (x = .non ∧ y = .non) ∨ ∃ (p q : Addr) (us : List V), x = .ref p ∧ y = .ref q ∧ H p = some (.tup us) ∧ H q = some (.tup us) ∧ us.length ≤ 5 ∧ ∀ u ∈ us, Flat u
theorem verd_sam {H : Hp} {x y : V} {v : Verd} (h : VerdV H x v) (h' : VerdV H y v) : SamV H x y := by
  cases v with
  | good => exact .inl ⟨h, h'⟩
  | rnd k =>
    obtain ⟨p, rfl, e⟩ := h
    obtain ⟨q, rfl, e'⟩ := h'
    refine .inr ⟨p, q, _, rfl, rfl, e, e', by simp, fun u hu => ?_⟩
    simp only [List.mem_cons, List.not_mem_nil, or_false] at hu
    rcases hu with rfl | rfl
    · exact .inr (.inr ⟨_, rfl⟩)
    · exact .inr (.inl ⟨_, rfl⟩)
  | twice a b j k =>
    obtain ⟨p, rfl, e⟩ := h
    obtain ⟨q, rfl, e'⟩ := h'
    refine .inr ⟨p, q, _, rfl, rfl, e, e', by simp, fun u hu => ?_⟩
    simp only [List.mem_cons, List.not_mem_nil, or_false] at hu
    rcases hu with rfl | rfl | rfl | rfl | rfl
    · exact .inr (.inr ⟨_, rfl⟩)
    all_goals exact .inr (.inl ⟨_, rfl⟩)
def spAlike : Sp := fun vs H Q _ => ∃ x y : V, vs = [x, y] ∧ SamV H x y ∧ ∀ H', Same H H' → Q (.bl true) H'
theorem ok_alike {f : Addr} {fd : FuncData} (F : Fun K "_law_alike" "_law_alike" lAlike f fd) (B : Blt mg) (b : Binds K fd ["_law_found", "_law_due"] []) (gA : mg "_law_alike" = some (.ref f)) : FnOk P w K mg base CX0 2 f fd ["_law_found", "_law_due"] spAlike := by
  have GA : FnOk P w K mg base CX0 1 f fd ["_law_found", "_law_due"] spAlike1 := ok_alike1 F B
  refine F.ok scAlike (fun vs H Q E h => ?_) (fun cdv A outer s H vs Q E hr h => ?_)
  · obtain ⟨x, y, rfl, _⟩ := h
    rfl
  · obtain ⟨x, y, rfl, hf, q⟩ := h
    refine ⟨_, pss_cons (ps_if (PW.pt (pw_or (pt_val (pe_callB call_isi (by rfl) B.isinstance (by decide +kernel) (pa_cons (pv 1) (pa_cons (pe_bltn (v := .ty "tuple") (by rfl) B.tuple (by decide +kernel) rfl) pa_nil)))) (pw_or1 (pt_val (pe_callB call_isi (by rfl) B.isinstance (by decide +kernel) (pa_cons (pv 1) (pa_cons (pe_bltn (v := .ty "list") (by rfl) B.list (by decide +kernel) rfl) pa_nil)))))))
        (pss_cons (ps_if (PW.pt (pw_or (pt_cmpR op_ne (pe_callB call_isi (by rfl) B.isinstance (by decide +kernel) (pa_cons (pv 0) (pa_cons (pe_bltn (v := .ty "tuple") (by rfl) B.tuple (by decide +kernel) rfl) pa_nil))) (pe_callB call_isi (by rfl) B.isinstance (by decide +kernel) (pa_cons (pv 1) (pa_cons (pe_bltn (v := .ty "tuple") (by rfl) B.tuple (by decide +kernel) rfl) pa_nil))) (nomark _)) (pw_or1 (pt_not (pt_val (pe_callB call_isiT (by rfl) B.isinstance (by decide +kernel) (pa_cons (pv 0) (pa_cons (pe_tup (pa_cons (pe_bltn (v := .ty "tuple") (by rfl) B.tuple (by decide +kernel) rfl) (pa_cons (pe_bltn (v := .ty "list") (by rfl) B.list (by decide +kernel) rfl) pa_nil))) pa_nil))))))))
          pss_never pss_nil)
        (pss_cons (ps_if (pt_cmpR op_ne (pe_callB call_len_seq (by rfl) B.len PySem.boot_len (pa_cons (pv 0) pa_nil)) (pe_callB call_len_seq (by rfl) B.len PySem.boot_len (pa_cons (pv 1) pa_nil)) (nomark _)) pss_never pss_nil)
        (pss_one (ps_ret (pe_cmpR (op_eqD hr.units) (pe_lc (own := [("_law_k", 2)]) (g := gName 2) (tt := tNot (tB (tCall spAlike1 [] E0 (tCons (tOp (rIxT K) (tVar 0) (tVar 2)) (tCons (tOp (rIxT K) (tVar 1) (tVar 2)) tNil))))) (te := tVar 2) (by rfl) scAlike.nd
          (pi_range1 (by rfl) B.range (pa_cons (pe_callB call_len_seq (by rfl) B.len PySem.boot_len (pa_cons (pv 1) pa_nil)) pa_nil)) (blkOk_by (N := ["_law_found", "_law_due", "_law_k"]) (sc := defScope lAlike) (by decide +kernel))
          (fun _ _ _ _ _ => pg_name (i := 2) (x := "_law_k") scAlike.nd rfl (.inl rfl) (.inr rfl))
          (fun _ _ _ _ _ => pts_one (pt_not (pt_val (pe_call GA hr (by rfl) gA F.kp b .nil pass0 (pa_cons (pe_ix ix_tup (pv 0) (pv 2) (fun _ _ => rfl)) (pa_cons (pe_ix ix_tup (pv 1) (pv 2) (fun _ _ => rfl)) pa_nil)))))) (fun _ _ _ _ _ => pv 2)) (pe_lst pa_nil) (nomark _)))))) pss_nil)
      (pss_cons (ps_if (PW.pt (pw_or (pt_cmpR op_isN (pv 1) pe_non (nomark _)) (pw_or1 (pt_cmpR op_isN (pv 0) pe_non (nomark _)))))
        (pss_one (ps_ret (pe_and (pe_cmpR op_isN (pv 1) pe_non (nomark _)) (pe_one (pe_cmpR op_isN (pv 0) pe_non (nomark _)))))) pss_nil)
      pss_never), ?_⟩
    rcases hf with ⟨rfl, rfl⟩ | ⟨p, r, us, rfl, rfl, hp, hr', hl, hu⟩
    · refine ⟨.non, rfl, _, _, _, _, _, rfl, .ty _, (.base .non), kit_ty kNT, ⟨_, rfl, iteF ⟨.non, rfl, _, _, _, _, _, rfl, .ty _, (.base .non), kit_ty kNL, ⟨_, rfl, iteF ?_⟩⟩⟩⟩
      refine ⟨.non, rfl, rfl, _, rfl, iteT (iteT ?_)⟩
      exact ⟨.non, rfl, rfl, _, rfl, iteT ⟨.non, rfl, rfl, q _ (Same.refl _)⟩⟩
    · have tx : TyX K H (.ref r) (.type "tuple") := .base (.tup hr')
      have ty : TyX K H (.ref p) (.type "tuple") := .base (.tup hp)
      refine ⟨.ref r, rfl, _, _, _, _, _, rfl, .ty _, tx, kit_ty kTT, ⟨_, rfl, iteT (iteT ?_)⟩⟩
      refine ⟨.ref p, rfl, _, _, _, _, _, rfl, .ty _, ty, kit_ty kTT, .ref r, rfl, _, _, _, _, _, rfl, .ty _, tx, kit_ty kTT, rfl, _, rfl, iteF ?_⟩
      refine ⟨.ref p, rfl, two_le, fun T nT => ?_⟩
      have s1 : Same H (upd H T (.tup [.ty "tuple", .ty "list"])) := same_new nT
      have hp1 := s1 _ _ hp
      have hr1 := s1 _ _ hr'
      refine ⟨.ref p, T, _, .type "tuple", [.type "tuple", .type "list"], true, rfl, upd_same, .cons (.ty _) (.cons (.ty _) .nil), .base (.tup hp1), kitAny_cons (kit_ty kTT) (fun e => by cases e) (fun _ => rfl), ⟨_, rfl, iteF ?_⟩⟩
      refine ⟨.ref p, rfl, p, _, rfl, .inr (SqT.of hp1), .ref r, rfl, r, _, rfl, .inr (SqT.of hr1), rfl, _, rfl, ?_⟩
      rw [decide_eq_true rfl]
      refine iteF ?_
      -- no k at which they are unlike
      refine ⟨.ref r, rfl, r, _, rfl, .inr (SqT.of hr1), _, rfl, by omega, by omega, fun D nD => ?_⟩
      have s2 : Same (upd H T (.tup [.ty "tuple", .ty "list"])) (upd (upd H T (.tup [.ty "tuple", .ty "list"])) D (.lst [])) := same_new nD
      refine lc_it walk_range (fun i H5 => Same (upd H T (.tup [.ty "tuple", .ty "list"])) H5 ∧ H5 D = some (.lst [])) ⟨s2, upd_same⟩ (fun _ _ _ _ => trivial) (fun i x H5 H6 hi hI y => ?_) (fun H5 hI => ?_)
      · obtain ⟨rfl, hxv⟩ := y
        have ei : (0 : Int) + (i : Nat) = ((i : Nat) : Int) := by omega
        have hxv : x = V.int ((i : Nat) : Int) := hxv.trans (by show V.int (0 + (i : Nat)) = _; rw [ei])
        subst hxv
        obtain ⟨sm, hD⟩ := hI
        have hix : i < us.length := by omega
        have hg : us[i]? = some us[i] := List.getElem?_eq_getElem hix
        have hF := hu us[i] (List.getElem_mem hix)
        generalize us[i] = u at hg hF
        refine ⟨wipe_put (by decide), ?_⟩
        refine ⟨.ref p, rfl, .int ((i : Nat) : Int), rfl, p, us, _, u, rfl, rfl, SqT.of (sm _ _ hp1), atI_nat hg, .ref r, rfl, .int ((i : Nat) : Int), rfl, r, us, _, u, rfl, rfl, SqT.of (sm _ _ hr1), atI_nat hg, u, rfl, hF, _, rfl, iteF ⟨sm, hD⟩⟩
      · obtain ⟨sm, hD⟩ := hI
        refine ⟨Nat.zero_le _, fun e ne => ?_⟩
        have s3 : Same H5 (upd H5 e (.lst [])) := same_new ne
        exact ⟨.list [], .list [], .lst (SqL.of (s3 _ _ hD)) .nil, .lst (SqL.of upd_same) .nil, shNil, shNil, q _ ((s1.trans sm).trans s3)⟩
end Nf

set_option Elab.async false
set_option linter.all false
set_option maxRecDepth 100000
set_option maxHeartbeats 4000000
namespace Nf
open PySem PySem.Spec PyProof.Rows L2
variable {P : Program} {w : World} {K : PySem.W.Frag} {mg : Str → Option Value} {base : Heap}
/-! ### alike, of trees of tuples and lists, level by level -/
theorem kBT : kitB "bool" "tuple" = some false := by decide +kernel
theorem kBL : kitB "bool" "list" = some false := by decide +kernel
theorem kBB : kitB "bool" "bool" = some true := by decide +kernel
theorem kLT : kitB "list" "tuple" = some false := by decide +kernel
theorem kLL : kitB "list" "list" = some true := by decide +kernel
def FlatB : V → Prop := fun x => x = .non ∨ (∃ b, x = .bl b) ∨ (∃ i, x = .int i) ∨ ∃ s, x = .str s
/-- two values that tell the same tree, of at most n floors -/
def Tree (H : Hp) : Nat → V → V → Prop
  | 0, x, y => x = y ∧ FlatB x
  | n + 1, x, y => (x = y ∧ FlatB x) ∨ ∃ (p q : Addr) (xs ys : List V), x = .ref p ∧ y = .ref q ∧ ((H p = some (.tup xs) ∧ H q = some (.tup ys)) ∨ (H p = some (.lst xs) ∧ H q = some (.lst ys))) ∧ xs.length ≤ 100000 ∧ Paired (Tree H n) xs ys
theorem Tree.same {H H' : Hp} (s : Same H H') : ∀ {n : Nat} {x y : V}, Tree H n x y → Tree H' n x y
  | 0, _, _, h => h
  | n + 1, _, _, .inl h => .inl h
  | n + 1, _, _, .inr ⟨p, q, xs, ys, e1, e2, h, hl, hp⟩ => .inr ⟨p, q, xs, ys, e1, e2, h.imp (fun z => ⟨s _ _ z.1, s _ _ z.2⟩) (fun z => ⟨s _ _ z.1, s _ _ z.2⟩), hl, paired_mono (fun _ _ z => Tree.same s z) hp⟩
def spTree (n : Nat) : Sp := fun vs H Q _ => ∃ x y : V, vs = [x, y] ∧ Tree H n x y ∧ ∀ H', Same H H' → Q (.bl true) H'
theorem ok_tree0 {f : Addr} {fd : FuncData} (F : Fun K "_law_alike" "_law_alike" lAlike f fd) (B : Blt mg) : FnOk P w K mg base CX0 1 f fd ["_law_found", "_law_due"] (spTree 0) := by
  refine F.ok scAlike (fun vs H Q E h => ?_) (fun cdv A outer s H vs Q E hr h => ?_)
  · obtain ⟨x, y, rfl, _⟩ := h
    rfl
  · obtain ⟨x, _, rfl, ⟨rfl, hf⟩, q⟩ := h
    refine ⟨_, (pss_cons (ps_if (PW.pt (pw_or (pt_val (pe_callB call_isi (by rfl) B.isinstance (by decide +kernel) (pa_cons (pv 1) (pa_cons (pe_bltn (v := .ty "tuple") (by rfl) B.tuple (by decide +kernel) rfl) pa_nil)))) (pw_or1 (pt_val (pe_callB call_isi (by rfl) B.isinstance (by decide +kernel) (pa_cons (pv 1) (pa_cons (pe_bltn (v := .ty "list") (by rfl) B.list (by decide +kernel) rfl) pa_nil))))))) pss_never pss_nil)
      (pss_cons (ps_if (PW.pt (pw_or (pt_cmpR op_isN (pv 1) pe_non (nomark _)) (pw_or1 (pt_cmpR op_isN (pv 0) pe_non (nomark _)))))
        (pss_one (ps_ret (pe_and (pe_cmpR op_isN (pv 1) pe_non (nomark _)) (pe_one (pe_cmpR op_isN (pv 0) pe_non (nomark _)))))) pss_nil)
      (pss_cons (ps_if (PW.pt (pw_or (pt_val (pe_callB call_isi (by rfl) B.isinstance (by decide +kernel) (pa_cons (pv 1) (pa_cons (pe_bltn (v := .ty "bool") (by rfl) B.bool (by decide +kernel) rfl) pa_nil)))) (pw_or1 (pt_val (pe_callB call_isi (by rfl) B.isinstance (by decide +kernel) (pa_cons (pv 0) (pa_cons (pe_bltn (v := .ty "bool") (by rfl) B.bool (by decide +kernel) rfl) pa_nil)))))))
        (pss_one (ps_ret (pe_and (pe_callB call_isi (by rfl) B.isinstance (by decide +kernel) (pa_cons (pv 1) (pa_cons (pe_bltn (v := .ty "bool") (by rfl) B.bool (by decide +kernel) rfl) pa_nil))) (pe_and (pe_callB call_isi (by rfl) B.isinstance (by decide +kernel) (pa_cons (pv 0) (pa_cons (pe_bltn (v := .ty "bool") (by rfl) B.bool (by decide +kernel) rfl) pa_nil))) (pe_one (pe_cmpR op_eq (pv 0) (pv 1) (nomark _))))))) pss_nil)
      (pss_cons (ps_if (pt_val (pe_callB call_isi (by rfl) B.isinstance (by decide +kernel) (pa_cons (pv 1) (pa_cons (pe_bltn (v := .ty "str") (by rfl) B.str (by decide +kernel) rfl) pa_nil)))) (pss_one (ps_ret (pe_and (pe_callB call_isi (by rfl) B.isinstance (by decide +kernel) (pa_cons (pv 0) (pa_cons (pe_bltn (v := .ty "str") (by rfl) B.str (by decide +kernel) rfl) pa_nil))) (pe_one (pe_cmpR op_eq (pv 0) (pv 1) (nomark _)))))) pss_nil)
      (pss_one (ps_ret (pe_and (pe_callB call_isi (by rfl) B.isinstance (by decide +kernel) (pa_cons (pv 0) (pa_cons (pe_bltn (v := .ty "int") (by rfl) B.int (by decide +kernel) rfl) pa_nil))) (pe_one (pe_cmpR op_eq (pv 0) (pv 1) (nomark _)))))))))), ?_⟩
    rcases hf with rfl | ⟨b, rfl⟩ | ⟨i, rfl⟩ | ⟨y, rfl⟩
    · refine ⟨.non, rfl, _, _, _, _, _, rfl, .ty _, (.base .non), kit_ty kNT, ⟨_, rfl, iteF ⟨.non, rfl, _, _, _, _, _, rfl, .ty _, (.base .non), kit_ty kNL, ⟨_, rfl, iteF ?_⟩⟩⟩⟩
      refine ⟨.non, rfl, rfl, _, rfl, iteT (iteT ?_)⟩
      exact ⟨.non, rfl, rfl, _, rfl, iteT ⟨.non, rfl, rfl, q _ (Same.refl _)⟩⟩
    · refine ⟨.bl b, rfl, _, _, _, _, _, rfl, .ty _, (.base (.bl b)), kit_ty kBT, ⟨_, rfl, iteF ⟨.bl b, rfl, _, _, _, _, _, rfl, .ty _, (.base (.bl b)), kit_ty kBL, ⟨_, rfl, iteF ?_⟩⟩⟩⟩
      refine ⟨.bl b, rfl, rfl, _, rfl, iteF ⟨.bl b, rfl, rfl, _, rfl, iteF ?_⟩⟩
      refine ⟨.bl b, rfl, _, _, _, _, _, rfl, .ty _, (.base (.bl b)), kit_ty kBB, ⟨_, rfl, iteT (iteT ?_)⟩⟩
      refine ⟨.bl b, rfl, _, _, _, _, _, rfl, .ty _, (.base (.bl b)), kit_ty kBB, ⟨_, rfl, iteT ⟨.bl b, rfl, _, _, _, _, _, rfl, .ty _, (.base (.bl b)), kit_ty kBB, ⟨_, rfl, iteT ⟨.bl b, rfl, .bl b, rfl, rfl, ?_⟩⟩⟩⟩⟩
      rw [decide_eq_true rfl]
      exact q _ (Same.refl _)
    · refine ⟨.int i, rfl, _, _, _, _, _, rfl, .ty _, (.base (.int i)), kit_ty kIT, ⟨_, rfl, iteF ⟨.int i, rfl, _, _, _, _, _, rfl, .ty _, (.base (.int i)), kit_ty kIL, ⟨_, rfl, iteF ?_⟩⟩⟩⟩
      refine ⟨.int i, rfl, rfl, _, rfl, iteF ⟨.int i, rfl, rfl, _, rfl, iteF ?_⟩⟩
      refine ⟨.int i, rfl, _, _, _, _, _, rfl, .ty _, (.base (.int i)), kit_ty kIB, ⟨_, rfl, iteF ⟨.int i, rfl, _, _, _, _, _, rfl, .ty _, (.base (.int i)), kit_ty kIB, ⟨_, rfl, iteF ?_⟩⟩⟩⟩
      refine ⟨.int i, rfl, _, _, _, _, _, rfl, .ty _, (.base (.int i)), kit_ty kIS, ⟨_, rfl, iteF ?_⟩⟩
      refine ⟨.int i, rfl, _, _, _, _, _, rfl, .ty _, (.base (.int i)), kit_ty kII, ⟨_, rfl, iteT ⟨.int i, rfl, .int i, rfl, rfl, ?_⟩⟩⟩
      rw [decide_eq_true rfl]
      exact q _ (Same.refl _)
    · refine ⟨.str y, rfl, _, _, _, _, _, rfl, .ty _, (.base (.str y)), kit_ty kST, ⟨_, rfl, iteF ⟨.str y, rfl, _, _, _, _, _, rfl, .ty _, (.base (.str y)), kit_ty kSL, ⟨_, rfl, iteF ?_⟩⟩⟩⟩
      refine ⟨.str y, rfl, rfl, _, rfl, iteF ⟨.str y, rfl, rfl, _, rfl, iteF ?_⟩⟩
      refine ⟨.str y, rfl, _, _, _, _, _, rfl, .ty _, (.base (.str y)), kit_ty kSB, ⟨_, rfl, iteF ⟨.str y, rfl, _, _, _, _, _, rfl, .ty _, (.base (.str y)), kit_ty kSB, ⟨_, rfl, iteF ?_⟩⟩⟩⟩
      refine ⟨.str y, rfl, _, _, _, _, _, rfl, .ty _, (.base (.str y)), kit_ty kSS, ⟨_, rfl, iteT ?_⟩⟩
      refine ⟨.str y, rfl, _, _, _, _, _, rfl, .ty _, (.base (.str y)), kit_ty kSS, ⟨_, rfl, iteT ⟨.str y, rfl, .str y, rfl, rfl, ?_⟩⟩⟩
      rw [decide_eq_true rfl]
      exact q _ (Same.refl _)

theorem ok_treeS {n : Nat} {f : Addr} {fd : FuncData} (F : Fun K "_law_alike" "_law_alike" lAlike f fd) (B : Blt mg) (b : Binds K fd ["_law_found", "_law_due"] []) (gA : mg "_law_alike" = some (.ref f)) (GA : FnOk P w K mg base CX0 (n + 1) f fd ["_law_found", "_law_due"] (spTree n)) :
    FnOk P w K mg base CX0 (n + 2) f fd ["_law_found", "_law_due"] (spTree (n + 1)) := by
  refine F.ok scAlike (fun vs H Q E h => ?_) (fun cdv A outer s H vs Q E hr h => ?_)
  · obtain ⟨x, y, rfl, _⟩ := h
    rfl
  · obtain ⟨x, y, rfl, hf, q⟩ := h
    refine ⟨_, (pss_cons (ps_if (PW.pt (pw_or (pt_val (pe_callB call_isi (by rfl) B.isinstance (by decide +kernel) (pa_cons (pv 1) (pa_cons (pe_bltn (v := .ty "tuple") (by rfl) B.tuple (by decide +kernel) rfl) pa_nil)))) (pw_or1 (pt_val (pe_callB call_isi (by rfl) B.isinstance (by decide +kernel) (pa_cons (pv 1) (pa_cons (pe_bltn (v := .ty "list") (by rfl) B.list (by decide +kernel) rfl) pa_nil)))))))
        (pss_cons (ps_if (PW.pt (pw_or (pt_cmpR op_ne (pe_callB call_isi (by rfl) B.isinstance (by decide +kernel) (pa_cons (pv 0) (pa_cons (pe_bltn (v := .ty "tuple") (by rfl) B.tuple (by decide +kernel) rfl) pa_nil))) (pe_callB call_isi (by rfl) B.isinstance (by decide +kernel) (pa_cons (pv 1) (pa_cons (pe_bltn (v := .ty "tuple") (by rfl) B.tuple (by decide +kernel) rfl) pa_nil))) (nomark _)) (pw_or1 (pt_not (pt_val (pe_callB call_isiT (by rfl) B.isinstance (by decide +kernel) (pa_cons (pv 0) (pa_cons (pe_tup (pa_cons (pe_bltn (v := .ty "tuple") (by rfl) B.tuple (by decide +kernel) rfl) (pa_cons (pe_bltn (v := .ty "list") (by rfl) B.list (by decide +kernel) rfl) pa_nil))) pa_nil))))))))
          pss_never pss_nil)
        (pss_cons (ps_if (pt_cmpR op_ne (pe_callB call_len_seq (by rfl) B.len PySem.boot_len (pa_cons (pv 0) pa_nil)) (pe_callB call_len_seq (by rfl) B.len PySem.boot_len (pa_cons (pv 1) pa_nil)) (nomark _)) pss_never pss_nil)
        (pss_one (ps_ret (pe_cmpR (op_eqD hr.units) (pe_lc (own := [("_law_k", 2)]) (g := gName 2) (tt := tNot (tB (tCall (spTree n) [] E0 (tCons (tOp (rIx K) (tVar 0) (tVar 2)) (tCons (tOp (rIx K) (tVar 1) (tVar 2)) tNil))))) (te := tVar 2) (by rfl) scAlike.nd
          (pi_range1 (by rfl) B.range (pa_cons (pe_callB call_len_seq (by rfl) B.len PySem.boot_len (pa_cons (pv 1) pa_nil)) pa_nil)) (blkOk_by (N := ["_law_found", "_law_due", "_law_k"]) (sc := defScope lAlike) (by decide +kernel))
          (fun _ _ _ _ _ => pg_name (i := 2) (x := "_law_k") scAlike.nd rfl (.inl rfl) (.inr rfl))
          (fun _ _ _ _ _ => pts_one (pt_not (pt_val (pe_call GA hr (by rfl) gA F.kp b .nil pass0 (pa_cons (pe_ix ix_seq (pv 0) (pv 2) (fun _ _ => rfl)) (pa_cons (pe_ix ix_seq (pv 1) (pv 2) (fun _ _ => rfl)) pa_nil)))))) (fun _ _ _ _ _ => pv 2)) (pe_lst pa_nil) (nomark _)))))) pss_nil)
      (pss_cons (ps_if (PW.pt (pw_or (pt_cmpR op_isN (pv 1) pe_non (nomark _)) (pw_or1 (pt_cmpR op_isN (pv 0) pe_non (nomark _)))))
        (pss_one (ps_ret (pe_and (pe_cmpR op_isN (pv 1) pe_non (nomark _)) (pe_one (pe_cmpR op_isN (pv 0) pe_non (nomark _)))))) pss_nil)
      (pss_cons (ps_if (PW.pt (pw_or (pt_val (pe_callB call_isi (by rfl) B.isinstance (by decide +kernel) (pa_cons (pv 1) (pa_cons (pe_bltn (v := .ty "bool") (by rfl) B.bool (by decide +kernel) rfl) pa_nil)))) (pw_or1 (pt_val (pe_callB call_isi (by rfl) B.isinstance (by decide +kernel) (pa_cons (pv 0) (pa_cons (pe_bltn (v := .ty "bool") (by rfl) B.bool (by decide +kernel) rfl) pa_nil)))))))
        (pss_one (ps_ret (pe_and (pe_callB call_isi (by rfl) B.isinstance (by decide +kernel) (pa_cons (pv 1) (pa_cons (pe_bltn (v := .ty "bool") (by rfl) B.bool (by decide +kernel) rfl) pa_nil))) (pe_and (pe_callB call_isi (by rfl) B.isinstance (by decide +kernel) (pa_cons (pv 0) (pa_cons (pe_bltn (v := .ty "bool") (by rfl) B.bool (by decide +kernel) rfl) pa_nil))) (pe_one (pe_cmpR op_eq (pv 0) (pv 1) (nomark _))))))) pss_nil)
      (pss_cons (ps_if (pt_val (pe_callB call_isi (by rfl) B.isinstance (by decide +kernel) (pa_cons (pv 1) (pa_cons (pe_bltn (v := .ty "str") (by rfl) B.str (by decide +kernel) rfl) pa_nil)))) (pss_one (ps_ret (pe_and (pe_callB call_isi (by rfl) B.isinstance (by decide +kernel) (pa_cons (pv 0) (pa_cons (pe_bltn (v := .ty "str") (by rfl) B.str (by decide +kernel) rfl) pa_nil))) (pe_one (pe_cmpR op_eq (pv 0) (pv 1) (nomark _)))))) pss_nil)
      (pss_one (ps_ret (pe_and (pe_callB call_isi (by rfl) B.isinstance (by decide +kernel) (pa_cons (pv 0) (pa_cons (pe_bltn (v := .ty "int") (by rfl) B.int (by decide +kernel) rfl) pa_nil))) (pe_one (pe_cmpR op_eq (pv 0) (pv 1) (nomark _)))))))))), ?_⟩
    rcases hf with ⟨rfl, hf⟩ | ⟨p, r, us, ws, rfl, rfl, hpr, hl, hu⟩
    · rcases hf with rfl | ⟨b, rfl⟩ | ⟨i, rfl⟩ | ⟨y, rfl⟩
      · refine ⟨.non, rfl, _, _, _, _, _, rfl, .ty _, (.base .non), kit_ty kNT, ⟨_, rfl, iteF ⟨.non, rfl, _, _, _, _, _, rfl, .ty _, (.base .non), kit_ty kNL, ⟨_, rfl, iteF ?_⟩⟩⟩⟩
        refine ⟨.non, rfl, rfl, _, rfl, iteT (iteT ?_)⟩
        exact ⟨.non, rfl, rfl, _, rfl, iteT ⟨.non, rfl, rfl, q _ (Same.refl _)⟩⟩
      · refine ⟨.bl b, rfl, _, _, _, _, _, rfl, .ty _, (.base (.bl b)), kit_ty kBT, ⟨_, rfl, iteF ⟨.bl b, rfl, _, _, _, _, _, rfl, .ty _, (.base (.bl b)), kit_ty kBL, ⟨_, rfl, iteF ?_⟩⟩⟩⟩
        refine ⟨.bl b, rfl, rfl, _, rfl, iteF ⟨.bl b, rfl, rfl, _, rfl, iteF ?_⟩⟩
        refine ⟨.bl b, rfl, _, _, _, _, _, rfl, .ty _, (.base (.bl b)), kit_ty kBB, ⟨_, rfl, iteT (iteT ?_)⟩⟩
        refine ⟨.bl b, rfl, _, _, _, _, _, rfl, .ty _, (.base (.bl b)), kit_ty kBB, ⟨_, rfl, iteT ⟨.bl b, rfl, _, _, _, _, _, rfl, .ty _, (.base (.bl b)), kit_ty kBB, ⟨_, rfl, iteT ⟨.bl b, rfl, .bl b, rfl, rfl, ?_⟩⟩⟩⟩⟩
        rw [decide_eq_true rfl]
        exact q _ (Same.refl _)
      · refine ⟨.int i, rfl, _, _, _, _, _, rfl, .ty _, (.base (.int i)), kit_ty kIT, ⟨_, rfl, iteF ⟨.int i, rfl, _, _, _, _, _, rfl, .ty _, (.base (.int i)), kit_ty kIL, ⟨_, rfl, iteF ?_⟩⟩⟩⟩
        refine ⟨.int i, rfl, rfl, _, rfl, iteF ⟨.int i, rfl, rfl, _, rfl, iteF ?_⟩⟩
        refine ⟨.int i, rfl, _, _, _, _, _, rfl, .ty _, (.base (.int i)), kit_ty kIB, ⟨_, rfl, iteF ⟨.int i, rfl, _, _, _, _, _, rfl, .ty _, (.base (.int i)), kit_ty kIB, ⟨_, rfl, iteF ?_⟩⟩⟩⟩
        refine ⟨.int i, rfl, _, _, _, _, _, rfl, .ty _, (.base (.int i)), kit_ty kIS, ⟨_, rfl, iteF ?_⟩⟩
        refine ⟨.int i, rfl, _, _, _, _, _, rfl, .ty _, (.base (.int i)), kit_ty kII, ⟨_, rfl, iteT ⟨.int i, rfl, .int i, rfl, rfl, ?_⟩⟩⟩
        rw [decide_eq_true rfl]
        exact q _ (Same.refl _)
      · refine ⟨.str y, rfl, _, _, _, _, _, rfl, .ty _, (.base (.str y)), kit_ty kST, ⟨_, rfl, iteF ⟨.str y, rfl, _, _, _, _, _, rfl, .ty _, (.base (.str y)), kit_ty kSL, ⟨_, rfl, iteF ?_⟩⟩⟩⟩
        refine ⟨.str y, rfl, rfl, _, rfl, iteF ⟨.str y, rfl, rfl, _, rfl, iteF ?_⟩⟩
        refine ⟨.str y, rfl, _, _, _, _, _, rfl, .ty _, (.base (.str y)), kit_ty kSB, ⟨_, rfl, iteF ⟨.str y, rfl, _, _, _, _, _, rfl, .ty _, (.base (.str y)), kit_ty kSB, ⟨_, rfl, iteF ?_⟩⟩⟩⟩
        refine ⟨.str y, rfl, _, _, _, _, _, rfl, .ty _, (.base (.str y)), kit_ty kSS, ⟨_, rfl, iteT ?_⟩⟩
        refine ⟨.str y, rfl, _, _, _, _, _, rfl, .ty _, (.base (.str y)), kit_ty kSS, ⟨_, rfl, iteT ⟨.str y, rfl, .str y, rfl, rfl, ?_⟩⟩⟩
        rw [decide_eq_true rfl]
        exact q _ (Same.refl _)
    · have hlen := paired_len hu
      rcases hpr with ⟨hp, hq⟩ | ⟨hp, hq⟩
      · have tx : TyX K H (.ref r) (.type "tuple") := .base (.tup hq)
        have ty : TyX K H (.ref p) (.type "tuple") := .base (.tup hp)
        refine ⟨.ref r, rfl, _, _, _, _, _, rfl, .ty _, tx, kit_ty kTT, ⟨_, rfl, iteT (iteT ?_)⟩⟩
        refine ⟨.ref p, rfl, _, _, _, _, _, rfl, .ty _, ty, kit_ty kTT, .ref r, rfl, _, _, _, _, _, rfl, .ty _, tx, kit_ty kTT, rfl, _, rfl, iteF ?_⟩
        refine ⟨.ref p, rfl, two_le, fun T nT => ?_⟩
        have s1 : Same H (upd H T (.tup [.ty "tuple", .ty "list"])) := same_new nT
        have hT1 : (upd H T (.tup [.ty "tuple", .ty "list"])) T = some (.tup [.ty "tuple", .ty "list"]) := upd_same
        generalize (upd H T (.tup [.ty "tuple", .ty "list"])) = H1 at s1 hT1 ⊢
        have hp1 := s1 _ _ hp
        have hq1 := s1 _ _ hq
        refine ⟨.ref p, T, _, .type "tuple", [.type "tuple", .type "list"], true, rfl, hT1, .cons (.ty _) (.cons (.ty _) .nil), .base (.tup hp1), kitAny_cons (kit_ty kTT) (fun e => by cases e) (fun _ => rfl), ⟨_, rfl, iteF ?_⟩⟩
        refine ⟨.ref p, rfl, p, _, rfl, .inr (SqT.of hp1), .ref r, rfl, r, _, rfl, .inr (SqT.of hq1), rfl, _, rfl, ?_⟩
        rw [hlen, decide_eq_true rfl]
        refine iteF ?_
        refine ⟨.ref r, rfl, r, _, rfl, .inr (SqT.of hq1), _, rfl, by omega, by omega, fun D nD => ?_⟩
        have s2 : Same H1 (upd H1 D (.lst [])) := same_new nD
        refine lc_it walk_range (fun i H5 => Same H1 H5 ∧ H5 D = some (.lst [])) ⟨s2, upd_same⟩ (fun _ _ _ _ => trivial) (fun i x H5 H6 hi hI y => ?_) (fun H5 hI => ?_)
        · obtain ⟨rfl, hxv⟩ := y
          have ei : (0 : Int) + (i : Nat) = ((i : Nat) : Int) := by omega
          have hxv : x = V.int ((i : Nat) : Int) := hxv.trans (by show V.int (0 + (i : Nat)) = _; rw [ei])
          subst hxv
          obtain ⟨sm, hD⟩ := hI
          have hix : i < us.length := by omega
          have hg : us[i]? = some us[i] := List.getElem?_eq_getElem hix
          generalize us[i] = u at hg
          obtain ⟨v, hv, hF⟩ := paired_getL hu hg
          refine ⟨wipe_put (by decide), ?_⟩
          refine ⟨.ref p, rfl, .int ((i : Nat) : Int), rfl, .inr (.inl ⟨p, us, _, u, rfl, rfl, SqT.of (sm _ _ hp1), atI_nat hg, .ref r, rfl, .int ((i : Nat) : Int), rfl, .inr (.inl ⟨r, ws, _, v, rfl, rfl, SqT.of (sm _ _ hq1), atI_nat hv, u, v, rfl, hF.same (s1.trans sm), fun H7 s7 => ⟨_, rfl, iteF ⟨sm.trans s7, s7 _ _ hD⟩⟩⟩)⟩)⟩
        · obtain ⟨sm, hD⟩ := hI
          refine ⟨Nat.zero_le _, fun e ne => ?_⟩
          have s3 : Same H5 (upd H5 e (.lst [])) := same_new ne
          exact ⟨.list [], .list [], .lst (SqL.of (s3 _ _ hD)) .nil, .lst (SqL.of upd_same) .nil, shNil, shNil, q _ ((s1.trans sm).trans s3)⟩
      · have tx : TyX K H (.ref r) (.type "list") := .base (.lst hq)
        have ty : TyX K H (.ref p) (.type "list") := .base (.lst hp)
        refine ⟨.ref r, rfl, _, _, _, _, _, rfl, .ty _, tx, kit_ty kLT, ⟨_, rfl, iteF ⟨.ref r, rfl, _, _, _, _, _, rfl, .ty _, tx, kit_ty kLL, ⟨_, rfl, iteT ?_⟩⟩⟩⟩
        refine ⟨.ref p, rfl, _, _, _, _, _, rfl, .ty _, ty, kit_ty kLT, .ref r, rfl, _, _, _, _, _, rfl, .ty _, tx, kit_ty kLT, rfl, _, rfl, iteF ?_⟩
        refine ⟨.ref p, rfl, two_le, fun T nT => ?_⟩
        have s1 : Same H (upd H T (.tup [.ty "tuple", .ty "list"])) := same_new nT
        have hT1 : (upd H T (.tup [.ty "tuple", .ty "list"])) T = some (.tup [.ty "tuple", .ty "list"]) := upd_same
        generalize (upd H T (.tup [.ty "tuple", .ty "list"])) = H1 at s1 hT1 ⊢
        have hp1 := s1 _ _ hp
        have hq1 := s1 _ _ hq
        refine ⟨.ref p, T, _, .type "list", [.type "tuple", .type "list"], true, rfl, hT1, .cons (.ty _) (.cons (.ty _) .nil), .base (.lst hp1), kitAny_cons (kit_ty kLT) (fun _ => kitAny_cons (kit_ty kLL) (fun e => by cases e) (fun _ => rfl)) (fun e => by cases e), ⟨_, rfl, iteF ?_⟩⟩
        refine ⟨.ref p, rfl, p, _, rfl, .inl (SqL.of hp1), .ref r, rfl, r, _, rfl, .inl (SqL.of hq1), rfl, _, rfl, ?_⟩
        rw [hlen, decide_eq_true rfl]
        refine iteF ?_
        refine ⟨.ref r, rfl, r, _, rfl, .inl (SqL.of hq1), _, rfl, by omega, by omega, fun D nD => ?_⟩
        have s2 : Same H1 (upd H1 D (.lst [])) := same_new nD
        refine lc_it walk_range (fun i H5 => Same H1 H5 ∧ H5 D = some (.lst [])) ⟨s2, upd_same⟩ (fun _ _ _ _ => trivial) (fun i x H5 H6 hi hI y => ?_) (fun H5 hI => ?_)
        · obtain ⟨rfl, hxv⟩ := y
          have ei : (0 : Int) + (i : Nat) = ((i : Nat) : Int) := by omega
          have hxv : x = V.int ((i : Nat) : Int) := hxv.trans (by show V.int (0 + (i : Nat)) = _; rw [ei])
          subst hxv
          obtain ⟨sm, hD⟩ := hI
          have hix : i < us.length := by omega
          have hg : us[i]? = some us[i] := List.getElem?_eq_getElem hix
          generalize us[i] = u at hg
          obtain ⟨v, hv, hF⟩ := paired_getL hu hg
          refine ⟨wipe_put (by decide), ?_⟩
          refine ⟨.ref p, rfl, .int ((i : Nat) : Int), rfl, .inl ⟨p, us, _, u, rfl, rfl, SqL.of (sm _ _ hp1), atI_nat hg, .ref r, rfl, .int ((i : Nat) : Int), rfl, .inl ⟨r, ws, _, v, rfl, rfl, SqL.of (sm _ _ hq1), atI_nat hv, u, v, rfl, hF.same (s1.trans sm), fun H7 s7 => ⟨_, rfl, iteF ⟨sm.trans s7, s7 _ _ hD⟩⟩⟩⟩⟩
        · obtain ⟨sm, hD⟩ := hI
          refine ⟨Nat.zero_le _, fun e ne => ?_⟩
          have s3 : Same H5 (upd H5 e (.lst [])) := same_new ne
          exact ⟨.list [], .list [], .lst (SqL.of (s3 _ _ hD)) .nil, .lst (SqL.of upd_same) .nil, shNil, shNil, q _ ((s1.trans sm).trans s3)⟩
theorem ok_tree {f : Addr} {fd : FuncData} (F : Fun K "_law_alike" "_law_alike" lAlike f fd) (B : Blt mg) (b : Binds K fd ["_law_found", "_law_due"] []) (gA : mg "_law_alike" = some (.ref f)) : ∀ n : Nat, FnOk P w K mg base CX0 (n + 1) f fd ["_law_found", "_law_due"] (spTree n)
  | 0 => ok_tree0 F B
  | n + 1 => ok_treeS F B b gA (ok_tree F B b gA n)
end Nf

set_option Elab.async false
set_option linter.all false
set_option maxRecDepth 100000
set_option maxHeartbeats 4000000
namespace Nf
open PySem PySem.Spec PyProof.Rows L2
/-! ### for all laws: rounds as trees; what follows an if, met once -/
theorem intsT {H : Hp} : ∀ ns : List Int, Paired (Tree H 0) (ns.map V.int) (ns.map V.int)
  | [] => .nil
  | n :: ns => .cons ⟨rfl, .inr (.inr (.inl ⟨n, rfl⟩))⟩ (intsT ns)
theorem tabT {H : Hp} {x y : V} {t : Tbl} (h1 : TabV H x t) (h2 : TabV H y t) (hl : t.length ≤ 100000) : Tree H 1 x y := by
  obtain ⟨p, rfl, hp⟩ := h1
  obtain ⟨q, rfl, hq⟩ := h2
  exact .inr ⟨p, q, _, _, rfl, rfl, .inl ⟨hp, hq⟩, by rw [List.length_map]; exact hl, intsT t⟩
theorem tabsT {H : Hp} : ∀ {r : Rnd} {xs ys : List V}, Paired (TabV H) xs r → Paired (TabV H) ys r → (∀ t ∈ r, t.length ≤ 100000) → Paired (Tree H 1) xs ys
  | _, _, _, .nil, .nil, _ => .nil
  | _, _, _, .cons r t, .cons r' t', h => .cons (tabT r r' (h _ (by simp))) (tabsT t t' fun row hr => h row (by simp [hr]))
theorem rndT {H : Hp} {x y : V} {r : Rnd} (h1 : RndV H x r) (h2 : RndV H y r) (hl : r.length ≤ 100000) (ht : ∀ t ∈ r, t.length ≤ 100000) : Tree H 2 x y := by
  obtain ⟨p, xs, rfl, hp, px⟩ := h1
  obtain ⟨q, ys, rfl, hq, py⟩ := h2
  exact .inr ⟨p, q, _, _, rfl, rfl, .inl ⟨hp, hq⟩, by rw [paired_len px]; exact hl, tabsT px py ht⟩
theorem rndsT {H : Hp} : ∀ {rs : List Rnd} {xs ys : List V}, Paired (RndV H) xs rs → Paired (RndV H) ys rs → (∀ r ∈ rs, r.length ≤ 100000 ∧ ∀ t ∈ r, t.length ≤ 100000) → Paired (Tree H 2) xs ys
  | _, _, _, .nil, .nil, _ => .nil
  | _, _, _, .cons r t, .cons r' t', h => .cons (rndT r r' (h _ (by simp)).1 (h _ (by simp)).2) (rndsT t t' fun row hr => h row (by simp [hr]))
theorem joinS {c : Bool} {t : TS} {D : Ends} {σ : L2.St} {H : Hp} {Ok : L2.St → Hp → Prop} (hN : ∀ σ' H', Ok σ' H' → D.nx σ' H') (hA : c = true → (∀ σ' H', Ok σ' H' → D.nx σ' H') → t D σ H) (h : c = false → Ok σ H) : if c = true then t D σ H else D.nx σ H := by
  cases c with
  | true => exact iteT (hA rfl hN)
  | false => exact iteF (hN _ _ (h rfl))
theorem ifTrue {tt : TT} {t u k : TS} {D : Ends} {σ : L2.St} {H : Hp} (Ok : Hp → Prop) (h : ∀ F' : Bool → Hp → Prop, (∀ H', Ok H' → F' true H') → tt σ H F') (hF : ∀ H', Ok H' → t { D with nx := k D } σ H') : tSeq (tIfS tt t u) k D σ H := h _ fun H' o => iteT (hF H' o)
theorem ifFalse {tt : TT} {t u k : TS} {D : Ends} {σ : L2.St} {H : Hp} (Ok : Hp → Prop) (h : ∀ F' : Bool → Hp → Prop, (∀ H', Ok H' → F' false H') → tt σ H F') (hF : ∀ H', Ok H' → u { D with nx := k D } σ H') : tSeq (tIfS tt t u) k D σ H := h _ fun H' o => iteF (hF H' o)
end Nf

set_option Elab.async false
set_option linter.all false
set_option maxRecDepth 100000
set_option maxHeartbeats 4000000
namespace Nf
open PySem PySem.Spec PyProof.Rows L2
variable {P : Program} {w : World} {K : PySem.W.Frag} {mg : Str → Option Value} {base : Heap}
/-! ### the law's takes -/
theorem kLL0 : kitB "list" "list" = some true := by decide +kernel
abbrev nTakes : List Str := ["_law_guests", "_law_one", "_law_other", "_law_turning", "_law_guest", "_law_tables"]
theorem scTakes : FnScope nTakes ["_law_guests", "_law_one", "_law_other", "_law_turning"] (defScope lTakes) := ⟨rfl, rfl, rfl, by decide +kernel, rfl, by decide +kernel, by decide +kernel⟩
def spTakes (K : PySem.W.Frag) : Sp := fun vs H Q _ => ∃ (l1 l2 lt : Addr) (g : Nat) (s : Int) (one other : List Rnd) (pm : List Int), vs = [.int g, .ref l1, .ref l2, .ref lt] ∧ PlanV K H l1 one ∧ PlanV K H l2 other ∧ H lt = some (.lst (pm.map V.int)) ∧ pm.Perm (rangeI g) ∧ g ≤ 9 ∧ IsParty g s ∧ (∀ r ∈ one, IsRound g s r) ∧ one.length ≤ 400 ∧ other.length ≤ 400 ∧ IsoF g one other (cF pm) ∧
  ∀ H', Same H H' → Q (.bl true) H'
theorem moved_preA {g : Nat} {s : Int} {r : Rnd} {tn : List Int} (hI : IsParty g s) (h : IsRound g s r) (hl : tn.length = g) : r.length ≤ 1000 ∧ ∀ t ∈ r, t ≠ [] ∧ t.length ≤ 1000 ∧ ∀ x ∈ t, 0 ≤ x ∧ x < tn.length := by
  obtain ⟨b1, b2⟩ := round_bd hI h
  refine ⟨by omega, fun t ht => ⟨fun e => ?_, by have := b2 t ht; omega, fun x hx => ?_⟩⟩
  · have := (h.sz t ht).1
    rw [e] at this
    simp at this
  · rw [hl]
    exact h.lo x (List.mem_flatten.mpr ⟨t, ht, hx⟩)
theorem sortI_range {g : Nat} {p : List Int} (h : p.Perm (rangeI g)) : sortI p = rangeI g := by
  rw [sortI_congr h]
  refine ((sortI_iff _).mpr ?_).symm
  unfold rangeI
  rw [List.pairwise_map]
  exact List.pairwise_lt_range.imp fun h => by omega
theorem eqv_rnds (a b : List Rnd) : PyData.eqv (.list (a.map fun r => .tuple (r.map dT))) (.list (b.map fun r => .tuple (r.map dT))) = true ↔ a = b := by
  simp only [PyData.eqv]
  exact eqvRnds
theorem ok_takes {f fM : Addr} {fd fdM : FuncData} (F : Fun K "_law_takes" "_law_takes" lTakes f fd) (B : Blt mg) (FM : Fun K "_law_moved" "_law_moved" lMoved fM fdM) (bM : Binds K fdM ["_law_tables", "_law_turning"] []) (gM : mg "_law_moved" = some (.ref fM)) :
    FnOk P w K mg base CX0 2 f fd ["_law_guests", "_law_one", "_law_other", "_law_turning"] (spTakes K) := by
  have GM : FnOk P w K mg base CX0 1 fM fdM ["_law_tables", "_law_turning"] (spMoved K) := ok_moved FM B
  refine F.ok scTakes (fun vs H Q E h => ?_) (fun cdv A outer s H vs Q E hr h => ?_)
  · obtain ⟨l1, l2, lt, g, s, one, other, pm, rfl, _⟩ := h
    rfl
  · obtain ⟨l1, l2, lt, g, z, one, other, pm, rfl, ⟨xs1, h1, hx1⟩, ⟨xs2, h2, hx2⟩, hlt, hpm, hg9, hI, hR1, hl1, hl2, hiso, q⟩ := h
    refine ⟨_, pss_cons (ps_if (PW.pt (pw_or (pt_not (pt_val (pe_callB call_isi (by rfl) B.isinstance (by decide +kernel) (pa_cons (pv 3) (pa_cons (pe_bltn (v := .ty "list") (by rfl) B.list (by decide +kernel) rfl) pa_nil))))) (pw_or1 (pt_cmpR op_ne (pe_callB call_len_seq (by rfl) B.len PySem.boot_len (pa_cons (pv 3) pa_nil)) (pv 0) (nomark _))))) pss_never pss_nil)
      (pss_cons (ps_if (pt_cmpR (op_neD hr.units) (pe_lc (own := [("_law_guest", 4)]) (g := gName 4) (tt := tOr (tNot (tB (tCB (rIsi K) (tCons (tVar 4) (tCons (tC (V.ty "int")) tNil))))) (tB (tCB (rIsi K) (tCons (tVar 4) (tCons (tC (V.ty "bool")) tNil))))) (te := tVar 4) (by rfl) scTakes.nd (pi_list (pv 3))
          (blkOk_by (N := nTakes) (sc := defScope lTakes) (by decide +kernel))
          (fun _ _ _ _ _ => pg_name (i := 4) (x := "_law_guest") scTakes.nd rfl (.inl rfl) (.inr rfl))
          (fun _ _ _ _ _ => pts_one (PW.pt (pw_or (pt_not (pt_val (pe_callB call_isi (by rfl) B.isinstance (by decide +kernel) (pa_cons (pv 4) (pa_cons (pe_bltn (v := .ty "int") (by rfl) B.int (by decide +kernel) rfl) pa_nil))))) (pw_or1 (pt_val (pe_callB call_isi (by rfl) B.isinstance (by decide +kernel) (pa_cons (pv 4) (pa_cons (pe_bltn (v := .ty "bool") (by rfl) B.bool (by decide +kernel) rfl) pa_nil))))))))
          (fun _ _ _ _ _ => pv 4)) (pe_lst pa_nil) (nomark _)) pss_never pss_nil)
      (pss_cons (ps_if (pt_cmpR (op_neD hr.units) (pe_callB (cr_sortD (fun i : Int => PyData.int i) hr.units) (by rfl) B.sorted (by decide +kernel) (pa_cons (pv 3) pa_nil)) (pe_listRg rfl (by rfl) B.list (prg_1 (by rfl) B.range (pv 0))) (nomark _)) pss_never pss_nil)
      (pss_one (ps_ret (pe_cmpR (op_eqD hr.units) (pe_callB (cr_sortU dRn hr.units) (by rfl) B.sorted (by decide +kernel) (pa_cons
          (pe_lc (own := [("_law_tables", 5)]) (g := gName 5) (tt := tYes) (te := tCall (spMoved K) [] E0 (tCons (tVar 5) (tCons (tVar 3) tNil))) (by rfl) scTakes.nd (pi_list (pv 1))
            (blkOk_by (N := nTakes) (sc := defScope lTakes) (by decide +kernel)) (fun _ _ _ _ _ => pg_name (i := 5) (x := "_law_tables") scTakes.nd rfl (.inl rfl) (.inr rfl)) (fun _ _ _ _ _ => pts_nil)
            (fun _ _ _ _ _ => pe_call GM hr (by rfl) gM FM.kp bM .nil pass0 (pa_cons (pv 5) (pa_cons (pv 3) pa_nil)))) pa_nil)) (pe_callB (cr_sortU dRn hr.units) (by rfl) B.sorted (by decide +kernel) (pa_cons (pv 2) pa_nil)) (nomark _)))))), ?_⟩
    have big : (5000000 : Nat) < sizeLine := by decide
    have hpl : pm.length = g := by rw [hpm.length_eq, rangeI_len]
    -- isinstance(turning, list), len
    refine ⟨.ref lt, rfl, _, _, _, _, _, rfl, .ty _, .base (.lst hlt), kit_ty kLL0, ⟨_, rfl, iteF ?_⟩⟩
    refine ⟨.ref lt, rfl, lt, _, rfl, .inl (SqL.of hlt), .int g, rfl, rfl, _, rfl, ite2 (fun hc => by simp [hpl] at hc) (fun _ => ?_)⟩
    -- whole numbers
    refine ⟨.ref lt, rfl, lt, rfl, ⟨_, SqL.of hlt⟩, fun D nD => ?_⟩
    refine lc_it (walk_list (xs := pm.map V.int)) (fun i H5 => Same H H5 ∧ H5 D = some (.lst [])) ⟨same_new nD, upd_same⟩ (fun i H5 _ h => SqL.of (h.1 _ _ hlt)) (fun i x H5 H6 hi hI2 y => ?_) (fun H1 hI2 => ?_)
    · obtain ⟨sm, hD⟩ := hI2
      obtain ⟨rfl, hx⟩ := y
      obtain ⟨k, hk, rfl⟩ := getElem?_int hx
      refine ⟨wipe_put (by decide), ?_⟩
      exact ⟨.int k, rfl, _, _, _, _, _, rfl, .ty _, .base (.int k), kit_ty kII, ⟨_, rfl, iteF ⟨.int k, rfl, _, _, _, _, _, rfl, .ty _, .base (.int k), kit_ty kIB, ⟨_, rfl, iteF ⟨sm, hD⟩⟩⟩⟩⟩
    obtain ⟨s1, hD⟩ := hI2
    refine ⟨Nat.zero_le _, fun e0 ne0 => ?_⟩
    have s2 := s1.trans (same_new (o := .lst []) ne0)
    have hD2 := (same_new (o := .lst []) ne0) _ _ hD
    refine ⟨.list [], .list [], .lst (SqL.of hD2) .nil, .lst (SqL.of upd_same) .nil, shNil, shNil, _, rfl, ite2 (fun hc => by simp [PyData.eqv, PyData.eqvAll] at hc) (fun _ => ?_)⟩
    generalize (upd H1 e0 (.lst [])) = H2 at s2 ⊢
    -- sorted(turning)
    refine ⟨.ref lt, rfl, ?_⟩
    dsimp only [tNil]
    refine sort_ints (.inl (SqL.of (s2 _ _ hlt))) fun p1 np1 => ?_
    rw [sortI_range hpm]
    have s3 : Same H2 (upd H2 p1 (.lst ((rangeI g).map V.int))) := same_new np1
    have hp1 : (upd H2 p1 (.lst ((rangeI g).map V.int))) p1 = some (.lst ((rangeI g).map V.int)) := upd_same
    generalize (upd H2 p1 (.lst ((rangeI g).map V.int))) = H3 at s3 hp1 ⊢
    refine ⟨.int g, rfl, _, rfl, RgOk.of_le (by decide) (by omega) (by decide) (by omega), fun ev nev => ?_⟩
    rw [show rgV 0 ((g : Nat) : Int) = (rangeI g).map V.int from rgV_range _]
    have s4 : Same H3 (upd H3 ev (.lst ((rangeI g).map V.int))) := same_new nev
    refine ⟨.list ((rangeI g).map .int), .list ((rangeI g).map .int), .lst (SqL.of (s4 _ _ hp1)) (dpAll_ints _), .lst (SqL.of upd_same) (dpAll_ints _), shInts _, shInts _, _, rfl, ite2 (fun hc => ?_) (fun _ => ?_)⟩
    · rw [(eqv_intsL _ _).mpr rfl] at hc
      cases hc
    have s5 := (s2.trans s3).trans s4
    generalize (upd H3 ev (.lst ((rangeI g).map V.int))) = H4 at s5 ⊢
    -- the one's rounds, moved
    have e1 := paired_len hx1
    refine ⟨.ref l1, rfl, l1, rfl, ⟨_, s5.seq h1⟩, fun D2 nD2 => ?_⟩
    refine lc_it (walk_list (xs := xs1)) (fun j HE => Same H4 HE ∧ ∃ acc, HE D2 = some (.lst acc) ∧ Paired (RndV HE) acc ((one.take j).map (movedM pm))) ⟨same_new nD2, [], upd_same, .nil⟩ (fun j HE _ h => h.1.seq (s5.seq h1)) (fun j x HE HF hj hJ y => ?_) (fun HE hJ => ?_)
    · obtain ⟨sm, acc, hD, hac⟩ := hJ
      obtain ⟨rfl, hx⟩ := y
      obtain ⟨rd, hrd, hrv⟩ := paired_getL hx1 hx
      obtain ⟨m1, m2⟩ := moved_preA hI (hR1 rd (List.mem_of_getElem? hrd)) hpl
      refine ⟨wipe_put (by decide), yesT ?_⟩
      refine ⟨x, rfl, .ref lt, rfl, x, lt, rd, pm, rfl, hrv.mono (same_toT (s5.trans sm)), SqL.of (sm _ _ (s5 _ _ hlt)), m1, m2, fun y H' sy hy => ?_⟩
      have hD' := sy _ _ hD
      have hal := paired_len hac
      rw [List.length_map, List.length_take] at hal
      refine ⟨acc, hD', by omega, same_put (sm.trans sy) nD2, acc ++ [y], upd_same, ?_⟩
      have sq : SameT H' (upd H' D2 (.lst (acc ++ [y]))) := fun a us ha => by
        rw [upd_ne (ne_of ha hD' (by intro e; cases e))]
        exact ha
      rw [takeSucc hrd, List.map_append]
      exact paired_snoc (paired_mono (fun _ _ h => RndV.mono h ((same_toT sy).trans sq)) hac) (hy.mono sq)
    obtain ⟨sm, acc, hD, hac⟩ := hJ
    rw [e1, List.take_of_length_le (Nat.le_refl _)] at hac
    dsimp only [tNil]
    refine sort_rndsU (SqL.of hD) hac fun ys p2 np2 hys => ?_
    have er : sortRn (one.map (movedM pm)) = sortRn other := sortRn_iff.mpr hiso.to
    rw [er] at hys
    have s6 : Same HE (upd HE p2 (.lst ys)) := same_new np2
    have hp2 : (upd HE p2 (.lst ys)) p2 = some (.lst ys) := upd_same
    have hys6 := paired_mono (fun _ _ h => RndV.mono h (same_toT s6)) hys
    generalize (upd HE p2 (.lst ys)) = H6 at s6 hp2 hys6 ⊢
    have sA := (s5.trans sm).trans s6
    refine ⟨.ref l2, rfl, ?_⟩
    dsimp only [tNil]
    refine sort_rndsU (sA.seq h2) (paired_mono (fun _ _ h => RndV.mono h (same_toT sA)) hx2) fun zs p3 np3 hzs => ?_
    have s7 : Same H6 (upd H6 p3 (.lst zs)) := same_new np3
    have hp3 : (upd H6 p3 (.lst zs)) p3 = some (.lst zs) := upd_same
    have hzs7 : Paired (RndV (upd H6 p3 (.lst zs))) zs (sortRn other) := paired_mono (fun _ _ h => RndV.mono h (same_toT s7)) hzs
    generalize (upd H6 p3 (.lst zs)) = H7 at s7 hp3 hzs7 ⊢
    have hys7 : Paired (RndV H7) ys (sortRn other) := paired_mono (fun _ _ h => RndV.mono h (same_toT s7)) hys6
    refine ⟨.list ((sortRn other).map fun r => .tuple (r.map dT)), .list ((sortRn other).map fun r => .tuple (r.map dT)), dp_lst (fun _ _ h => dp_rnd h) (SqL.of (s7 _ _ hp2)) hys7, dp_lst (fun _ _ h => dp_rnd h) (SqL.of hp3) hzs7, shRnds _, shRnds _, ?_⟩
    rw [(eqv_rnds _ _).mpr rfl]
    exact q _ (sA.trans s7)
end Nf

set_option Elab.async false
set_option linter.all false
set_option maxRecDepth 100000
set_option maxHeartbeats 4000000
namespace Nf
open PySem PySem.Spec PyProof.Rows L2
variable {P : Program} {w : World} {K : PySem.W.Frag} {mg : Str → Option Value} {base : Heap}
/-! ### the law's full -/
abbrev nFull : List Str := ["_law_guests", "_law_plan_here", "_law_tables", "_law_table"]
def oScFull : Scope := { kind := .function, names := [(PySem.Str.ofString ".0", .local), (PySem.Str.ofString "_law_tables", .local), (PySem.Str.ofString "sum", .globalImplicit), (PySem.Str.ofString "_law_guests", .cell)], isGenerator := false, isCoroutine := false, more := [] }
theorem scFull : FnScope nFull ["_law_guests", "_law_plan_here"] (defScope lFull) := ⟨rfl, rfl, rfl, by decide +kernel, rfl, by decide +kernel, by decide +kernel⟩
def spFull (K : PySem.W.Frag) : Sp := fun vs H Q _ => ∃ (l : Addr) (g : Int) (rs : List Rnd), vs = [.int g, .ref l] ∧ PlanV K H l rs ∧ rs.length ≤ 1000 ∧ (∀ r ∈ rs, r.length ≤ 1000) ∧ ∀ b H', Same H H' → Q (.bl b) H'
theorem ok_full {f : Addr} {fd : FuncData} (F : Fun K "_law_full" "_law_full" lFull f fd) (B : Blt mg) (hsum : mg "sum" = none) : FnOk P w K mg base CX0 1 f fd ["_law_guests", "_law_plan_here"] (spFull K) := by
  refine F.ok scFull (fun vs H Q E h => ?_) (fun cdv A outer s H vs Q E hr h => ?_)
  · obtain ⟨l, g, rs, rfl, _⟩ := h
    rfl
  · obtain ⟨l, g, rs, rfl, ⟨xs, hl, hxs⟩, hlen, hrl, q⟩ := h
    refine ⟨_, pss_one (ps_ret (pe_cmpR (op_eqD hr.units) (pe_lc (own := [("_law_tables", 2)]) (g := gName 2) (tt := tTest (tOp rNe (tCB (rSum K) (tCons (tLc (iTup K (tVar 2)) (gName 3) tYes (tCB (rLenS K) (tCons (tVar 3) tNil)) [3]) tNil)) (tVar 0))) (te := tVar 2) (by rfl) scFull.nd (pi_list (pv 1))
        (blkOk_by (N := nFull) (sc := defScope lFull) (by decide +kernel)) (fun _ _ _ _ _ => pg_name (i := 2) (x := "_law_tables") scFull.nd rfl (.inl rfl) (.inr rfl))
        (fun _ _ _ _ _ => pts_one (by exact (pt_cmpR op_ne (pe_callB (cr_sum rfl) (by rfl) hsum (by decide +kernel) (pa_cons
          (pe_lc (own := [("_law_table", 3)]) (g := gName 3) (wi := iTup K (tVar 2)) (tt := tYes) (te := tCB (rLenS K) (tCons (tVar 3) tNil)) (by rfl) scFull.nd (pi_tup (pv 2))
            (blkOk_by (N := nFull) (sc := oScFull) (by decide +kernel)) (fun _ _ _ _ _ => pg_name (i := 3) (x := "_law_table") scFull.nd rfl (.inl rfl) (.inr rfl)) (fun _ _ _ _ _ => pts_nil)
            (fun _ _ _ _ _ => pe_callB call_len_seq (by rfl) B.len PySem.boot_len (pa_cons (pv 3) pa_nil))) pa_nil)) (pv 0) (nomark _)))) (fun _ _ _ _ _ => pv 2)) (pe_lst pa_nil) (nomark _))), ?_⟩
    have big : (5000000 : Nat) < sizeLine := by decide
    have hxl := paired_len hxs
    refine ⟨.ref l, rfl, l, rfl, ⟨_, hl⟩, fun D nD => ?_⟩
    refine lc_it (walk_list (xs := xs)) (fun i H5 => Same H H5 ∧ ∃ acc qs, H5 D = some (.lst acc) ∧ Paired (RndV H5) acc qs ∧ acc.length ≤ i) ⟨same_new nD, [], [], upd_same, .nil, Nat.zero_le _⟩ (fun i H5 _ h => h.1.seq hl) (fun i x H5 H6 hi hI y => ?_) (fun H5 hI => ?_)
    · obtain ⟨sm, acc, qs, hD, hac, hal⟩ := hI
      obtain ⟨rfl, hx⟩ := y
      obtain ⟨r, hr0, hrv⟩ := paired_getL hxs hx
      have hrv6 := hrv.mono (same_toT sm)
      obtain ⟨p, ts, rfl, hp, hts⟩ := hrv
      have htl := paired_len hts
      have hrr := hrl r (List.mem_of_getElem? hr0)
      refine ⟨wipe_put (by decide), ?_⟩
      refine ⟨.ref p, rfl, p, rfl, ⟨_, SqT.of (sm _ _ hp)⟩, fun D2 nD2 => ?_⟩
      refine lc_it (walk_tup (xs := ts)) (fun m H7 => Same H6 H7 ∧ ∃ ns : List Int, H7 D2 = some (.lst (ns.map V.int)) ∧ ns.length ≤ m) ⟨same_new nD2, [], upd_same, Nat.zero_le _⟩ (fun m H7 _ h => SqT.of (h.1 _ _ (sm _ _ hp))) (fun m x H7 H8 hm hM y => ?_) (fun H7 hM => ?_)
      · obtain ⟨sm7, ns, hD2, hnl⟩ := hM
        obtain ⟨rfl, hx2⟩ := y
        obtain ⟨t, ht, b, rfl, hb⟩ := paired_getL hts hx2
        refine ⟨wipe_put (by decide), yesT ?_⟩
        refine ⟨.ref b, rfl, b, _, rfl, .inr (SqT.of (sm7 _ _ (sm _ _ hb))), _, hD2, by rw [List.length_map]; omega, same_put sm7 nD2, ns ++ [((t.map V.int).length : Int)], ?_, by simp; omega⟩
        rw [upd_same, List.map_append]
        rfl
      · obtain ⟨sm7, ns, hD2, _⟩ := hM
        dsimp only [tNil]
        refine ⟨D2, ns, rfl, SqL.of hD2, .int g, rfl, rfl, _, rfl, ite2 (fun _ => ?_) (fun _ => ?_)⟩
        · have sm8 := sm.trans sm7
          have hD7 := sm7 _ _ hD
          have T7 : SameT H7 (upd H7 D (.lst (acc ++ [.ref p]))) := fun a us e => by
            rw [upd_ne (ne_of e hD7 (by intro z; cases z))]
            exact e
          refine ⟨.ref p, rfl, acc, hD7, by omega, same_put sm8 nD, acc ++ [.ref p], qs ++ [r], upd_same, ?_, by simp; omega⟩
          exact paired_snoc (paired_mono (fun _ _ h => (RndV.mono h (same_toT sm7)).mono T7) hac) ((hrv6.mono (same_toT sm7)).mono T7)
        · exact ⟨sm.trans sm7, acc, qs, sm7 _ _ hD, paired_mono (fun _ _ h => RndV.mono h (same_toT sm7)) hac, by omega⟩
    · obtain ⟨sm, acc, qs, hD, hac, _⟩ := hI
      refine ⟨Nat.zero_le _, fun e0 ne0 => ?_⟩
      have s2 : Same H5 (upd H5 e0 (.lst [])) := same_new ne0
      have hac2 : Paired (RndV (upd H5 e0 (.lst []))) acc qs := paired_mono (fun _ _ h => RndV.mono h (same_toT s2)) hac
      refine ⟨.list (qs.map fun r => .tuple (r.map dT)), .list [], dp_lst (fun _ _ h => dp_rnd h) (SqL.of (s2 _ _ hD)) hac2, .lst (SqL.of upd_same) .nil, shRnds _, shNil, ?_⟩
      exact q _ _ (sm.trans s2)
end Nf

set_option Elab.async false
set_option linter.all false
set_option maxRecDepth 100000
set_option maxHeartbeats 4000000
namespace Nf
open PySem PySem.Spec PyProof.Rows L2
variable {P : Program} {w : World} {K : PySem.W.Frag} {mg : Str → Option Value} {base : Heap}
/-! ### the law's some: by trying all -/
/-- a list of numbers, none of the lists ds -/
def IlX (H : Hp) (ds : List Addr) (x : V) (l : List Int) : Prop := ∃ u, x = .ref u ∧ H u = some (.lst (l.map V.int)) ∧ u ∉ ds
theorem IlX.keep {H H' : Hp} {ds : List Addr} {x : V} {l : List Int} (h : IlX H ds x l) (s : Same H H') : IlX H' ds x l := by
  obtain ⟨u, e, e1, e2⟩ := h
  exact ⟨u, e, s _ _ e1, e2⟩
theorem IlX.put {H : Hp} {ds : List Addr} {D : Addr} {x : V} {l : List Int} {o : HO} (h : IlX H ds x l) (hD : D ∈ ds) : IlX (upd H D o) ds x l := by
  obtain ⟨u, e, e1, e2⟩ := h
  have n : u ≠ D := fun z => e2 (z ▸ hD)
  exact ⟨u, e, by rw [upd_ne n]; exact e1, e2⟩
theorem IlX.less {H : Hp} {ds es : List Addr} {x : V} {l : List Int} (h : IlX H ds x l) (s : ∀ d ∈ es, d ∈ ds) : IlX H es x l := by
  obtain ⟨u, e, e1, e2⟩ := h
  exact ⟨u, e, e1, fun z => e2 (s u z)⟩
theorem IlX.more {H : Hp} {ds : List Addr} {D : Addr} {x : V} {l : List Int} (h : IlX H ds x l) (hD : H D = none) : IlX H (D :: ds) x l := by
  obtain ⟨u, e, e1, e2⟩ := h
  refine ⟨u, e, e1, fun z => ?_⟩
  rcases List.mem_cons.mp z with z | z
  · rw [z, hD] at e1
    cases e1
  · exact e2 z
structure WayOk (g k : Nat) (l : List Int) : Prop where
  nd : l.Nodup
  len : l.length = k
  lo : ∀ x ∈ l, InN g x
theorem WayOk.snoc {g k : Nat} {l : List Int} {x : Int} (h : WayOk g k l) (hx : InN g x) (n : x ∉ l) : WayOk g (k + 1) (l ++ [x]) := by
  refine ⟨List.nodup_append.mpr ⟨h.nd, by simp, fun a ha b hb e => ?_⟩, by rw [List.length_append, h.len]; rfl, fun y hy => ?_⟩
  · rw [List.mem_singleton.mp hb] at e
    exact n (e ▸ ha)
  · rcases List.mem_append.mp hy with hy | hy
    · exact h.lo y hy
    · rw [List.mem_singleton.mp hy]
      exact hx
theorem WayOk.perm {g : Nat} {l : List Int} (h : WayOk g g l) : l.Perm (rangeI g) := sub_permA h.nd (fun x hx => mem_rangeI.mpr (h.lo x hx)) (by rw [rangeI_len, h.len]; exact Nat.le_refl _)
theorem in_ints (x : Int) (l : List Int) : inV (.int x) (l.map V.int) = true ↔ x ∈ l := by
  unfold inV
  rw [List.any_map, List.any_eq_true]
  constructor
  · rintro ⟨y, hy, e⟩
    have e : (y == x) = true := e
    rw [beq_iff_eq] at e
    exact e ▸ hy
  · exact fun h => ⟨x, h, by show (x == x) = true; simp⟩
abbrev nSome : List Str := ["_law_guests", "_law_one", "_law_other", "_law_ways", "_law_k", "_law_longer", "_law_way", "_law_due", "_law_guest", "_law_tables"]
theorem scSome : FnScope nSome ["_law_guests", "_law_one", "_law_other"] (defScope lSome) := ⟨rfl, rfl, rfl, by decide +kernel, rfl, by decide +kernel, by decide +kernel⟩
def spSome (K : PySem.W.Frag) : Sp := fun vs H Q _ => ∃ (l1 l2 : Addr) (g : Nat) (s : Int) (one other : List Rnd), vs = [.int g, .ref l1, .ref l2] ∧ PlanV K H l1 one ∧ PlanV K H l2 other ∧ g ≤ 6 ∧ IsParty g s ∧ (∀ r ∈ one, IsRound g s r) ∧ one.length ≤ 400 ∧ other.length ≤ 400 ∧ (∀ f, IsoF g one other f → False) ∧
  ∀ H', Same H H' → Q (.bl false) H'
theorem ok_some {f fM : Addr} {fd fdM : FuncData} (F : Fun K "_law_some" "_law_some" lSome f fd) (B : Blt mg) (FM : Fun K "_law_moved" "_law_moved" lMoved fM fdM) (bM : Binds K fdM ["_law_tables", "_law_turning"] []) (gM : mg "_law_moved" = some (.ref fM)) :
    FnOk P w K mg base CX0 2 f fd ["_law_guests", "_law_one", "_law_other"] (spSome K) := by
  have GM : FnOk P w K mg base CX0 1 fM fdM ["_law_tables", "_law_turning"] (spMoved K) := ok_moved FM B
  refine F.ok scSome (fun vs H Q E h => ?_) (fun cdv A outer s H vs Q E hr h => ?_)
  · obtain ⟨l1, l2, g, s, one, other, rfl, _⟩ := h
    rfl
  · obtain ⟨l1, l2, g, z, one, other, rfl, ⟨xs1, h1, hx1⟩, ⟨xs2, h2, hx2⟩, hg6, hI, hR1, hl1, hl2, hno, q⟩ := h
    refine ⟨_, pss_cons (ps_set (i := 3) scSome.nd rfl (.inl rfl) (pe_lst (pa_cons (pe_lst pa_nil) pa_nil)))
      (pss_cons (ps_for PassesOwn.never rfl (pi_range1 (by rfl) B.range (pa_cons (pv 0) pa_nil)) (pg_name (i := 4) scSome.nd rfl (.inl rfl))
        (pss_cons (ps_set (i := 5) scSome.nd rfl (.inl rfl) (pe_lst pa_nil))
        (pss_cons (ps_for PassesOwn.never rfl (pi_list (pv 3)) (pg_name (i := 6) scSome.nd rfl (.inr rfl))
          (pss_one (ps_expr (pe_bm PySem.F.plainAttrs_list PySem.F.slot_list_extend PySem.F.type_list_extend mt_extend (pv 5) (pa_cons
            (pe_lc (own := [("_law_guest", 8)]) (g := gName 8) (tt := tTest (tOp (rIn K true) (tVar 8) (tVar 6))) (te := tOp rCat (tVar 6) (tLst (tCons (tVar 8) tNil))) (by rfl) scSome.nd (pi_range1 (by rfl) B.range (pa_cons (pv 0) pa_nil))
              (blkOk_by (N := nSome) (sc := defScope lSome) (by decide +kernel)) (fun _ _ _ _ _ => pg_name (i := 8) (x := "_law_guest") scSome.nd rfl (.inl rfl) (.inr rfl))
              (fun _ _ _ _ _ => pts_one (pt_cmpR op_notIn_seq (pv 8) (pv 6) (by rfl))) (fun _ _ _ _ _ => pe_op op_cat (pv 6) (pe_lst (pa_cons (pv 8) pa_nil)))) pa_nil)))))
        (pss_one (ps_set (i := 3) scSome.nd rfl (.inl rfl) (pv 5))))))
      (pss_cons (ps_set (i := 7) scSome.nd rfl (.inl rfl) (pe_callB (cr_sortU dRn hr.units) (by rfl) B.sorted (by decide +kernel) (pa_cons (pv 2) pa_nil)))
      (pss_cons (ps_for PassesOwn.never rfl (pi_list (pv 3)) (pg_name (i := 6) scSome.nd rfl (.inr rfl))
        (pss_one (ps_if (pt_cmpR (op_eqD hr.units) (pe_callB (cr_sortU dRn hr.units) (by rfl) B.sorted (by decide +kernel) (pa_cons
          (pe_lc (own := [("_law_tables", 9)]) (g := gName 9) (tt := tYes) (te := tCall (spMoved K) [] E0 (tCons (tVar 9) (tCons (tVar 6) tNil))) (by rfl) scSome.nd (pi_list (pv 1))
            (blkOk_by (N := nSome) (sc := defScope lSome) (by decide +kernel)) (fun _ _ _ _ _ => pg_name (i := 9) (x := "_law_tables") scSome.nd rfl (.inl rfl) (.inr rfl)) (fun _ _ _ _ _ => pts_nil)
            (fun _ _ _ _ _ => pe_call GM hr (by rfl) gM FM.kp bM .nil pass0 (pa_cons (pv 9) (pa_cons (pv 6) pa_nil)))) pa_nil)) (pv 7) (nomark _)) pss_never pss_nil)))
      (pss_one (ps_ret pe_bl))))), ?_⟩
    have big : (5000000 : Nat) < sizeLine := by decide
    have p6 : ∀ k, k ≤ 6 → 6 ^ k ≤ 46656 := fun k hk => Nat.le_trans (Nat.pow_le_pow_right (by decide) hk) (by decide)
    -- ways = [[]]
    refine ⟨Nat.zero_le _, fun u0 nu0 => ⟨by show 1 ≤ sizeLine; decide, fun W0 nW0 => ?_⟩⟩
    have s0 : Same H (upd (upd H u0 (.lst [])) W0 (.lst [.ref u0])) := (same_new nu0).trans (same_new nW0)
    have hu0 : (upd (upd H u0 (.lst [])) W0 (.lst [.ref u0])) u0 = some (.lst []) := same_new nW0 _ _ upd_same
    have hW0 : (upd (upd H u0 (.lst [])) W0 (.lst [.ref u0])) W0 = some (.lst [.ref u0]) := upd_same
    generalize (upd (upd H u0 (.lst [])) W0 (.lst [.ref u0])) = H0 at s0 hu0 hW0 ⊢
    refine ⟨.int g, rfl, (g : Int), rfl, by omega, by omega, ?_⟩
    refine for_it walk_range (fun k σ H2 => ∃ (W : Addr) (y4 y5 y6 : Option V) (ws : List V) (ls : List (List Int)), σ = [some (.int (g : Int)), some (.ref l1), some (.ref l2), some (.ref W), y4, y5, y6, none, none, none] ∧ Same H H2 ∧ H2 W = some (.lst ws) ∧ Paired (IlX H2 []) ws ls ∧ (∀ l ∈ ls, WayOk g k l) ∧ ws.length ≤ 6 ^ k)
      ⟨W0, none, none, none, [.ref u0], [[]], rfl, s0, hW0, .cons ⟨u0, rfl, hu0, by simp⟩ .nil, fun l hl => by rw [List.mem_singleton.mp hl]; exact ⟨List.nodup_nil, rfl, fun x hx => by cases hx⟩, Nat.le_refl _⟩ (fun _ _ _ _ _ => trivial) (fun k x σ H2 H3 hk hI2 y => ?_) (fun σ H2 hI2 => ?_)
    · obtain ⟨W, y4, y5, y6, ws, ls, rfl, sm, hW, hws, hok, hcnt⟩ := hI2
      obtain ⟨rfl, rfl⟩ := y
      rw [Int.toNat_natCast] at hk
      have hcnt2 := p6 k (by omega)
      -- longer = []
      refine ⟨Nat.zero_le _, fun L nL => ?_⟩
      have sL : Same H3 (upd H3 L (.lst [])) := same_new nL
      refine ⟨.ref W, rfl, W, rfl, ⟨_, SqL.of (sL _ _ hW)⟩, ?_⟩
      refine for_it (walk_list (xs := ws)) (fun j σ H4 => ∃ (y6 : Option V), σ = [some (.int (g : Int)), some (.ref l1), some (.ref l2), some (.ref W), some (.int (0 + ((k : Nat) : Int))), some (.ref L), y6, none, none, none] ∧ Same H3 H4 ∧ ∃ acc ms, H4 L = some (.lst acc) ∧ Paired (IlX H4 [L]) acc ms ∧ (∀ m ∈ ms, WayOk g (k + 1) m) ∧ acc.length ≤ j * 6)
        ⟨y6, rfl, sL, [], [], upd_same, .nil, fun m hm => (by cases hm), Nat.zero_le _⟩ (fun j σ H4 _ h => ?_) (fun j x σ H4 H5 hj hJ y => ?_) (fun σ H4 hJ => ?_)
      · obtain ⟨_, _, s4, _⟩ := h
        exact SqL.of (s4 _ _ hW)
      · obtain ⟨y6, rfl, s4, acc, ms, hL, hac, hms, hal⟩ := hJ
        obtain ⟨rfl, hx⟩ := y
        obtain ⟨l, hl0, u, rfl, hu, _⟩ := paired_getL hws hx
        have hlw := hok l (List.mem_of_getElem? hl0)
        refine ⟨.ref L, rfl, .inl ⟨rfl, _, SqL.of hL⟩, .int (g : Int), rfl, (g : Int), rfl, by omega, by omega, fun D nD => ?_⟩
        have nD3 : H3 D = none := s4.free nD
        refine lc_it walk_range (fun i H6 => Same H5 H6 ∧ ∃ acc2 ms2, H6 D = some (.lst acc2) ∧ Paired (IlX H6 [D, L]) acc2 ms2 ∧ (∀ m ∈ ms2, WayOk g (k + 1) m) ∧ acc2.length ≤ i) ⟨same_new nD, [], [], upd_same, .nil, fun m hm => (by cases hm), Nat.zero_le _⟩ (fun _ _ _ _ => trivial) (fun i x H6 H7 hi hM y => ?_) (fun H6 hM => ?_)
        · obtain ⟨s6, acc2, ms2, hD, hac2, hms2, hal2⟩ := hM
          obtain ⟨rfl, rfl⟩ := y
          rw [Int.toNat_natCast] at hi
          have hu6 := s6 _ _ (s4 _ _ hu)
          have hL6 := s6 _ _ hL
          refine ⟨wipe_put (by decide), ?_⟩
          refine ⟨.int (0 + ((i : Nat) : Int)), rfl, .ref u, rfl, u, _, rfl, .inl (SqL.of hu6), rfl, flat_intsA _, _, rfl, ite2 (fun hc => ?_) (fun hc => ?_)⟩
          · have hni : (0 + ((i : Nat) : Int)) ∉ l := fun z => by
              have e := (in_ints _ _).mpr z
              have hc : (!inV (V.int (0 + ((i : Nat) : Int))) (l.map V.int)) = true := hc
              rw [e] at hc
              cases hc
            have hll := hlw.len
            refine ⟨.ref u, rfl, .int (0 + ((i : Nat) : Int)), rfl, by show 1 ≤ sizeLine; decide, fun v nv => ?_⟩
            have s7 : Same H7 (upd H7 v (.lst [.int (0 + ((i : Nat) : Int))])) := same_new nv
            have hv : (upd H7 v (.lst [.int (0 + ((i : Nat) : Int))])) v = some (.lst [.int (0 + ((i : Nat) : Int))]) := upd_same
            generalize (upd H7 v (.lst [.int (0 + ((i : Nat) : Int))])) = H8 at s7 hv ⊢
            refine ⟨u, v, _, _, rfl, rfl, s7 _ _ hu6, hv, by rw [List.length_map]; show l.length + 1 ≤ sizeLine; omega, fun p np => ?_⟩
            have s8 := s7.trans (same_new (o := .lst (l.map V.int ++ [.int (0 + ((i : Nat) : Int))])) np)
            have hD8 := s8 _ _ hD
            have npD : p ≠ D := fun e => by
              rw [e, s7 _ _ hD] at np
              cases np
            have npL : p ≠ L := fun e => by
              rw [e, s7 _ _ hL6] at np
              cases np
            refine ⟨acc2, hD8, by omega, same_put (s6.trans s8) nD, acc2 ++ [.ref p], ms2 ++ [l ++ [0 + ((i : Nat) : Int)]], upd_same, ?_, fun m hm => ?_, by simp; omega⟩
            · refine paired_snoc (paired_mono (fun _ _ h => (IlX.keep h s8).put (by simp)) hac2) ⟨p, rfl, ?_, by simp [npD, npL]⟩
              rw [upd_ne npD, upd_same, List.map_append]
              rfl
            · rcases List.mem_append.mp hm with hm | hm
              · exact hms2 m hm
              · rw [List.mem_singleton.mp hm]
                exact hlw.snoc ⟨by omega, by omega⟩ hni
          · exact ⟨s6, acc2, ms2, hD, hac2, hms2, by omega⟩
        obtain ⟨s6, acc2, ms2, hD, hac2, hms2, hal2⟩ := hM
        rw [Int.toNat_natCast] at hal2
        have hL6 := s6 _ _ hL
        have hsum : acc.length + acc2.length ≤ (j + 1) * 6 := by omega
        refine ⟨L, D, acc, acc2, rfl, rfl, hL6, hD, by omega, ?_⟩
        refine ⟨_, rfl, same_put (s4.trans s6) nL, acc ++ acc2, ms ++ ms2, upd_same, paired_app (paired_mono (fun _ _ h => (IlX.keep h s6).put (by simp)) hac) (paired_mono (fun _ _ h => ((IlX.less h (fun d hd => by simp at hd; simp [hd]) : IlX H6 [L] _ _)).put (by simp)) hac2), fun m hm => ?_, by rw [List.length_append]; exact hsum⟩
        rcases List.mem_append.mp hm with hm | hm
        · exact hms m hm
        · exact hms2 m hm
      · obtain ⟨y6, rfl, s4, acc, ms, hL, hac, hms, hal⟩ := hJ
        refine ⟨.ref L, rfl, L, _, _, _, acc, ms, rfl, sm.trans s4, hL, paired_mono (fun _ _ h => IlX.less h fun d hd => by cases hd) hac, hms, ?_⟩
        rw [Nat.pow_succ]
        exact Nat.le_trans hal (Nat.mul_le_mul_right _ hcnt)
    · obtain ⟨W, y4, y5, y6, ws, ls, rfl, sm, hW, hws, hok, hcnt⟩ := hI2
      rw [Int.toNat_natCast] at hok hcnt
      -- due
      refine ⟨.ref l2, rfl, ?_⟩
      dsimp only [tNil]
      refine sort_rndsU (sm.seq h2) (paired_mono (fun _ _ h => RndV.mono h (same_toT sm)) hx2) fun ys p np hys => ?_
      have s3 : Same H2 (upd H2 p (.lst ys)) := same_new np
      have hp : (upd H2 p (.lst ys)) p = some (.lst ys) := upd_same
      have hys3 : Paired (RndV (upd H2 p (.lst ys))) ys (sortRn other) := paired_mono (fun _ _ h => RndV.mono h (same_toT s3)) hys
      generalize (upd H2 p (.lst ys)) = H3 at s3 hp hys3 ⊢
      have sA := sm.trans s3
      refine ⟨.ref W, rfl, W, rfl, ⟨_, SqL.of (s3 _ _ hW)⟩, ?_⟩
      refine for_it (walk_list (xs := ws)) (fun j σ H4 => ∃ (y6 : Option V), σ = [some (.int (g : Int)), some (.ref l1), some (.ref l2), some (.ref W), y4, y5, y6, some (.ref p), none, none] ∧ Same H3 H4) ⟨y6, rfl, Same.refl _⟩ (fun j σ H4 _ h => ?_) (fun j x σ H4 H5 hj hJ y => ?_) (fun σ H4 hJ => ?_)
      · obtain ⟨_, _, s4⟩ := h
        exact SqL.of (s4 _ _ (s3 _ _ hW))
      · obtain ⟨y6, rfl, s4⟩ := hJ
        obtain ⟨rfl, hx⟩ := y
        obtain ⟨l, hl0, u, rfl, hu, _⟩ := paired_getL hws hx
        have hlw := hok l (List.mem_of_getElem? hl0)
        have hpl := hlw.len
        have sB := sA.trans s4
        have hu5 := s4 _ _ (s3 _ _ hu)
        have e1 := paired_len hx1
        refine ⟨.ref l1, rfl, l1, rfl, ⟨_, sB.seq h1⟩, fun D2 nD2 => ?_⟩
        refine lc_it (walk_list (xs := xs1)) (fun j HE => Same H5 HE ∧ ∃ acc, HE D2 = some (.lst acc) ∧ Paired (RndV HE) acc ((one.take j).map (movedM l))) ⟨same_new nD2, [], upd_same, .nil⟩ (fun j HE _ h => h.1.seq (sB.seq h1)) (fun j x HE HF hj hJ y => ?_) (fun HE hJ => ?_)
        · obtain ⟨sm, acc, hD, hac⟩ := hJ
          obtain ⟨rfl, hx⟩ := y
          obtain ⟨rd, hrd, hrv⟩ := paired_getL hx1 hx
          obtain ⟨m1, m2⟩ := moved_preA hI (hR1 rd (List.mem_of_getElem? hrd)) hpl
          refine ⟨wipe_put (by decide), yesT ?_⟩
          refine ⟨x, rfl, .ref u, rfl, x, u, rd, l, rfl, hrv.mono (same_toT (sB.trans sm)), SqL.of (sm _ _ hu5), m1, m2, fun y H' sy hy => ?_⟩
          have hD' := sy _ _ hD
          have hal := paired_len hac
          rw [List.length_map, List.length_take] at hal
          refine ⟨acc, hD', by omega, same_put (sm.trans sy) nD2, acc ++ [y], upd_same, ?_⟩
          have sq : SameT H' (upd H' D2 (.lst (acc ++ [y]))) := fun a us ha => by
            rw [upd_ne (ne_of ha hD' (by intro e; cases e))]
            exact ha
          rw [takeSucc hrd, List.map_append]
          exact paired_snoc (paired_mono (fun _ _ h => RndV.mono h ((same_toT sy).trans sq)) hac) (hy.mono sq)
        obtain ⟨sm2, acc, hD, hac⟩ := hJ
        rw [e1, List.take_of_length_le (Nat.le_refl _)] at hac
        dsimp only [tNil]
        refine sort_rndsU (SqL.of hD) hac fun zs p2 np2 hzs => ?_
        have s6 : Same HE (upd HE p2 (.lst zs)) := same_new np2
        have hp2 : (upd HE p2 (.lst zs)) p2 = some (.lst zs) := upd_same
        have hzs6 : Paired (RndV (upd HE p2 (.lst zs))) zs (sortRn (one.map (movedM l))) := paired_mono (fun _ _ h => RndV.mono h (same_toT s6)) hzs
        generalize (upd HE p2 (.lst zs)) = H6 at s6 hp2 hzs6 ⊢
        have sC := (s4.trans sm2).trans s6
        have hys6 : Paired (RndV H6) ys (sortRn other) := paired_mono (fun _ _ h => RndV.mono h (same_toT sC)) hys3
        refine ⟨.ref p, rfl, .list ((sortRn (one.map (movedM l))).map fun r => .tuple (r.map dT)), .list ((sortRn other).map fun r => .tuple (r.map dT)), dp_lst (fun _ _ h => dp_rnd h) (SqL.of hp2) hzs6, dp_lst (fun _ _ h => dp_rnd h) (SqL.of (sC _ _ hp)) hys6, shRnds _, shRnds _, _, rfl, ite2 (fun hc => ?_) (fun _ => ?_)⟩
        · exact (hno (cF l) ⟨permF_of hlw.perm, sortRn_iff.mp ((eqv_rnds _ _).mp hc)⟩).elim
        · exact ⟨_, rfl, sC⟩
      · obtain ⟨y6, rfl, s4⟩ := hJ
        exact q _ (sA.trans s4)
end Nf

set_option Elab.async false
set_option linter.all false
set_option maxRecDepth 100000
set_option maxHeartbeats 4000000
namespace Nf
open PySem PySem.Spec PyProof.Rows L2
variable {P : Program} {w : World} {K : PySem.W.Frag} {mg : Str → Option Value} {base : Heap}
/-! ### the law's changed -/
theorem paired_takeA {α β : Type} {R : α → β → Prop} : ∀ {xs : List α} {ys : List β} (n : Nat), Paired R xs ys → Paired R (xs.take n) (ys.take n)
  | _, _, 0, _ => .nil
  | _, _, _ + 1, .nil => .nil
  | _, _, n + 1, .cons r t => .cons r (paired_takeA n t)
theorem paired_dropA {α β : Type} {R : α → β → Prop} : ∀ {xs : List α} {ys : List β} (n : Nat), Paired R xs ys → Paired R (xs.drop n) (ys.drop n)
  | _, _, 0, p => p
  | _, _, _ + 1, .nil => .nil
  | _, _, n + 1, .cons _ t => paired_dropA n t
theorem ixN_lt {n i : Nat} (h : i < n) : ixN n ((i : Nat) : Int) = some i := by
  unfold ixN
  rw [if_pos (by omega), if_pos (by omega)]
  rfl
def swL (g i j : Nat) : List Int := ((rangeI g).set i ((j : Nat) : Int)).set j ((i : Nat) : Int)
theorem rangeI_at {g k : Nat} (h : k < (rangeI g).length) : (rangeI g)[k] = (k : Int) := by
  have hk : k < g := by rwa [rangeI_len] at h
  have e : (rangeI g)[k]? = some (k : Int) := by
    unfold rangeI
    rw [List.getElem?_map, List.getElem?_range hk]
    rfl
  exact (List.getElem?_eq_some_iff.mp e).2
theorem swL_perm {g i j : Nat} (hi : i < g) (hj : j < g) : (swL g i j).Perm (rangeI g) := by
  have F : PermF g fun x => if x = (j : Int) then (i : Int) else if x = (i : Int) then (j : Int) else x := by
    refine ⟨fun x a b => ?_, fun x y a b a' b' e => ?_, fun y a b => ?_⟩
    · split
      · omega
      · split <;> omega
    · split at e <;> split at e <;> (try split at e) <;> (try split at e) <;> omega
    · by_cases e1 : y = (i : Int)
      · exact ⟨(j : Int), by omega, by omega, by rw [if_pos rfl, e1]⟩
      · by_cases e2 : y = (j : Int)
        · refine ⟨(i : Int), by omega, by omega, ?_⟩
          rw [if_pos rfl, e2]
          split <;> omega
        · exact ⟨y, a, b, by rw [if_neg e2, if_neg e1]⟩
  refine List.Perm.trans (.of_eq ?_) (permF_range F)
  unfold swL
  refine List.ext_getElem (by simp) fun k h1 h2 => ?_
  have hk : k < g := by
    rw [List.length_map, rangeI_len] at h2
    exact h2
  rw [List.getElem_set, List.getElem_map]
  have er : ∀ (h : k < (rangeI g).length), (rangeI g)[k] = (k : Int) := fun h => rangeI_at h
  rw [er]
  by_cases e1 : j = k
  · rw [if_pos e1, if_pos (by omega)]
  · rw [if_neg e1, if_neg (by omega), List.getElem_set, er]
    by_cases e2 : i = k
    · rw [if_pos e2, if_pos (by omega)]
    · rw [if_neg e2, if_neg (by omega)]
abbrev nChanged : List Str := ["_law_row", "_law_guests", "_law_plan_here", "_law_k", "_law_turning", "_law_one", "_law_other"]
theorem scChanged : FnScope nChanged ["_law_row", "_law_guests", "_law_plan_here"] (defScope lChanged) := ⟨rfl, rfl, rfl, by decide +kernel, rfl, by decide +kernel, by decide +kernel⟩
def spChanged (K : PySem.W.Frag) : Sp := fun vs H Q _ => ∃ (r a l : Addr) (ns : List Int) (g : Nat) (s : Int) (xs : List V) (rs : List Rnd), vs = [.ref r, .int g, .ref l] ∧ RowAt K H r a ns ∧ H l = some (.lst xs) ∧ Paired (RndV H) xs rs ∧ l ≠ r ∧ rs ≠ [] ∧ IsParty g s ∧ (∀ r ∈ rs, IsRound g s r) ∧ rs.length ≤ 400 ∧
  ∀ q H' ys os, RowAt K H' r a ns → Sx r H H' → H q = none → H' q = some (.lst ys) → Paired (RndV H') ys os → (∀ o ∈ os, IsRound g s o) → os.length ≤ rs.length → Q (.ref q) H'
theorem ok_changed {f fT fM : Addr} {fd fdT fdM : FuncData} (F : Fun K "_law_changed" "_law_changed" lChanged f fd) (B : Blt mg) (FT : Fun K "_law_taken" "_law_taken" lTaken fT fdT) (bT : Binds K fdT ["_law_row", "_law_many"] []) (gT : mg "_law_taken" = some (.ref fT))
    (FM : Fun K "_law_moved" "_law_moved" lMoved fM fdM) (bM : Binds K fdM ["_law_tables", "_law_turning"] []) (gM : mg "_law_moved" = some (.ref fM)) :
    FnOk P w K mg base CX0 2 f fd ["_law_row", "_law_guests", "_law_plan_here"] (spChanged K) := by
  have GM : FnOk P w K mg base CX0 1 fM fdM ["_law_tables", "_law_turning"] (spMoved K) := ok_moved FM B
  have GT : FnOk P w K mg base CX0 1 fT fdT ["_law_row", "_law_many"] (spTaken K) := ok_taken FT B
  refine F.ok scChanged (fun vs H Q E h => ?_) (fun cdv A outer s H vs Q E hr h => ?_)
  · obtain ⟨r, a, l, ns, g, s, xs, rs, rfl, _⟩ := h
    rfl
  · obtain ⟨r, a, l, ns, g, z, xs, rs, rfl, hR, hl, hxs, nlr, hne, hI, hrd, hlen, q⟩ := h
    refine ⟨_, pss_cons (ps_set (i := 3) scChanged.nd rfl (.inl rfl) (pe_call GT hr (by rfl) gT FT.kp bT .nil pass0 (pa_cons (pv 0) (pa_cons (pe_callB call_len_seq (by rfl) B.len PySem.boot_len (pa_cons (pv 2) pa_nil)) pa_nil))))
      (pss_cons (ps_if (pt_cmpR op_eq (pe_call GT hr (by rfl) gT FT.kp bT .nil pass0 (pa_cons (pv 0) (pa_cons pe_int pa_nil))) pe_int (nomark _))
        (pss_one (ps_ret (pe_op op_cat (pe_slice sl_list (pv 2) po_none (po_some (pv 3))) (pe_slice sl_list (pv 2) (po_some (pe_op op_add (pv 3) pe_int)) po_none)))) pss_nil)
      (pss_cons (ps_set (i := 4) scChanged.nd rfl (.inl rfl) (pe_listRg rfl (by rfl) B.list (prg_1 (by rfl) B.range (pv 1))))
      (pss_cons (ps_set (i := 5) scChanged.nd rfl (.inl rfl) (pe_call GT hr (by rfl) gT FT.kp bT .nil pass0 (pa_cons (pv 0) (pa_cons (pv 1) pa_nil))))
      (pss_cons (ps_set (i := 6) scChanged.nd rfl (.inl rfl) (pe_call GT hr (by rfl) gT FT.kp bT .nil pass0 (pa_cons (pv 0) (pa_cons (pv 1) pa_nil))))
      (pss_cons (ps_asg (pv 6) (pg_sub (pv 4) (pv 5) set_list))
      (pss_cons (ps_asg (pv 5) (pg_sub (pv 4) (pv 6) set_list))
      (pss_one (ps_ret (pe_op op_cat (pe_op op_cat (pe_slice sl_list (pv 2) po_none (po_some (pv 3))) (pe_lst (pa_cons (pe_call GM hr (by rfl) gM FM.kp bM .nil pass0 (pa_cons (pe_ix ix_list (pv 2) (pv 3) (fun _ _ => rfl)) (pa_cons (pv 4) pa_nil))) pa_nil))) (pe_slice sl_list (pv 2) (po_some (pe_op op_add (pv 3) pe_int)) po_none)))))))))), ?_⟩
    have big : (5000000 : Nat) < sizeLine := by decide
    have g64 := hI.g64
    have g2 := hI.g2
    have hxl := paired_len hxs
    have hpos : 0 < rs.length := List.length_pos_iff.mpr hne
    obtain ⟨xr0, hxr0⟩ := hR.lst
    -- k
    refine ⟨.ref r, rfl, .ref l, rfl, l, _, rfl, .inl (SqL.of hl), r, a, ns, _, rfl, hR, by omega, by omega, fun v H1 v0 v1 R1 s1 => ?_⟩
    obtain ⟨n, rfl⟩ := Int.eq_ofNat_of_zero_le v0
    have hn : n < rs.length := by omega
    refine ⟨.ref r, rfl, r, a, ns, 2, rfl, R1, by decide, by decide, fun v2 H2 _ _ R2 s2 => ?_⟩
    have s12 := s1.trans s2
    have hl2 := s12 _ _ nlr hl
    have hx2 : Paired (RndV H2) xs rs := paired_mono (fun _ _ h => RndV.mono h (s12.toT hxr0)) hxs
    have plus : ((n : Nat) : Int) + 1 = ((n + 1 : Nat) : Int) := by omega
    refine ⟨rfl, _, rfl, ite2 (fun _ => ?_) (fun _ => ?_)⟩
    · -- a round out
      refine ⟨.ref l, rfl, .int (n : Nat), rfl, ((n : Nat) : Int), rfl, l, xs, rfl, SqL.of hl2, fun p1 np1 => ?_⟩
      rw [cutToA]
      have s3 : Same H2 (upd H2 p1 (.lst (xs.take n))) := same_new np1
      have hp1 : (upd H2 p1 (.lst (xs.take n))) p1 = some (.lst (xs.take n)) := upd_same
      generalize (upd H2 p1 (.lst (xs.take n))) = H3 at s3 hp1 ⊢
      refine ⟨.ref l, rfl, .int (n : Nat), rfl, _, _, rfl, rfl, _, rfl, l, xs, rfl, SqL.of (s3 _ _ hl2), fun p2 np2 => ?_⟩
      rw [plus, cutFromA]
      have s4 : Same H3 (upd H3 p2 (.lst (xs.drop (n + 1)))) := same_new np2
      have hp2 : (upd H3 p2 (.lst (xs.drop (n + 1)))) p2 = some (.lst (xs.drop (n + 1))) := upd_same
      generalize (upd H3 p2 (.lst (xs.drop (n + 1)))) = H4 at s4 hp2 ⊢
      have lt1 : (xs.take n).length ≤ 400 := by
        rw [List.length_take]
        omega
      have lt2 : (xs.drop (n + 1)).length ≤ 400 := by
        rw [List.length_drop]
        omega
      refine ⟨p1, p2, _, _, rfl, rfl, s4 _ _ hp1, hp2, by omega, fun p3 np3 => ?_⟩
      have s5 : Same H4 (upd H4 p3 (.lst (xs.take n ++ xs.drop (n + 1)))) := same_new np3
      have sA := (s3.trans s4).trans s5
      have np0 : H p3 = none := by
        cases e : H p3 with
        | none => rfl
        | some o =>
          by_cases er : p3 = r
          · rw [er] at np3
            obtain ⟨xr2, hxr2⟩ := R2.lst
            rw [(s3.trans s4) _ _ hxr2] at np3
            cases np3
          · rw [(s3.trans s4) _ _ (s12 _ _ er e)] at np3
            cases np3
      refine q p3 _ _ (rs.take n ++ rs.drop (n + 1)) (R2.keep sA) (s12.trans (same_sx sA)) np0 upd_same (paired_app (paired_takeA n (paired_mono (fun _ _ h => RndV.mono h (same_toT sA)) hx2)) (paired_dropA (n + 1) (paired_mono (fun _ _ h => RndV.mono h (same_toT sA)) hx2))) (fun o ho => ?_) ?_
      · rcases List.mem_append.mp ho with ho | ho
        · exact hrd o (List.mem_of_mem_take ho)
        · exact hrd o (List.mem_of_mem_drop ho)
      · rw [List.length_append, List.length_take, List.length_drop]
        omega
    · -- turning
      refine ⟨.int g, rfl, _, rfl, RgOk.of_le (by decide) (by omega) (by decide) (by omega), fun t nt => ?_⟩
      rw [show rgV 0 ((g : Nat) : Int) = (rangeI g).map V.int from rgV_range _]
      have s3 : Same H2 (upd H2 t (.lst ((rangeI g).map V.int))) := same_new nt
      have ht3 : (upd H2 t (.lst ((rangeI g).map V.int))) t = some (.lst ((rangeI g).map V.int)) := upd_same
      generalize (upd H2 t (.lst ((rangeI g).map V.int))) = H3 at s3 ht3 ⊢
      have R3 := R2.keep s3
      obtain ⟨xr2, hxr2⟩ := R2.lst
      have ntr : t ≠ r := fun e => by
        rw [e, hxr2] at nt
        cases nt
      have nt0 : H t = none := by
        cases e : H t with
        | none => rfl
        | some o =>
          rw [s12 _ _ ntr e] at nt
          cases nt
      refine ⟨.ref r, rfl, .int g, rfl, r, a, ns, _, rfl, R3, by omega, by omega, fun w1 H4 b0 b1 R4 s4 => ?_⟩
      obtain ⟨i, rfl⟩ := Int.eq_ofNat_of_zero_le b0
      refine ⟨.ref r, rfl, .int g, rfl, r, a, ns, _, rfl, R4, by omega, by omega, fun w2 H5 c0 c1 R5 s5 => ?_⟩
      obtain ⟨j, rfl⟩ := Int.eq_ofNat_of_zero_le c0
      have hi : i < g := by omega
      have hj : j < g := by omega
      have s35 := ((same_sx (r := r) s3).trans s4).trans s5
      have s05 := s12.trans s35
      have ht5 := (s4.trans s5) _ _ ntr ht3
      have el : ((rangeI g).map V.int).length = g := by rw [List.length_map, rangeI_len]
      -- turning[one] = other, turning[other] = one
      refine ⟨.int (j : Nat), rfl, .ref t, rfl, .int (i : Nat), rfl, t, _, ((i : Nat) : Int), i, rfl, rfl, ht5, ixN_lt (by rw [el]; exact hi), ?_⟩
      refine ⟨.int (i : Nat), rfl, .ref t, rfl, .int (j : Nat), rfl, t, _, ((j : Nat) : Int), j, rfl, rfl, upd_same, ixN_lt (by rw [List.length_set, el]; exact hj), ?_⟩
      rw [upd_upd, ← List.map_set, ← List.map_set]
      have R6 := row_put hR nt0 (o := .lst ((((rangeI g).set i ((j : Nat) : Int)).set j ((i : Nat) : Int)).map V.int)) R5
      have s6 := sx_put s05 nt0 (o := .lst ((((rangeI g).set i ((j : Nat) : Int)).set j ((i : Nat) : Int)).map V.int))
      have ht6 : (upd H5 t (.lst ((((rangeI g).set i ((j : Nat) : Int)).set j ((i : Nat) : Int)).map V.int))) t = some (.lst ((swL g i j).map V.int)) := upd_same
      generalize (upd H5 t (.lst ((((rangeI g).set i ((j : Nat) : Int)).set j ((i : Nat) : Int)).map V.int))) = H6 at R6 s6 ht6 ⊢
      have hl6 := s6 _ _ nlr hl
      have hx6 : Paired (RndV H6) xs rs := paired_mono (fun _ _ h => RndV.mono h (s6.toT hxr0)) hxs
      have P := swL_perm hi hj
      have hswl : (swL g i j).length = g := by rw [P.length_eq, rangeI_len]
      -- plan[:k]
      refine ⟨.ref l, rfl, .int (n : Nat), rfl, ((n : Nat) : Int), rfl, l, xs, rfl, SqL.of hl6, fun p1 np1 => ?_⟩
      rw [cutToA]
      have s7 : Same H6 (upd H6 p1 (.lst (xs.take n))) := same_new np1
      have hp1 : (upd H6 p1 (.lst (xs.take n))) p1 = some (.lst (xs.take n)) := upd_same
      generalize (upd H6 p1 (.lst (xs.take n))) = H7 at s7 hp1 ⊢
      have hr0 : rs[n]? = some rs[n] := List.getElem?_eq_getElem hn
      generalize rs[n] = r0 at hr0
      obtain ⟨xn, hxn, hxv⟩ := paired_get hx6 hr0
      have hR0 := hrd r0 (List.mem_of_getElem? hr0)
      obtain ⟨m1, m2⟩ := moved_preA hI hR0 hswl
      refine ⟨.ref l, rfl, .int (n : Nat), rfl, l, xs, ((n : Nat) : Int), xn, rfl, rfl, SqL.of (s7 _ _ hl6), atI_nat hxn, .ref t, rfl, xn, t, r0, swL g i j, rfl, hxv.mono (same_toT s7), SqL.of (s7 _ _ ht6), m1, m2, fun y H8 s8 hy => ?_⟩
      refine ⟨by show 1 ≤ sizeLine; decide, fun b nb => ?_⟩
      have s9 : Same H8 (upd H8 b (.lst [y])) := same_new nb
      have hb : (upd H8 b (.lst [y])) b = some (.lst [y]) := upd_same
      have hy9 : RndV (upd H8 b (.lst [y])) y (movedM (swL g i j) r0) := hy.mono (same_toT s9)
      generalize (upd H8 b (.lst [y])) = H9 at s9 hb hy9 ⊢
      have lt1 : (xs.take n).length ≤ 400 := by
        rw [List.length_take]
        omega
      have lt2 : (xs.drop (n + 1)).length ≤ 400 := by
        rw [List.length_drop]
        omega
      refine ⟨p1, b, _, _, rfl, rfl, (s8.trans s9) _ _ hp1, hb, by show (xs.take n).length + 1 ≤ sizeLine; omega, fun p2 np2 => ?_⟩
      have s10 : Same H9 (upd H9 p2 (.lst (xs.take n ++ [y]))) := same_new np2
      have hp2 : (upd H9 p2 (.lst (xs.take n ++ [y]))) p2 = some (.lst (xs.take n ++ [y])) := upd_same
      generalize (upd H9 p2 (.lst (xs.take n ++ [y]))) = H10 at s10 hp2 ⊢
      have s710 := ((s7.trans s8).trans s9).trans s10
      refine ⟨.ref l, rfl, .int (n : Nat), rfl, _, _, rfl, rfl, _, rfl, l, xs, rfl, SqL.of (s710 _ _ hl6), fun p3 np3 => ?_⟩
      rw [plus, cutFromA]
      have s11 : Same H10 (upd H10 p3 (.lst (xs.drop (n + 1)))) := same_new np3
      have hp3 : (upd H10 p3 (.lst (xs.drop (n + 1)))) p3 = some (.lst (xs.drop (n + 1))) := upd_same
      generalize (upd H10 p3 (.lst (xs.drop (n + 1)))) = H11 at s11 hp3 ⊢
      refine ⟨p2, p3, _, _, rfl, rfl, s11 _ _ hp2, hp3, by rw [List.length_append]; show (xs.take n).length + 1 + _ ≤ sizeLine; omega, fun p4 np4 => ?_⟩
      have s12' : Same H11 (upd H11 p4 (.lst (xs.take n ++ [y] ++ xs.drop (n + 1)))) := same_new np4
      have sA := (s710.trans s11).trans s12'
      have np0 : H p4 = none := by
        cases e : H p4 with
        | none => rfl
        | some o =>
          by_cases er : p4 = r
          · rw [er] at np4
            obtain ⟨xr6, hxr6⟩ := R6.lst
            rw [(s710.trans s11) _ _ hxr6] at np4
            cases np4
          · rw [(s710.trans s11) _ _ (s6 _ _ er e)] at np4
            cases np4
      have hxA : Paired (RndV (upd H11 p4 (.lst (xs.take n ++ [y] ++ xs.drop (n + 1))))) xs rs := paired_mono (fun _ _ h => RndV.mono h (same_toT sA)) hx6
      refine q p4 _ _ (rs.take n ++ [movedM (swL g i j) r0] ++ rs.drop (n + 1)) (R6.keep sA) (s6.trans (same_sx sA)) np0 upd_same (paired_app (paired_app (paired_takeA n hxA) (.cons (hy9.mono (same_toT ((s10.trans s11).trans s12'))) .nil)) (paired_dropA (n + 1) hxA)) (fun o ho => ?_) ?_
      · rcases List.mem_append.mp ho with ho | ho
        · rcases List.mem_append.mp ho with ho | ho
          · exact hrd o (List.mem_of_mem_take ho)
          · rw [List.mem_singleton.mp ho]
            exact moved_round9 hR0 P
        · exact hrd o (List.mem_of_mem_drop ho)
      · rw [List.length_append, List.length_append, List.length_take, List.length_drop]
        show min n rs.length + 1 + (rs.length - (n + 1)) ≤ rs.length
        omega
end Nf

set_option Elab.async false
set_option linter.all false
set_option maxRecDepth 100000
set_option maxHeartbeats 4000000
namespace PySem
namespace BrX
open PySem.W PySem.Calls PyProof.Rows PySem.HandSPX
/-- what the written part says of BadRound, at C, its __init__ at fI, the cell of its class at cc -/
structure BrTxt (prog : Program) (K : Frag) (mg : Str → Option Value) (C fI : Addr) : Prop where
  gC : mg "BadRound" = some (.ref C)
  cls : ∃ nm q N bs bm sn sub ab col dd k0 k1 k2 k3 k5, K.lookup C = some (excClassObj nm q C N bs bm true sn sub ab col dd k0 k1 k2 k3 k5 "ValueError.__new__") ∧ refsVE bm = true
  sa : findIn K (.ref C) "__setattr__" = some (some (.builtin "object.__setattr__"))
  ga : findIn K (.ref C) "__getattribute__" = some (some (.builtin "BaseException.__getattribute__"))
  gg : findIn K (.ref C) "__getattr__" = some none
  noN : findIn K (.ref C) "number" = some none
  iC : findIn K (.ref C) "__init__" = some (some (.ref fI))
  tC : typeIn K (.ref fI) = some (.type "function")
  kC : keepIn K (.ref C) = true
  exC : subIn K (.ref C) (.type "BaseException") = some true
  veC : subIn K (.ref C) (.type "ValueError") = some true
  tyC : typeIn K (.ref C) = some (.type "type")
  hdC : hasDictIn K C = true
  te : exmOne K (.ref C) (.ref C) = some true
  mro : mroIn K C (.ref C) = some true
  up : ks_superIn K C C "__init__" = some (some (.builtin "ValueError.__init__"))
  opq : nsIn K cStatics "thirdparty.any" = some none
  gS : mg "super" = none
  top : (prog.main.scope.names.lookup ("super" : Str)).isSome = false
  fn : ∃ (oc : Value) (od : Option Addr) (doc pm : Value) (an : Option Addr) (cda : Addr) (ct : Value) (osl : Array (Option Value)) (cc : Addr) (cl : Value) (cld : Option Addr) (csl : Array (Option Value)) (ccl : Value) (cdd : Option Addr) (vs : Array Value) (ccs : Array (Option Value)) (file : Str) (tf : Tok),
    K.lookup fI = some ⟨oc, od, .func (ksFn "__init__" "BadRound.__init__" (L2.defArgs Nf.sBRInit) (L2.defBody Nf.sBRInit) (L2.defScope Nf.sBRInit) .none .none doc pm an (.ref cda) ct cc), osl⟩ ∧ codeIn K (.ref cda) "BadRound.__init__" = true ∧
    K.lookup cc = some ⟨cl, cld, .cell (some (.ref C)), csl⟩ ∧ K.lookup cda = some ⟨ccl, cdd, .fields vs, ccs⟩ ∧ vs[2]? = some (.str file tf) ∧ ((prog.main.file : Str) == file) = true
/-- what __init__ leaves of a fresh exception at x -/
structure InitEnd (h h' : Heap) (x C dx t1 : Addr) (v : Value) : Prop where
  keep : ∀ b o, b ≠ x → h.get? b = some o → h'.get? b = some o
  obj : h'.get? x = some { cls := .ref C, dict := some dx, data := .fields #[.ref t1, .none, .none, .none, .bool false, .none] }
  dbig : h.objs.size ≤ dx
  dne : dx ≠ x
  ns : h'.Ns1 dx (fun y => if y = "number" then some v else none)
section
variable {prog : Program} {w : World} {A : Around} {E : Value → Shared → Prop} {R : Result → Shared → Prop} {s : Shared} {K : Frag} {mg : Str → Option Value} {C fI : Addr}
theorem run_mw {h : Heap} {g : Array GenState} {d : Drawn} {t : Nat} {os : OsState} {nm q : Str} {N : Addr} {bs bm : List Value} {hdct : Bool} {sn : List Str} {sub : List Value} {ab : Bool} {col : Option Bool} {dd : Option Addr} {k0 k1 k2 k3 k5 : Option Value} {u x t0 : Addr} {us : List Value} {Q : Value → Shared → Prop}
    (cO : h.get? C = some (excClassObj nm q C N bs bm hdct sn sub ab col dd k0 k1 k2 k3 k5 "ValueError.__new__")) (xO : h.get? x = some (excO C t0)) (uO : h.get? u = some (kxs_mw "ValueError.__init__" x)) (hrest : us.length ≤ sizeLine)
    (fin : ∀ h' t1, (∀ b o, b ≠ x → h.get? b = some o → h'.get? b = some o) → h'.get? x = some (excO C t1) → Q .none ⟨h', g, d, t, os⟩) : wpAny (model prog w) A (call (.ref u) us) Q E ⟨h, g, d, t, os⟩ := by
  have cond : (Value.type "method-wrapper" == Value.type "method" || Value.type "method-wrapper" == Value.type "builtin_function_or_method" || Value.type "method-wrapper" == Value.type "method-wrapper") = true := by decide
  refine wpAny_call (codeAny_of_tree (show wpAny _ A.in1 (callAny (Value.ref u) { pos := us }) _ _ _ from ?_))
  simp only [callAny]
  refine wpAny_bind (wpAny_load uO ?_)
  simp only [kxs_mw, cond, if_true]
  refine KFB.if_so (by decide) (wpAny_bind (ESX.check_bound F.excBase_ValueError cO xO rfl (wpAny_bind (wpAny_pure (wpAny_pure ?_)))))
  refine ⟨Code.quiet_builtin _ (by decide +kernel), codeAny_builtin (F.excBase_ValueError).initEntry ?_⟩
  rw [Around.under_plainId (F.excBase_ValueError).init.plain _]
  wp_walk
  refine fin _ h.objs.size (fun b o nb ob => ?_) ?_
  · exact (Heap.get?_update_other _ _ (Ne.symm nb)).trans (Heap.get?_push_of_some _ ob)
  · exact Heap.get?_update_self _ (Heap.get?_push_of_some _ xO) rfl
theorem msg_len {n : Int} (hz : n.natAbs.log2 < 1920) : (Str.empty ++ Str.ofString "thing " ++ Str.ofString (toString n) ++ Str.ofString " of the plan is no round").length ≤ sizeLine := by
  have e := int_text_length_le (k := 1920) (by decide) hz
  rw [Str.length_append, Str.length_append, Str.length_append, ofString_length, ofString_length, ofString_length, sizeLine_eq]
  have e1 : ("thing " : String).length = 6 := by decide
  have e2 : (" of the plan is no round" : String).length = 24 := by decide
  have e3 : Str.empty.length = 0 := rfl
  omega
theorem br_init (T : BrTxt prog K mg C fI) {x t0 : Addr} {n : Int} {tn : Tok} (X : K.In s.heap) (hg : s.heap.Ns mainGlobals mg) (hb : ∃ mb, s.heap.Ns builtinsNs mb ∧ mb "super" = some (.type "super")) (hlim : s.heap.NoLimit) (hx : s.heap.get? x = some (excO C t0)) (hnx : K.lookup x = none)
    (hz : n.natAbs.log2 < 1920) (hroom : A.depth < recursionLimit) (hq : ∀ h' tk dx t1, InitEnd s.heap h' x C dx t1 (.int n tn) → R (.ok (.ret .none)) { s with heap := h', toks := tk }) :
    codeAny (model prog w) A (.call (.ref fI) ⟨[.ref x, .int n tn], []⟩) R s := by
  obtain ⟨oc, od, doc, pm, an, cda, ct, osl, cc, cl, cld, csl, ccl, cdd, vs, ccs, file, tf, ho, hcd, hcell, hcode, hvs, hfile⟩ := T.fn
  obtain ⟨nm, q, N, bs, bm, sn, sub, ab, col, dd, k0, k1, k2, k3, k5, hC, hbm⟩ := T.cls
  have hcl : clsIn K C = some { name := nm, bases := bs, mro := .ref C :: bm, ns := N, qualname := q, hasDict := true, slotNames := sn, subclasses := sub, abstract := ab, collection := col, hasDel := false } := by unfold clsIn; rw [hC] <;> rfl
  obtain ⟨mb, hmb, hsup⟩ := hb
  refine ks_codeAny_call_defAt (fd := ksFn "__init__" "BadRound.__init__" (L2.defArgs Nf.sBRInit) (L2.defBody Nf.sBRInit) (L2.defScope Nf.sBRInit) .none .none doc pm an (.ref cda) ct cc) (body := L2.defBody Nf.sBRInit) (binds := [("self", .ref x), ("number", .int n tn)]) hroom (X _ _ ho) rfl hlim (codeRec_of X hcd) rfl
    (BindsTo.of_eq (by first | rfl | with_unfolding_all rfl)) (show ∀ y ∈ (L2.defScope Nf.sBRInit).names, y.2 ≠ .cell by decide +kernel) (fun y hy => ?hl) (fun h₁ hns k => ?_) rfl rfl rfl
  case hl =>
    show (L2.defScope Nf.sBRInit).names.lookup y.1 = some .local
    rcases List.mem_cons.mp hy with rfl | hy
    · rfl
    · rw [List.mem_singleton.mp hy]
      rfl
  have X₁ : K.In h₁ := X.keeps k
  have hx₁ := k _ _ hx
  have I₁ : W.InstAt h₁ x (excO C t0) C none := ⟨hx₁, rfl, rfl, trivial⟩
  refine ks_wpAt_execs_cons (ks_wpAt_Expr_any (ks_wpAt_MethodCall (ks_wpAt_super_base (of := ⟨oc, od, .func (ksFn "__init__" "BadRound.__init__" (L2.defArgs Nf.sBRInit) (L2.defBody Nf.sBRInit) (L2.defScope Nf.sBRInit) .none .none doc pm an (.ref cda) ct cc), osl⟩) (oc := ⟨ccl, cdd, .fields vs, ccs⟩) (ar := { arg := "self", annotation := none, pos := ⟨8, 17, 8, 21⟩ }) rfl rfl (by decide +kernel) rfl (X₁ _ _ ho) rfl rfl rfl (X₁ _ _ hcode) rfl hvs hfile T.top ?_)))
  refine ks_loadName_global rfl rfl (loadGlobal_builtin (hg.keeps k) T.gS (hmb.keeps k) hsup ⟨rfl, ?_⟩)
  refine wpAny_loadName_free rfl rfl rfl ⟨_, X₁ _ _ hcell, rfl⟩ ?_
  refine wpAny_loadName_local rfl rfl hns rfl ?_
  refine ks_wpAny_isType_cls (X₁ _ _ hC) rfl ⟨rfl, ?_⟩
  refine ks_wpAny_call_super (X₁ _ _ hC) rfl hx₁ rfl (fun c e => nomatch e) (looks_mroIn X₁ T.mro) (fun h₂ hso k₂ => ?_)
  have X₂ : K.In h₂ := X₁.keeps k₂
  have I₂ : W.InstAt h₂ x (excO C t0) C none := ⟨k₂ _ _ hx₁, rfl, rfl, trivial⟩
  have hm := T.up
  unfold ks_superIn at hm
  rw [hcl] at hm
  refine kxs_getMethod kxs_ValueError hso (looks_opaque X₂ T.opq) (l₀ := .ref C :: bm) (fun A Q E s kk qq => wpAny_bind ((looks_clsIn X₂ hcl) A _ E s kk (wpAny_pure qq))) rfl X₂ hm (I₂.type.andThen (looks_subIn X₂ T.veC)) (ks_ne X₂ I₂ hcl) rfl ?_
  have up₃ : ∀ b o, h₂.get? b = some o → (h₂.push (kxs_mw "ValueError.__init__" x)).get? b = some o := fun b o e => Heap.get?_push_of_some _ e
  have hu₃ : (h₂.push (kxs_mw "ValueError.__init__" x)).get? h₂.objs.size = some (kxs_mw "ValueError.__init__" x) := Heap.get?_push_at rfl rfl
  generalize h₂.objs.size = u at hu₃
  have k₃ : ∀ b o, h₁.get? b = some o → (h₂.push (kxs_mw "ValueError.__init__" x)).get? b = some o := fun b o e => up₃ b o (k₂ b o e)
  generalize (h₂.push (kxs_mw "ValueError.__init__" x)) = h₃ at up₃ hu₃ k₃
  have ns₃ := hns.keeps k₃
  have hx₃ := k₃ _ _ hx₁
  have X₃ : K.In h₃ := X₁.keeps k₃
  refine kxs_callWith (x := x) (i := "ValueError.__init__") rfl (evalArgs_plain (args_cons (wpAny_JoinedStr ?_) rfl))
  refine wpAny_Constant_str ⟨"thing ", _, rfl, by decide, ?_⟩
  refine wpAny_FormattedValue_plain (wpAny_Name (wpAny_loadName_local rfl rfl ns₃ rfl ?_) (by decide))
  refine wpAny_formatField_int hz ⟨_, _, rfl, ?_, ?_⟩
  · refine Nat.le_trans ?_ (msg_len hz)
    rw [Str.length_append (_ ++ _ ++ _)]
    exact Nat.le_add_right _ _
  refine wpAny_Constant_str ⟨" of the plan is no round", _, rfl, ?_, ?_⟩
  · exact msg_len hz
  refine ⟨?_, args_nil ⟨hu₃, ?_⟩⟩
  · exact msg_len hz
  show wpAny _ _ (call (Value.ref u) [_]) _ _ _
  refine run_mw (X₃ _ _ hC) hx₃ hu₃ (by show 1 ≤ sizeLine; decide) (fun h₄ t1 k₄ hx₄ => ?_)
  have kk₄ : ∀ b o, b ≠ x → h₁.get? b = some o → h₄.get? b = some o := fun b o nb e => k₄ b o nb (k₃ b o e)
  have hxL : s.heap.objs.size ≠ x := Nat.ne_of_gt (Heap.lt_size hx)
  obtain ⟨oL, esL, epL, hL, rL⟩ := hns
  have ns₄ : h₄.Ns s.heap.objs.size (fun y => ([(PySem.Str.ofString "self", Value.ref x), (PySem.Str.ofString "number", Value.int n tn)] : List (Str × Value)).reverse.lookup y) := ⟨oL, esL, epL, kk₄ _ _ hxL hL, rL⟩
  have X₄ : K.In h₄ := fun b o e => k₄ b o (fun z => by rw [z, hnx] at e; cases e) (X₃ b o e)
  refine ks_wpAt_execs_cons (wpAt_of_wpAny (plainObj_wpAny_Assign_Attribute ?_))
  refine wpAny_Name (wpAny_loadName_local rfl rfl ns₄ rfl ?_) (by decide)
  refine wpAny_Name (wpAny_loadName_local rfl rfl ns₄ rfl ?_) (by decide)
  refine set_plain X₄ (ox := excO C t1) (od := none) ⟨hx₄, rfl, rfl, trivial⟩ T.sa ?_
  refine exc_osa X₄ hx₄ hcl (show refsVE (.ref C :: bm) = true from hbm) rfl T.noN (fun h₅ tk₅ dx k₅ dn dne hx₅ hn₅ => ?_)
  exact wpAt_of_wpAny (wpAny_execs_nil (hq h₅ tk₅ dx t1 ⟨fun b o nb e => k₅ b o nb (kk₄ b o nb (k b o e)), hx₅, Nat.le_trans (Nat.le_of_lt ns₄.lt) dn, dne, hn₅⟩))
end
end BrX
end PySem

set_option Elab.async false
set_option linter.all false
set_option maxRecDepth 100000
set_option maxHeartbeats 4000000
namespace PySem
namespace BrX
open PySem.W PySem.Calls PyProof.Rows PySem.HandSPX
/-- a made BadRound -/
structure OwnMade (h h' : Heap) (e C d : Addr) (v : Value) : Prop where
  keep : ∀ b o, h.get? b = some o → h'.get? b = some o
  new : h.objs.size ≤ e
  obj : ∃ oe vs, h'.get? e = some oe ∧ oe.cls = .ref C ∧ oe.dict = some d ∧ oe.data = .fields vs ∧ vs[1]? = some .none
  dbig : h.objs.size ≤ d
  dne : d ≠ e
  ns : h'.Ns1 d (fun y => if y = "number" then some v else none)
section
variable {prog : Program} {w : World} {A : Around} {E : Value → Shared → Prop} {R : Result → Shared → Prop} {s : Shared} {K : Frag} {mg : Str → Option Value} {C fI : Addr}
theorem one_size (v : Value) : [v].length ≤ sizeLine := by
  rw [sizeLine_eq]
  exact (by decide : 1 ≤ 16777216)
theorem br_made (T : BrTxt prog K mg C fI) {n : Int} {tn : Tok} (X : K.In s.heap) (hg : s.heap.Ns mainGlobals mg) (hb : ∃ mb, s.heap.Ns builtinsNs mb ∧ mb "super" = some (.type "super")) (hlim : s.heap.NoLimit) (hz : n.natAbs.log2 < 1920) (hroom : A.depth + 1 < recursionLimit)
    (hq : ∀ h' tk e d, OwnMade s.heap h' e C d (.int n tn) → R (.ok (.ret (.ref e))) { s with heap := h', toks := tk }) :
    codeAny (model prog w) A (.call (.ref C) ⟨[.int n tn], []⟩) R s := by
  obtain ⟨nm, q, N, bs, bm, sn, sub, ab, col, dd, k0, k1, k2, k3, k5, hC, hbm⟩ := T.cls
  obtain ⟨mb, hmb, hsup⟩ := hb
  obtain ⟨hp, g, dr, tk, os⟩ := s
  have k : ∀ b o, hp.get? b = some o → ((hp.push (kdv_tup [.int n tn])).push (excO C hp.objs.size)).get? b = some o := fun b o e => Heap.get?_push_of_some _ (Heap.get?_push_of_some _ e)
  have hget : ((hp.push (kdv_tup [.int n tn])).push (excO C hp.objs.size)).get? (hp.objs.size + 1) = some (excO C hp.objs.size) := by heap_get
  have hnx : K.lookup (hp.objs.size + 1) = none := by
    cases e : K.lookup (hp.objs.size + 1) with
    | none => rfl
    | some o =>
      have z : hp.get? (hp.objs.size + 1) = some o := X _ _ e
      exact absurd (Nat.lt_of_succ_lt (Heap.lt_size z)) (Nat.lt_irrefl _)
  refine call_own F.excBase_ValueError (fun X => refsVE_contains X bm hbm) (X _ _ hC) (looks_findIn X T.iC) (fun self => bind_fn X self T.tC) (one_size _) ?_
  refine br_init (s := ⟨(hp.push (kdv_tup [.int n tn])).push (excO C hp.objs.size), g, dr, tk, os⟩) T (X.keeps k) (hg.keeps k) ⟨mb, hmb.keeps k, hsup⟩ (hlim.keeps k) hget hnx hz ?_ fun h' tk' dx t1 ⟨k', hx, dn, dne, hns⟩ => ?_
  · show A.depth + 1 < recursionLimit
    exact hroom
  · have old : ∀ b o, hp.get? b = some o → h'.get? b = some o := fun b o e => k' b o (Nat.ne_of_lt (Nat.lt_succ_of_lt (Heap.lt_size e))) (k b o e)
    have z : hp.objs.size + 1 + 1 ≤ dx := by
      first
        | (simpa only [Heap.size_push] using dn)
        | exact dn
        | (have q := dn; rw [Heap.size_push, Heap.size_push] at q; exact q)
    exact ⟨rfl, hq h' tk' (hp.objs.size + 1) dx ⟨old, Nat.le_succ _, ⟨_, _, hx, rfl, rfl, rfl, rfl⟩, Nat.le_trans (Nat.le_trans (Nat.le_succ _) (Nat.le_succ _)) z, dne, hns⟩⟩
end
end BrX
end PySem
namespace L2
open PySem PySem.Spec PyProof.Rows
theorem relO_br {v : V} {v' : Value} (r : RelV v v') (f : Str) : RelO (List.lookup f [(("number" : Str), v)]) (if f = "number" then some v' else none) := by
  by_cases hw : f = "number"
  · subst hw
    rw [if_pos rfl]
    have q : List.lookup ("number" : Str) [(("number" : Str), v)] = some v := by simp [List.lookup]
    rw [q]
    exact r
  · rw [if_neg hw]
    have qw : (f == ("number" : Str)) = false := by simpa using hw
    have q2 : List.lookup f [(("number" : Str), v)] = none := by simp [List.lookup, qw]
    rw [q2]
    trivial
section
variable {X : Cx} {C fI : Addr}
/-- BadRound(e) -/
def tMkBr (C : Addr) (ta : TA) : St → Hp → XK → Prop := fun σ H Q => ta σ H fun vs H1 => ∃ n : Int, vs = [.int n] ∧ n.natAbs.log2 < 1920 ∧ ∀ d, H1 d = none → Q (.ref C) (some d) (upd H1 d (.xd [(("number" : Str), .int n)]))
theorem pmk_br {a : Expr} {ta : TA} {p pos : Pos} {k : Nat} (T : PySem.BrX.BrTxt X.prog X.K X.mg C fI) (hr : Room k X.A) (ha : PA X [a] ta) (hg : Gl X "BadRound" := by rfl)
    (he : starEach (a :: []) X.env = (false, eval a X.env) :: starEach [] X.env := by rfl) (hpl : (backTo pos (starEach [] X.env)).any (·.1) = false := by rfl) :
    PMk X (.Call (.Name "BadRound" p) [a] [] pos) (tMkBr C ta) := by
  intro pins s σ H Q I h
  refine wpAny_Call_Name_kw (ld_glob I hg T.gC ?_)
  refine PySem.W.callWith_K (h₀ := X.base) I.ok.mod.kin T.kC (thn (ha.run pos pins s σ H _ I h) fun us s1 hh => ?_) he hpl
  obtain ⟨vs, H1, I1, r1, n, ev, hz, q1⟩ := hh
  subst ev
  refine ⟨I1.kIn, ?_⟩
  cases r1 with
  | cons rv rn =>
    rename_i v' us'
    cases rn
    obtain ⟨tn, rfl⟩ := rv
    show wpAny _ _ (call (.ref C) [.int n tn]) _ _ _
    have hlim := I1.nolimit
    have hglob : s1.heap.Ns mainGlobals X.mg := I1.mod.glob.keeps I1.bk
    have hblt : ∃ mb, s1.heap.Ns builtinsNs mb ∧ mb "super" = some (.type "super") := by
      obtain ⟨mb, h1, h2⟩ := I1.mod.blt
      exact ⟨mb, h1.keeps I1.bk, (h2 "super" (by decide)).trans (by first | rfl | decide +kernel)⟩
    obtain ⟨hp, g, dr, tk, os⟩ := s1
    refine wpAny_call (PySem.BrX.br_made T I1.kIn hglob hblt hlim hz (by have := hr.dp; omega) fun h' tk' e d M => ?_)
    show MkP X pins σ Q (.ref e) ⟨h', g, dr, tk', os⟩
    obtain ⟨oe, fv, hoe, hc, hd, hdat, h1⟩ := M.obj
    have hns := M.ns
    obtain ⟨G', g1, g2⟩ := restrict h' fun b => decide (b ≠ e)
    have gk : ∀ b, b ≠ e → G'.get? b = h'.get? b := fun b hb => g1 b (decide_eq_true hb)
    have ge : G'.get? e = none := g2 e (by simp)
    have old : ∀ b o, hp.get? b = some o → G'.get? b = some o := fun b o q => (gk b (Nat.ne_of_lt (Nat.lt_of_lt_of_le (Heap.lt_size q) M.new))).trans (M.keep b o q)
    have ob : ObjOk X.prog X.w (upd H1 d (.xd [(("number" : Str), .int n)])) G' d (.xd [(("number" : Str), .int n)]) :=
      ⟨_, hns.at (fun o q => (gk d M.dne).trans q), fun f => relO_br (v := .int n) (v' := .int n tn) ⟨tn, rfl⟩ f⟩
    have J : Inv X pins σ (upd H1 d (.xd [(("number" : Str), .int n)])) ⟨G', g, dr, tk', os⟩ := I1.laid (t' := tk') old M.dbig ob
    refine ⟨e, oe, fv, ⟨G', g, dr, tk', os⟩, _, .ref C, some d, rfl, J, fun b o q => ?_, ge, hoe, ⟨hc, hd⟩, hdat, h1, ?_, rfl, I1.bare, raises_own T.exC T.tyC, q1 d (I1.hok.fresh M.dbig)⟩
    · by_cases hb : b = e
      · have q' : G'.get? b = some o := q
        rw [hb, ge] at q'; cases q'
      · exact (gk b hb).symm.trans q
    · rw [upd_ne (Ne.symm M.dne)]
      exact I1.hok.fresh M.new
/-- raise BadRound(e) -/
def tRaiseBr (C : Addr) (W : WX) (ta : TA) : TS := fun _ σ H => tMkBr C ta σ H fun cls d H' => W cls d σ H'
theorem ps_raiseBr {a : Expr} {ta : TA} {W : WX} {p pos pos2 : Pos} {k : Nat} (hc : X.calm = true) (T : PySem.BrX.BrTxt X.prog X.K X.mg C fI) (hr : Room k X.A) (tk : Takes X W) (ha : PA X [a] ta) (hg : Gl X "BadRound" := by rfl)
    (he : starEach (a :: []) X.env = (false, eval a X.env) :: starEach [] X.env := by rfl) (hpl : (backTo pos (starEach [] X.env)).any (·.1) = false := by rfl) :
    PS X (.Raise (some (.Call (.Name "BadRound" p) [a] [] pos)) none pos2) (tRaiseBr C W ta) := ps_raise hc tk (pmk_br T hr ha hg he hpl)
/-- e.number, e the exception that the suite holds (at a; its class cls, its dict d) -/
def tByBr (C : Addr) (a : Addr) (cls : Value) (d : Option Addr) (te : TE) : TE := fun σ H Q => te σ H fun x H1 => x = .ref a ∧ cls = .ref C ∧ ∃ (dd : Addr) (v : V), d = some dd ∧ H1 dd = some (.xd [(("number" : Str), v)]) ∧ Q v H1
theorem pe_byBr {a : Addr} {oe : Obj} {cls : Value} {d : Option Addr} {pn : List (Addr × Obj)} {e : Expr} {te : TE} {pos : Pos} (T : PySem.BrX.BrTxt X.prog X.K X.mg C fI) (hz : Zc cls d oe) (hf : ∃ vs, oe.data = .fields vs) (he : PE (X.suite a ((a, oe) :: pn)) e te)
    (hb : attributeBase e "number" X.env (eval e X.env) = eval e X.env := by rfl) :
    PE (X.suite a ((a, oe) :: pn)) (.Attribute e "number" pos) (tByBr C a cls d te) := by
  refine ⟨fun pins s σ H Q I h => ?_⟩
  refine attr_of hb (thn (he.run pins s σ H _ I h) fun u s1 hh => ?_)
  obtain ⟨x, H1, I1, rx, ex, ec, dd, v, ed, ea, q⟩ := hh
  subst ex
  obtain rfl : u = Value.ref a := rx
  subst ec
  subst ed
  obtain ⟨ha, _⟩ := I1.pin (a, oe) (List.mem_append_left _ List.mem_cons_self)
  obtain ⟨vs, hd⟩ := hf
  have hx : ObjOk X.prog X.w H1 s1.heap dd (.xd [(("number" : Str), v)]) := I1.hok dd _ ea
  obtain ⟨mA, hns, hr⟩ := hx
  obtain ⟨od, ho, hl⟩ := lookIn_ns hns
  have l : List.lookup ("number" : Str) [(("number" : Str), v)] = some v := by simp [List.lookup]
  obtain ⟨u, hu, ru⟩ := RelO.some_of (v := v) (o := mA "number") (by rw [← l]; exact hr "number")
  have J : PySem.W.InstAt s1.heap a oe C (some od) := ⟨ha, hz.1, by unfold PySem.W.notCls; rw [hd] <;> rfl, by rw [hz.2]; exact ho⟩
  exact HandSPX.exc_get I1.kIn J T.ga T.gg T.exC (PySem.W.findObj_own T.hdC T.noN rfl (by rw [hl, hu])) (handed_of ru) ⟨v, H1, I1.tok _, ru, q⟩
end
end L2

set_option Elab.async false
set_option linter.all false
set_option maxRecDepth 100000
set_option maxHeartbeats 4000000
namespace Nf
open PySem PySem.Spec PyProof.Rows L2
variable {P : Program} {w : World} {K : PySem.W.Frag} {mg : Str → Option Value} {base : Heap}
/-! ### met -/
def spMetOk (K : PySem.W.Frag) (C : Addr) : Sp := fun vs H Q _ => ∃ (p l : Addr) (g : Nat) (s : Int) (rs : List Rnd), vs = [.ref p, .ref l] ∧ PartyV C H p g s ∧ IsParty g s ∧ PlanV K H l rs ∧ Small rs ∧ (∀ r ∈ rs, IsRound g s r) ∧
  ∀ H' q, Same H H' → NewLL H H' q (rowsM (metM g (pairsP rs)) g) → Q (.ref q) H'
end Nf

set_option Elab.async false
set_option linter.all false
set_option maxRecDepth 100000
set_option maxHeartbeats 4000000
namespace Nf
open PySem PySem.Spec PyProof.Rows L2
variable {P : Program} {w : World} {K : PySem.W.Frag} {mg : Str → Option Value} {base : Heap}
/-! ### unmet -/
theorem inV_ints (d : Int) (ns : List Int) : inV (.int d) (ns.map V.int) = decide (d ∈ ns) := by
  unfold inV
  rw [Bool.eq_iff_iff, List.any_eq_true, decide_eq_true_eq]
  constructor
  · rintro ⟨y, hy, e⟩
    obtain ⟨n, hn, rfl⟩ := List.mem_map.mp hy
    have e : (n == d) = true := e
    rw [← eq_of_beq e]
    exact hn
  · exact fun h => ⟨.int d, List.mem_map.mpr ⟨d, h, rfl⟩, by show (d == d) = true; exact beq_self_eq_true d⟩
theorem flat_ints (ns : List Int) : (ns.map V.int).all flatV = true := by
  rw [List.all_eq_true]
  intro x hx
  obtain ⟨n, _, rfl⟩ := List.mem_map.mp hx
  rfl
theorem rowsM_get (f : Int → List Int) {n i : Nat} (h : i < n) : (rowsM f n)[i]? = some (f (i : Nat)) := by
  unfold rowsM rangeI
  rw [List.map_map, List.getElem?_map, List.getElem?_range h]
  rfl
def oSc : Scope := { kind := .function, names := [(PySem.Str.ofString ".0", .local), (PySem.Str.ofString "guest", .cell), (PySem.Str.ofString "others", .cell), (PySem.Str.ofString "everyone", .cell)], isGenerator := false, isCoroutine := false, more := [] }
def spUnmetOk (K : PySem.W.Frag) (C : Addr) : Sp := fun vs H Q _ => ∃ (p l : Addr) (g : Nat) (s : Int) (rs : List Rnd), vs = [.ref p, .ref l] ∧ PartyV C H p g s ∧ IsParty g s ∧ PlanV K H l rs ∧ Small rs ∧ (∀ r ∈ rs, IsRound g s r) ∧
  ∀ H' q, Same H H' → NewLL H H' q (rowsM (unmetM g (pairsP rs)) g) → Q (.ref q) H'
end Nf

set_option Elab.async false
set_option linter.all false
set_option maxRecDepth 100000
set_option maxHeartbeats 4000000
namespace L2
open PySem PySem.Spec PyProof.Rows
/-- what the class D says, so that isinstance asks its instances rightly (they have a dict) -/
structure ExcD (K : PySem.W.Frag) (D : Addr) : Prop where
  hc : (PySem.W.clsIn K D).isSome = true
  hg : PySem.W.findIn K (.ref D) "__getattribute__" = some (some (.builtin "BaseException.__getattribute__"))
  hk : PySem.W.findIn K (.ref D) "__getattr__" = some none
  hs : PySem.W.subIn K (.ref D) (.type "BaseException") = some true
  ha : PySem.W.findIn K (.ref D) "__class__" = some (some (.builtin "object.__class__"))
  hn : PySem.W.specialIn K (.builtin "object.__class__") "__get__" = some (some (.builtin "getset_descriptor.__get__"))
  ht : PySem.W.takesIn K (.builtin "object.__class__") = some true
  hm : PySem.W.mroIn K D (.type "object") = some true
/-- isinstance(e, c), e the exception that the suite holds, of the class at D, with a dict at dd -/
def rIsD (K : PySem.W.Frag) (D a : Addr) (cls : Value) (d : Option Addr) : List V → Hp → VK → Prop := fun xs H Q => ∃ (c : V) (cv : Value) (b : Bool) (fs : List (Str × V)) (dd : Addr), cls = .ref D ∧ d = some dd ∧ xs = [.ref a, c] ∧ (∀ u, RelV c u → u = cv) ∧ PySem.W.kitOne K (.ref D) cv = some b ∧ H dd = some (.xd fs) ∧ Q (.bl b) H
theorem call_isD {X : Cx} {a D : Addr} {cls : Value} {d : Option Addr} {oe : Obj} {pn : List (Addr × Obj)} (C : ExcD X.K D) (hz : Zc cls d oe) (hf : ∃ vs, oe.data = .fields vs) : CallR (X.suite a ((a, oe) :: pn)) (.builtin "isinstance") (rIsD X.K D a cls d) := by
  intro pins s σ H xs us Q I r h
  obtain ⟨c, cv, b, fs, dd, rfl, rfl, rfl, hcv, e, ed, q⟩ := h
  cases r with
  | cons rx rr =>
    cases rr with
    | cons rt rr =>
      cases rr
      cases rx
      have ec := hcv _ rt
      subst ec
      obtain ⟨hget, _⟩ := I.pin (a, oe) (List.mem_append_left _ List.mem_cons_self)
      obtain ⟨vs, hv⟩ := hf
      have hx : ObjOk X.prog X.w H s.heap dd (.xd fs) := I.hok dd _ ed
      obtain ⟨mA, hns, hr⟩ := hx
      obtain ⟨od, ho, hl⟩ := lookIn_ns hns
      have J : PySem.W.InstAt s.heap a oe D (some od) := ⟨hget, hz.1, by unfold PySem.W.notCls; rw [hv] <;> rfl, by rw [hz.2]; exact ho⟩
      exact PySem.W.kia_one (PySem.W.kitx_exc C.hc C.hg C.hk C.hs C.ha C.hn C.ht C.hm) I.kIn J e (fun z => nomatch z) fun tk => ⟨.bl b, H, I.kept (t' := tk) fun _ _ z => z, rfl, q⟩
end L2

set_option Elab.async false
set_option linter.all false
set_option maxRecDepth 100000
set_option maxHeartbeats 4000000
namespace Nf
open PySem PySem.Spec PyProof.Rows L2
variable {P : Program} {w : World} {K : PySem.W.Frag} {mg : Str → Option Value} {base : Heap}
/-! ### check_plan of a plan with a thing that is no round -/
/-- thing k is the first that is no round -/
def FirstBad (g s : Int) (rs : List Rnd) (k : Nat) : Prop := ∃ r, rs[k]? = some r ∧ ¬ IsRound g s r ∧ ∀ i, i < k → ∀ r, rs[i]? = some r → IsRound g s r
def spCheckBad (K : PySem.W.Frag) (C CB : Addr) : Sp := fun vs H _ E => ∃ (p l : Addr) (g s : Int) (rs : List Rnd) (k : Nat), vs = [.ref p, .ref l] ∧ PartyV C H p g s ∧ IsParty g s ∧ PlanV K H l rs ∧ Small rs ∧ FirstBad g s rs k ∧
  ∀ H' d, Same H H' → H d = none → H' d = some (.xd [(("number" : Str), .int (k : Nat))]) → E (.ref CB) (some d) H'
theorem ok_checkBad {f fI C CB fB : Addr} {fd fdI : FuncData} (F : Fun K "check_plan" "check_plan" sCheck f fd) (B : Blt mg) (TB : PySem.BrX.BrTxt P K mg CB fB) (GI : FnOk P w K mg base CX0 3 fI fdI ["party", "thing"] (spIsRound C)) (FI : Fun K "is_round" "is_round" sIsRound fI fdI) (bI : Binds K fdI ["party", "thing"] []) (gI : mg "is_round" = some (.ref fI)) :
    FnOk P w K mg base (L2.CX P w) 4 f fd ["party", "plan"] (spCheckBad K C CB) := by
  refine F.okX scCheck (fun vs H Q E h => ?_) (fun cdv A outer s H vs Q E hr h => ?_)
  · obtain ⟨p, l, g, s, rs, k, rfl, _⟩ := h
    rfl
  · obtain ⟨p, l, g, z, rs, kb, rfl, hP, hI, ⟨xs, hl, hxs⟩, hS, hbad, q⟩ := h
    refine ⟨_, pss_one (ps_for (passes_of rfl) rfl (pi_enum (by rfl) B.enumerate (pa_cons (pv 1) pa_nil)) (pg_tup rfl (pgs_cons (pg_name (i := 2) scCheck.nd rfl (.inl rfl)) (pgs_cons (pg_name (i := 3) scCheck.nd rfl (.inl rfl)) pgs_nil)))
        (pss_one (ps_if (pt_not (pt_val (pe_call GI hr (by rfl) gI FI.kp bI .nil pass0 (pa_cons (pv 0) (pa_cons (pv 3) pa_nil))))) (pss_one (ps_raiseBr rfl TB hr (takes_of rfl rfl rfl rfl) (pa_cons (pv 2) pa_nil))) pss_nil))), ?_⟩
    have hxl := paired_len hxs
    obtain ⟨rb, hrb, hnb, hgood⟩ := hbad
    refine ⟨.ref l, rfl, l, xs, rfl, hl, ?_⟩
    refine for_it (walk_enum (xs := xs)) (fun i σ H2 => ∃ (y3 y4 : Option V), σ = [some (.ref p), some (.ref l), y3, y4] ∧ Same H H2 ∧ i ≤ kb)
      ⟨none, none, rfl, Same.refl _, Nat.zero_le _⟩ (fun i σ H2 _ h => ?_) (fun i x σ H2 H3 hi hI2 y => ?_) (fun σ H2 hI2 => ?_)
    · obtain ⟨_, _, _, sm, _⟩ := h
      exact sm.seq hl
    · obtain ⟨y3, y4, rfl, sm, hik⟩ := hI2
      obtain ⟨T, v1, v2, rfl, nT, rfl, g1, g2⟩ := y
      have e1 : v1 = .int ((i : Nat) : Int) := (Option.some.inj g1).symm
      subst e1
      obtain ⟨r, hr0, hrx⟩ := paired_getL hxs g2
      have hmem : r ∈ rs := List.mem_of_getElem? hr0
      have sT : Same H2 (upd H2 T (.tup [.int ((i : Nat) : Int), v2])) := same_new nT
      refine ⟨T, _, rfl, SqT.of upd_same, rfl, _, _, rfl, _, _, rfl, ⟨rfl, ?_⟩⟩
      have sm3 := sm.trans sT
      refine ⟨.ref p, rfl, v2, rfl, p, g, z, v2, r, rfl, hP.same sm3, hI, hrx.mono (same_toT sm3), hS.r r hmem, hS.t r hmem, fun b H4 s4 hb => ?_⟩
      have sm4 := sm3.trans s4
      by_cases hk : i = kb
      · subst hk
        rw [hrb] at hr0
        cases hr0
        have eb : b = false := by
          cases b with
          | false => rfl
          | true => exact absurd (hb.mp rfl) hnb
        subst eb
        have hi64 : i < 2 ^ 1000 := by
          have := hS.n
          have e : (1000 : Nat) < 2 ^ 1000 := by decide +kernel
          omega
        refine ⟨_, rfl, iteT ?_⟩
        refine ⟨.int ((i : Nat) : Int), rfl, ((i : Nat) : Int), rfl, ?_, fun d hd => q _ d (sm4.trans (same_new hd)) (sm4.free hd) upd_same⟩
        show ((i : Nat) : Int).natAbs.log2 < 1920
        rw [Int.natAbs_natCast]
        exact Nat.lt_of_le_of_lt (Nat.log2_le_self i) (by have := hS.n; omega)
      · have eb : b = true := hb.mpr (hgood i (by omega) r hr0)
        subst eb
        exact ⟨_, rfl, iteF ⟨_, _, rfl, sm4, by omega⟩⟩
    · obtain ⟨_, _, rfl, sm, hik⟩ := hI2
      have := (List.getElem?_eq_some_iff.mp hrb).1
      omega
end Nf

set_option Elab.async false
set_option linter.all false
set_option maxRecDepth 100000
set_option maxHeartbeats 4000000
namespace Nf
open PySem PySem.Spec PyProof.Rows L2
variable {P : Program} {w : World} {K : PySem.W.Frag} {mg : Str → Option Value} {base : Heap}
/-! ### two ways of one def -/
theorem fnOk_toX {CX : CXT} {k : Nat} {f : Addr} {fd : FuncData} {ps : List Str} {sp : Sp} (F : FnOk P w K mg base CX0 k f fd ps sp) : FnOk P w K mg base CX k f fd ps sp :=
  ⟨F.len, fun A outer s H args us vs Q E hr he hb hv hs => codeAny_mono (F.run A outer s H args us vs Q E hr he hb hv hs) fun r s' h => by
    cases r with
    | error e => exact False.elim h
    | ok fl => cases fl <;> exact h⟩
theorem fnOk_or {CX : CXT} {k : Nat} {f : Addr} {fd : FuncData} {ps : List Str} {sp sp' sp'' : Sp} (F : FnOk P w K mg base CX k f fd ps sp) (G : FnOk P w K mg base CX k f fd ps sp') (h : ∀ vs H Q E, sp'' vs H Q E → sp vs H Q E ∨ sp' vs H Q E) : FnOk P w K mg base CX k f fd ps sp'' :=
  ⟨fun vs H Q E hs => (h vs H Q E hs).elim (F.len vs H Q E) (G.len vs H Q E), fun A outer s H args us vs Q E hr he hb hv hs => (h vs H Q E hs).elim (F.run A outer s H args us vs Q E hr he hb hv) (G.run A outer s H args us vs Q E hr he hb hv)⟩
theorem first_bad {g s : Int} : ∀ {rs : List Rnd}, (∀ r ∈ rs, IsRound g s r) ∨ ∃ k, FirstBad g s rs k
  | [] => .inl fun _ h => by simp at h
  | r :: rs => by
    by_cases hr : IsRound g s r
    · rcases first_bad (g := g) (s := s) (rs := rs) with h | ⟨k, rb, h1, h2, h3⟩
      · exact .inl fun x hx => by
          rcases List.mem_cons.mp hx with rfl | hx
          · exact hr
          · exact h x hx
      · refine .inr ⟨k + 1, rb, by simpa using h1, h2, fun i hi x hx => ?_⟩
        cases i with
        | zero =>
          have e : r = x := by simpa using hx
          rw [← e]
          exact hr
        | succ i => exact h3 i (by omega) x (by simpa using hx)
    · exact .inr ⟨0, r, rfl, hr, fun i hi => by omega⟩
/-! ### unmet refuses -/
/-- met and unmet, asked of any plan: a list, or the number of the first thing that is no round -/
def spAskX (K : PySem.W.Frag) (C CB : Addr) (F : Nat → List (Int × Int) → Int → List Int) : Sp := fun vs H Q E => ∃ (p l : Addr) (g : Nat) (s : Int) (rs : List Rnd), vs = [.ref p, .ref l] ∧ PartyV C H p g s ∧ IsParty g s ∧ PlanV K H l rs ∧ Small rs ∧
  ((∀ r ∈ rs, IsRound g s r) → ∀ H' q, Same H H' → NewLL H H' q (rowsM (F g (pairsP rs)) g) → Q (.ref q) H') ∧ ∀ k, FirstBad g s rs k → ∀ H' d, Same H H' → H d = none → H' d = some (.xd [(("number" : Str), .int (k : Nat))]) → E (.ref CB) (some d) H'
theorem ask_or {C CB : Addr} {vs : List V} {H : Hp} {Q : VK} {E : XK} {F : Nat → List (Int × Int) → Int → List Int} (h : spAskX K C CB F vs H Q E) :
    (∃ (p l : Addr) (g : Nat) (s : Int) (rs : List Rnd), vs = [.ref p, .ref l] ∧ PartyV C H p g s ∧ IsParty g s ∧ PlanV K H l rs ∧ Small rs ∧ (∀ r ∈ rs, IsRound g s r) ∧ ∀ H' q, Same H H' → NewLL H H' q (rowsM (F g (pairsP rs)) g) → Q (.ref q) H') ∨ spCheckBad K C CB vs H Q E := by
  obtain ⟨p, l, g, s, rs, e, h1, h2, h3, h4, h5, h6⟩ := h
  rcases first_bad (g := (g : Int)) (s := s) (rs := rs) with hr | ⟨k, hk⟩
  · exact .inl ⟨p, l, g, s, rs, e, h1, h2, h3, h4, hr, h5 hr⟩
  · exact .inr ⟨p, l, g, s, rs, k, e, h1, h2, h3, h4, hk, h6 k hk⟩
end Nf

set_option Elab.async false
set_option linter.all false
set_option maxRecDepth 100000
set_option maxHeartbeats 4000000
namespace Nf
open PySem PySem.Spec PyProof.Rows L2
variable {P : Program} {w : World} {K : PySem.W.Frag} {mg : Str → Option Value} {base : Heap}
/-! ### the law's refused -/
/-- the classes of refusals, as the suite asks for them -/
structure Kinds (K : PySem.W.Frag) (mg : Str → Option Value) (CB PE CP CT CX : Addr) : Prop where
  gE : mg "PartyError" = some (.ref PE)
  gP : mg "BadParty" = some (.ref CP)
  gT : mg "BadText" = some (.ref CT)
  gX : mg "BadTurning" = some (.ref CX)
  gV : mg "ValueError" = none
  te : PySem.W.exmOne K (.ref CB) (.ref PE) = some true
  kP : PySem.W.kitOne K (.ref CB) (.ref CP) = some false
  kT : PySem.W.kitOne K (.ref CB) (.ref CT) = some false
  kX : PySem.W.kitOne K (.ref CB) (.ref CX) = some false
  kB : PySem.W.kitOne K (.ref CB) (.ref CB) = some true
  kV : PySem.W.kitOne K (.ref CB) (.type "ValueError") = some true
  ed : ExcD K CB
end Nf

set_option Elab.async false
set_option linter.all false
set_option maxRecDepth 100000
set_option maxHeartbeats 4000000
namespace PySem.W
open PySem
/-! ### what isinstance and except ask of own classes, from the parts -/
theorem kit_ref {K : Frag} {C D : Addr} {b : Bool} (hd : hasDictIn K C = true) (ht : typeIn K (.ref C) = some (.type "type")) (hs : subIn K (.ref D) (.ref C) = some b) (ne : D ≠ C) : kitOne K (.ref D) (.ref C) = some b := by
  obtain ⟨cd, hc, _⟩ := any_some hd
  have e1 : (Value.ref D == Value.ref C) = false := by simpa using ne
  have e2 : ((clsIn K C).isSome && typeIn K (.ref C) == some (.type "type")) = true := by rw [hc, ht] <;> rfl
  unfold kitOne
  rw [e1, if_neg Bool.false_ne_true]
  show (if ((clsIn K C).isSome && typeIn K (.ref C) == some (.type "type")) = true then subIn K (.ref D) (.ref C) else none) = some b
  rw [if_pos e2]
  exact hs
theorem sub_ne {K : Frag} {C D : Addr} (h1 : subIn K (.ref D) (.ref D) = some true) (h2 : subIn K (.ref D) (.ref C) = some false) : D ≠ C := fun e => by
  subst e
  rw [h1] at h2
  cases h2
theorem kit_self {K : Frag} {D : Addr} : kitOne K (.ref D) (.ref D) = some true := by
  unfold kitOne
  rw [if_pos (by simp)]
theorem kit_ve {K : Frag} {D : Addr} (h : subIn K (.ref D) (.type "ValueError") = some true) : kitOne K (.ref D) (.type "ValueError") = some true := by
  have e1 : (Value.ref D == Value.type "ValueError") = false := by simp
  have e2 : kitMeta "ValueError" = true := by decide +kernel
  unfold kitOne
  rw [e1, if_neg Bool.false_ne_true]
  show (if kitMeta "ValueError" = true then subIn K (.ref D) (.type "ValueError") else none) = some true
  rw [if_pos e2]
  exact h
theorem super_of {K : Frag} {C PE : Addr} {name : Str} {r : Option (Option Value)} {tl : List Value} {nm q nm' q' : Str} {N N' : Addr} {bs bs' : List Value} {h1 h1' : Bool} {sn sn' : List Str} {sb sb' : List Value} {ab ab' : Bool} {col col' : Option Bool} {dd dd' : Option Addr} {k0 k1 k2 k3 k5 k0' k1' k2' k3' k5' : Option Value} {nw nw' : String}
    (hC : K.lookup C = some (excClassObj nm q C N bs (.ref PE :: tl) h1 sn sb ab col dd k0 k1 k2 k3 k5 nw)) (hE : K.lookup PE = some (excClassObj nm' q' PE N' bs' tl h1' sn' sb' ab' col' dd' k0' k1' k2' k3' k5' nw')) (hf : findIn K (.ref PE) name = r) : ks_superIn K C C name = r := by
  have e2 : findIn K (.ref PE) name = alongIn K name (.ref PE :: tl) := by
    show (match K.lookup PE with
      | some ⟨_, _, .cls cd, _⟩ => alongIn K name cd.mro
      | _ => none) = _
    rw [hE]
  rw [← hf, e2]
  have e1 : clsIn K C = some { name := nm, bases := bs, mro := .ref C :: .ref PE :: tl, ns := N, qualname := q, hasDict := h1, slotNames := sn, subclasses := sb, abstract := ab, collection := col, hasDel := false } := by
    unfold clsIn
    rw [hC] <;> rfl
  unfold ks_superIn
  rw [e1]
  show alongIn K name (((Value.ref C :: Value.ref PE :: tl).dropWhile (· != Value.ref C)).drop 1) = alongIn K name (Value.ref PE :: tl)
  simp [List.dropWhile_cons]
theorem cls_some {K : Frag} {C N : Addr} {bm bs : List Value} {nm q : Str} {h1 : Bool} {sn : List Str} {sb : List Value} {ab : Bool} {col : Option Bool} {dd : Option Addr} {k0 k1 k2 k3 k5 : Option Value} {nw : String} (hC : K.lookup C = some (excClassObj nm q C N bs bm h1 sn sb ab col dd k0 k1 k2 k3 k5 nw)) : (clsIn K C).isSome = true := by
  unfold clsIn
  rw [hC] <;> rfl
end PySem.W

set_option Elab.async false
set_option linter.all false
set_option maxRecDepth 100000
set_option maxHeartbeats 4000000
namespace Nf
open PySem PySem.Spec PyProof.Rows L2
variable {P : Program} {w : World} {K : PySem.W.Frag} {mg : Str → Option Value} {base : Heap}
/-! ### all that take a plan refuse one with a thing that is no round -/
theorem pe_no {X : Cx} {e : Expr} : PE X e (fun _ _ _ => False) := ⟨fun _ _ _ _ _ _ h => h.elim⟩
theorem fnNo {k : Nat} {f : Addr} {fd : FuncData} {ps : List Str} : FnOk P w K mg base CX0 k f fd ps (fun _ _ _ _ => False) := ⟨fun _ _ _ _ h => h.elim, fun _ _ _ _ _ _ _ _ _ _ _ _ _ h => h.elim⟩
def lgN : List Str := ["party", "plan", "number", "reason", "candidates", "together", "chain", "rounds", "lengths", "tables", "at"]
/-- check_plan is what a def does first: it has two parameters more -/
def spCheckBad3 (K : PySem.W.Frag) (C CB : Addr) : Sp := fun vs H Q E => ∃ x y z, vs = [x, y, z] ∧ spCheckBad K C CB [x, y] H Q E
def spCheckBad4 (K : PySem.W.Frag) (C CB : Addr) : Sp := fun vs H Q E => ∃ x y z u, vs = [x, y, z, u] ∧ spCheckBad K C CB [x, y] H Q E
def cmN : List Str := ["party", "plan", "first", "number", "tables"]
theorem checkBad_Q {C CB : Addr} {vs : List V} {H : Hp} {Q Q' : VK} {E : XK} (h : spCheckBad K C CB vs H Q E) : spCheckBad K C CB vs H Q' E := h
def alN : List Str := ["party", "one", "other", "guests", "both", "tables"]
theorem scAlikeB : FnScope alN ["party", "one", "other"] (defScope sAlikeP) := ⟨rfl, rfl, rfl, by decide +kernel, rfl, by decide +kernel, by decide +kernel⟩
/-- alike: the one is bad, or the one is good and the other bad -/
def spAlikeBad (K : PySem.W.Frag) (C CB : Addr) : Sp := fun vs H Q E => ∃ x y z, vs = [x, y, z] ∧ spCheckBad K C CB [x, y] H Q E
def spAlikeBad2 (K : PySem.W.Frag) (C CB : Addr) : Sp := fun vs H Q E => ∃ x y z, vs = [x, y, z] ∧ spCheckOk K C [x, y] H (fun _ H' => spCheckBad K C CB [x, z] H' Q E) E
theorem ok_alikeBad {f fC C CB : Addr} {fd fdC : FuncData} (F : Fun K "alike" "alike" sAlikeP f fd) (GC : FnOk P w K mg base (L2.CX P w) 4 fC fdC ["party", "plan"] (spCheckBad K C CB)) (FC : Fun K "check_plan" "check_plan" sCheck fC fdC) (bC : Binds K fdC ["party", "plan"] []) (gC : mg "check_plan" = some (.ref fC)) :
    FnOk P w K mg base (L2.CX P w) 5 f fd ["party", "one", "other"] (spAlikeBad K C CB) := by
  refine F.okX scAlikeB (fun vs H Q E h => ?_) (fun cdv A outer s H vs Q E hr h => ?_)
  · obtain ⟨x, y, z, rfl, _⟩ := h
    rfl
  · obtain ⟨x, y, z, rfl, q⟩ := h
    refine ⟨_, pss_cons (ps_expr (pe_call GC hr (by rfl) gC FC.kp bC .nil (passes_call (takes_of rfl rfl rfl rfl) (fun _ _ _ _ h => h)) (pa_cons (pv 0) (pa_cons (pv 1) pa_nil)))) pss_never, ?_⟩
    exact ⟨x, rfl, y, rfl, q⟩
theorem ok_alikeBad2 {f fC C CB : Addr} {fd fdC : FuncData} (F : Fun K "alike" "alike" sAlikeP f fd) (GC : FnOk P w K mg base (L2.CX P w) 4 fC fdC ["party", "plan"] (spCheckBad K C CB)) (GO : FnOk P w K mg base CX0 4 fC fdC ["party", "plan"] (spCheckOk K C)) (FC : Fun K "check_plan" "check_plan" sCheck fC fdC) (bC : Binds K fdC ["party", "plan"] []) (gC : mg "check_plan" = some (.ref fC)) :
    FnOk P w K mg base (L2.CX P w) 5 f fd ["party", "one", "other"] (spAlikeBad2 K C CB) := by
  refine F.okX scAlikeB (fun vs H Q E h => ?_) (fun cdv A outer s H vs Q E hr h => ?_)
  · obtain ⟨x, y, z, rfl, _⟩ := h
    rfl
  · obtain ⟨x, y, z, rfl, q⟩ := h
    refine ⟨_, pss_cons (ps_expr (pe_call GO hr (by rfl) gC FC.kp bC .nil pass0 (pa_cons (pv 0) (pa_cons (pv 1) pa_nil)))) (pss_cons (ps_expr (pe_call GC hr (by rfl) gC FC.kp bC .nil (passes_call (takes_of rfl rfl rfl rfl) (fun _ _ _ _ h => h)) (pa_cons (pv 0) (pa_cons (pv 2) pa_nil)))) pss_never), ?_⟩
    refine ⟨x, rfl, y, rfl, ?_⟩
    obtain ⟨p, l, g, s, rs, e, h1, h2, h3, h4, h5, h6⟩ := q
    exact ⟨p, l, g, s, rs, e, h1, h2, h3, h4, h5, fun H' sm => ⟨x, rfl, z, rfl, h6 H' sm⟩⟩
end Nf

set_option Elab.async false
set_option linter.all false
set_option maxRecDepth 100000
set_option maxHeartbeats 4000000
namespace Nf
open PySem PySem.Spec PyProof.Rows L2
variable {P : Program} {w : World} {K : PySem.W.Frag} {mg : Str → Option Value} {base : Heap}
/-! ### the law's refused, of alike -/
def spAlikeX (K : PySem.W.Frag) (C CB : Addr) : Sp := fun vs H Q E => spAlikeBad K C CB vs H Q E ∨ spAlikeBad2 K C CB vs H Q E
theorem ok_alikeX {f fC C CB : Addr} {fd fdC : FuncData} (F : Fun K "alike" "alike" sAlikeP f fd) (GC : FnOk P w K mg base (L2.CX P w) 4 fC fdC ["party", "plan"] (spCheckBad K C CB)) (GO : FnOk P w K mg base CX0 4 fC fdC ["party", "plan"] (spCheckOk K C)) (FC : Fun K "check_plan" "check_plan" sCheck fC fdC) (bC : Binds K fdC ["party", "plan"] []) (gC : mg "check_plan" = some (.ref fC)) :
    FnOk P w K mg base (L2.CX P w) 5 f fd ["party", "one", "other"] (spAlikeX K C CB) := fnOk_or (ok_alikeBad F GC FC bC gC) (ok_alikeBad2 F GC GO FC bC gC) fun _ _ _ _ h => h
theorem scRefusedA : FnScope ["_law_party", "_law_one", "_law_other", "e"] ["_law_party", "_law_one", "_law_other"] (defScope lRefused) := ⟨rfl, rfl, rfl, by decide +kernel, rfl, by decide +kernel, by decide +kernel⟩
def spRefusedA (K : PySem.W.Frag) (C : Addr) : Sp := fun vs H Q _ => ∃ (p l1 l2 : Addr) (g s : Int) (one : List Rnd) (k : Nat), vs = [.ref p, .ref l1, .ref l2] ∧ PartyV C H p g s ∧ IsParty g s ∧ PlanV K H l1 one ∧ Small one ∧
  (FirstBad g s one k ∨ ∃ other, (∀ r ∈ one, IsRound g s r) ∧ PlanV K H l2 other ∧ Small other ∧ FirstBad g s other k) ∧ ∀ H', Same H H' → Q (.int (k : Nat)) H'
theorem ok_refusedA {f fA fB C CB : Addr} {fd fdA : FuncData} (F : Fun K "_law_refused" "_law_refused" lRefused f fd) (TB : PySem.BrX.BrTxt P K mg CB fB) (te : PySem.W.exmOne K (.ref CB) (.ref CB) = some true)
    (GA : FnOk P w K mg base (L2.CX P w) 5 fA fdA ["party", "one", "other"] (spAlikeX K C CB)) (FA : Fun K "alike" "alike" sAlikeP fA fdA) (bA : Binds K fdA ["party", "one", "other"] []) (gA : mg "alike" = some (.ref fA)) :
    FnOk P w K mg base CX0 6 f fd ["_law_party", "_law_one", "_law_other"] (spRefusedA K C) := by
  refine F.ok scRefusedA (fun vs H Q E h => ?_) (fun cdv A outer s H vs Q E hr h => ?_)
  · obtain ⟨p, l1, l2, g, s, one, k, rfl, _⟩ := h
    rfl
  · obtain ⟨p, l1, l2, g, z, one, k, rfl, hP, hI, h1, hS, hbad, q⟩ := h
    refine ⟨_, pss_cons (ps_try_as (i := 3) (Wout := fun _ _ _ _ => False) (ts := fun a cls d => tRet (tByBr CB a cls d (tVar 3))) (tb := fun W => tDrop (tCallS (spAlikeX K C CB) (WE W) (tCons (tVar 0) (tCons (tVar 1) (tCons (tVar 2) tNil))))) rfl rfl scRefusedA.nd rfl rfl ⟨rfl, by decide, .inl TB.gC⟩ takes0
        (fun W pn xe tk _ => pss_one (ps_expr (by exact (pe_callS GA hr (by rfl) gA FA.kp bA (fun σ => passAt tk σ) (by exact (pa_cons (pv 0) (pa_cons (pv 1) (pa_cons (pv 2) pa_nil))))))))
        (fun a oe cls d pn hz hf => pss_one (ps_ret (by exact (pe_byBr TB hz hf (pv 3)))))) (pss_one (ps_ret pe_non)), ?_⟩
    have fin : ∀ (H' : Hp) (d : Addr), Same H H' → H d = none → H' d = some (.xd [(("number" : Str), .int (k : Nat))]) → True := fun _ _ _ _ _ => trivial
    rcases hbad with hb | ⟨other, hg, h2, hS2, hb⟩
    · refine ⟨.ref p, rfl, .ref l1, rfl, .ref l2, rfl, .inl ⟨.ref p, .ref l1, .ref l2, rfl, p, l1, g, z, one, k, rfl, hP, hI, h1, hS, hb, fun H' d sm nd hd => ⟨true, te, fun _ a na => ?_, fun q => Bool.noConfusion q⟩⟩⟩
      exact ⟨.ref a, rfl, rfl, rfl, d, _, rfl, hd, q H' sm⟩
    · refine ⟨.ref p, rfl, .ref l1, rfl, .ref l2, rfl, .inr ⟨.ref p, .ref l1, .ref l2, rfl, p, l1, g, z, one, rfl, hP, hI, h1, hS, hg, fun H1 s1 => ⟨p, l2, g, z, other, k, rfl, hP.same s1, hI, planV_same h2 s1, hS2, hb, fun H' d sm nd hd => ⟨true, te, fun _ a na => ?_, fun q => Bool.noConfusion q⟩⟩⟩⟩
      exact ⟨.ref a, rfl, rfl, rfl, d, _, rfl, hd, q H' (s1.trans sm)⟩
end Nf

set_option Elab.async false
set_option linter.all false
set_option maxRecDepth 100000
set_option maxHeartbeats 4000000
namespace Nf
open PySem PySem.Spec PyProof.Rows L2
variable {P : Program} {w : World} {K : PySem.W.Frag} {mg : Str → Option Value} {base : Heap}
/-! ### mixed: of rounds -/
theorem perm_eraseR : ∀ {l : List V} {i : Nat} (h : i < l.length), (l[i] :: l.eraseIdx i).Perm l
  | [], _, h => absurd h (Nat.not_lt_zero _)
  | x :: l, 0, _ => List.Perm.refl _
  | x :: l, i + 1, h => by
    have hi : i < l.length := by simpa using h
    have ih := perm_eraseR (l := l) (i := i) hi
    exact (List.Perm.swap x (l[i]'hi) _).trans (List.Perm.cons x ih)
def spMixedR (K : PySem.W.Frag) : Sp := fun vs H Q _ => ∃ (r a b : Addr) (ns : List Int) (l : List V), vs = [.ref r, .ref b] ∧ RowAt K H r a ns ∧ SqL K H b l ∧ l.length ≤ 100000 ∧ (∀ x ∈ l, ∃ t, RndV H x t) ∧
  ∀ (q : Addr) (H' : Hp) (l' : List V), RowAt K H' r a ns → Sx r H H' → H q = none → H' q = some (.lst l') → l'.Perm l → Q (.ref q) H'
theorem rnds_of {H : Hp} : ∀ {l : List V}, (∀ x ∈ l, ∃ t, RndV H x t) → ∃ ts, Paired (RndV H) l ts
  | [], _ => ⟨[], .nil⟩
  | x :: l, h => by
    obtain ⟨t, ht⟩ := h x (by simp)
    obtain ⟨ts, hts⟩ := rnds_of (l := l) fun y hy => h y (List.mem_cons_of_mem _ hy)
    exact ⟨t :: ts, .cons ht hts⟩
theorem eqv_nilRr (l : List Rnd) : PyData.eqv (.list (l.map fun r => .tuple (r.map dT))) (.list []) = l.isEmpty := by
  cases l <;> simp [PyData.eqv, PyData.eqvAll]
theorem seqIxR {l : List V} {v : Int} (h0 : 0 ≤ v) (h1 : v < l.length) : seqIndex? v l.length = some v.toNat := by
  unfold seqIndex?
  have h2 : ¬ v < 0 := by omega
  simp [h2]
  omega
theorem ok_mixedR {f fT : Addr} {fd fdT : FuncData} (F : Fun K "_law_mixed" "_law_mixed" lMixed f fd) (B : Blt mg) (FT : Fun K "_law_taken" "_law_taken" lTaken fT fdT) (bT : Binds K fdT ["_law_row", "_law_many"] []) (gT : mg "_law_taken" = some (.ref fT)) : FnOk P w K mg base CX0 2 f fd ["_law_row", "_law_some_here"] (spMixedR K) := by
  have GT : FnOk P w K mg base CX0 1 fT fdT ["_law_row", "_law_many"] (spTaken K) := ok_taken FT B
  refine F.ok scMixed (fun vs H Q E h => ?_) (fun cdv A outer s H vs Q E hr h => ?_)
  · obtain ⟨r, a, b, ns, l, rfl, _⟩ := h
    rfl
  · obtain ⟨r, a, b, ns, l, rfl, hR, hS, hlen, hT, q⟩ := h
    refine ⟨_, pss_cons (ps_set (i := 2) scMixed.nd rfl (.inl rfl) (pe_callTy call_list_of (by rfl) B.list (by decide +kernel) (pa_cons (pv 1) pa_nil)))
      (pss_cons (ps_set (i := 3) scMixed.nd rfl (.inl rfl) (pe_lst pa_nil))
      (pss_cons (ps_while PassesOwn.never (pt_cmpR (op_neD hr.units) (pv 2) (pe_lst pa_nil) (nomark _))
        (pss_one (ps_expr (pe_bm PySem.F.plainAttrs_list PySem.F.slot_list_append PySem.F.type_list_append mt_append (pv 3) (pa_cons
          (pe_bm PySem.F.plainAttrs_list PySem.F.slot_list_pop PySem.F.type_list_pop mt_popAt (pv 2) (pa_cons (pe_call GT hr (by rfl) gT FT.kp bT .nil pass0 (pa_cons (pv 0) (pa_cons (pe_callB call_len_seq (by rfl) B.len PySem.boot_len (pa_cons (pv 2) pa_nil)) pa_nil))) pa_nil)) pa_nil)))))
      (pss_one (ps_ret (pv 3))))), ?_⟩
    have big : (100000 : Nat) < sizeLine := by decide
    refine ⟨.ref b, rfl, b, _, rfl, .inl hS, fun c nc => ?_⟩
    have s1 : Same H (upd H c (.lst l)) := same_new nc
    refine ⟨Nat.zero_le _, fun d nd => ?_⟩
    have s2 := s1.trans (same_new (o := .lst []) nd)
    have hcd : c ≠ d := ne_of_none upd_same nd
    have nd0 : H d = none := s1.free nd
    obtain ⟨xr0, hxr0⟩ := hR.lst
    have ncr : c ≠ r := fun e => by
      rw [e, hxr0] at nc
      cases nc
    have ndr : d ≠ r := fun e => by
      rw [e, hxr0] at nd0
      cases nd0
    refine while_by (fun σ H2 => ∃ (m k : List V), σ = [some (.ref r), some (.ref b), some (.ref c), some (.ref d)] ∧ RowAt K H2 r a ns ∧ Sx r H H2 ∧ H2 c = some (.lst m) ∧ H2 d = some (.lst k) ∧ (k ++ m).Perm l)
      (fun σ H2 => match H2 c with | some (.lst xs) => xs.length | _ => 0) ⟨l, [], rfl, hR.keep s2, same_sx s2, ?_, upd_same, by simp⟩ (fun σ H2 h => ?_) (fun σ H2 Q1 Q2 hq h => ?_)
    · rw [upd_ne hcd]
      exact upd_same
    · obtain ⟨m, k, rfl, R2, sx, hc, hd, hp⟩ := h
      obtain ⟨xr, hxr⟩ := R2.lst
      have hml : k.length + m.length = l.length := by
        rw [← hp.length_eq, List.length_append]
      refine ⟨.ref c, rfl, Nat.zero_le _, fun e ne => ?_⟩
      have s3 : Same H2 (upd H2 e (.lst [])) := same_new ne
      have hmT : ∀ x ∈ m, ∃ t, RndV (upd H2 e (.lst [])) x t := fun x hx => by
        obtain ⟨t, ht⟩ := hT x (hp.mem_iff.mp (List.mem_append_right _ hx))
        exact ⟨t, (ht.mono (Sx.toT sx hxr0)).mono (same_toT s3)⟩
      obtain ⟨ts, hts⟩ := rnds_of hmT
      have htl := paired_len hts
      refine ⟨.list (ts.map fun r => .tuple (r.map dT)), .list [], dp_lst (fun _ _ h => dp_rnd h) (SqL.of (s3 _ _ hc)) hts, .lst (SqL.of upd_same) .nil, shRnds ts, shNil, _, rfl, ?_⟩
      rw [eqv_nilRr, show ts.isEmpty = m.isEmpty by cases ts <;> cases m <;> simp_all]
      cases m with
      | nil =>
        refine iteF ?_
        have hkp : k.Perm l := by simpa using hp
        exact ⟨.ref d, rfl, q d _ k (R2.keep s3) (sx.trans (same_sx s3)) nd0 (s3 _ _ hd) hkp⟩
      | cons m0 m' =>
        refine iteT ?_
        refine ⟨.ref d, rfl, .inl ⟨rfl, _, SqL.of (s3 _ _ hd)⟩, .ref c, rfl, .inl ⟨rfl, _, SqL.of (s3 _ _ hc)⟩, .ref r, rfl, .ref c, rfl, c, _, rfl, .inl (SqL.of (s3 _ _ hc)), r, a, ns, _, rfl, R2.keep s3, ?_, ?_, fun v H4 v0 v1 R4 s4 => ?_⟩
        · rw [List.length_cons]
          omega
        · omega
        have hc4 := s4 _ _ ncr (s3 _ _ hc)
        have hd4 := s4 _ _ ndr (s3 _ _ hd)
        have hlt : v.toNat < (m0 :: m').length := by omega
        refine ⟨c, _, v, v.toNat, (m0 :: m')[v.toNat], rfl, rfl, hc4, by omega, ?_, seqIxR v0 v1, List.getElem?_eq_getElem hlt, ?_⟩
        · rw [List.length_cons] at *
          omega
        have hd5 : (upd H4 c (.lst ((m0 :: m').eraseIdx v.toNat))) d = some (.lst k) := by
          rw [upd_ne hcd.symm]
          exact hd4
        refine ⟨d, _, _, rfl, rfl, hd5, ?_, ?_⟩
        · rw [List.length_cons] at hml
          omega
        refine ⟨⟨(m0 :: m').eraseIdx v.toNat, k ++ [(m0 :: m')[v.toNat]], rfl, ?_, ?_, ?_, ?_, ?_⟩, ?_⟩
        · exact row_put hR nd0 (row_put hR nc R4)
        · exact sx_put (sx_put ((sx.trans (same_sx s3)).trans s4) nc) nd0
        · rw [upd_ne hcd, upd_same]
        · rw [upd_same]
        · refine List.Perm.trans ?_ hp
          rw [List.append_assoc]
          exact List.Perm.append_left _ (perm_eraseR hlt)
        · show (match (upd (upd H4 c _) d _) c with | some (.lst xs) => xs.length | _ => 0) < (match H2 c with | some (.lst xs) => xs.length | _ => 0)
          rw [upd_ne hcd, upd_same, hc]
          show ((m0 :: m').eraseIdx v.toNat).length < (m0 :: m').length
          rw [List.length_eraseIdx_of_lt hlt]
          simp
    · obtain ⟨v, e, z, h⟩ := h
      exact ⟨v, e, z, fun p np => by
        obtain ⟨d1, e1, h1, h2, h3, h4, k1, ek, hk⟩ := h p np
        exact ⟨d1, e1, h1, h2, h3, h4, k1, ek, hq _ _ hk⟩⟩
end Nf

set_option Elab.async false
set_option linter.all false
set_option maxRecDepth 100000
set_option maxHeartbeats 4000000
namespace Nf
open PySem PySem.Spec PyProof.Rows L2
variable {P : Program} {w : World} {K : PySem.W.Frag} {mg : Str → Option Value} {base : Heap}
/-! ### few, many -/
/-- a display's row of written pairs -/
def pairsA : List (Int × Int) → TA
  | [] => tNil
  | p :: ps => tCons (tTup (tCons (tC (.int p.1)) (tCons (tC (.int p.2)) tNil))) (pairsA ps)
theorem pairsA_ok {σ : L2.St} : ∀ (ps : List (Int × Int)) {H : Hp} {Q : List V → Hp → Prop}, (∀ vs H', Same H H' → Paired (PairV H') vs ps → Q vs H') → pairsA ps σ H Q
  | [], H, Q, h => h [] H (Same.refl H) .nil
  | p :: ps, H, Q, h => by
    refine ⟨two_le, fun T nT => ?_⟩
    refine pairsA_ok ps fun vs H' s hv => ?_
    exact h _ H' ((same_new nT).trans s) (.cons ⟨T, rfl, s _ _ upd_same⟩ hv)
theorem lst_pairs {σ : L2.St} (ps : List (Int × Int)) {H : Hp} {Q : VK} (hl : ps.length ≤ sizeLine) (h : ∀ vs H' l, Same H H' → Paired (PairV H') vs ps → H' l = none → Q (.ref l) (upd H' l (.lst vs))) : tLst (pairsA ps) σ H Q := by
  refine pairsA_ok ps fun vs H' s hv => ⟨?_, fun l nl => h vs H' l s hv nl⟩
  rw [paired_len hv]
  exact hl
def fewL : List (Int × Int) := [(6, 2), (8, 2), (9, 3), (4, 2), (6, 3), (8, 4), (8, 2), (9, 3), (2, 2), (3, 3), (4, 4), (7, 7)]
theorem few_ok : ∀ p ∈ fewL, IsParty p.1 p.2 ∧ p.1 ≤ 9 := by
  intro p hp
  simp only [fewL, List.mem_cons, List.not_mem_nil, or_false] at hp
  rcases hp with h | h | h | h | h | h | h | h | h | h | h | h <;> (subst h; exact ⟨⟨by decide, by decide, by decide, by decide, by decide⟩, by decide⟩)
theorem scFew : FnScope ["_law_row", "_law_some_here"] ["_law_row"] (defScope lFew) := ⟨rfl, rfl, rfl, by decide +kernel, rfl, by decide +kernel, by decide +kernel⟩
def spFew (K : PySem.W.Frag) : Sp := fun vs H Q _ => ∃ (r a : Addr) (ns : List Int), vs = [.ref r] ∧ RowAt K H r a ns ∧ ∀ x H' g s, RowAt K H' r a ns → Sx r H H' → PairV H' x (g, s) → IsParty g s → g ≤ 9 → Q x H'
theorem ok_few {f fT : Addr} {fd fdT : FuncData} (F : Fun K "_law_few" "_law_few" lFew f fd) (B : Blt mg) (FT : Fun K "_law_taken" "_law_taken" lTaken fT fdT) (bT : Binds K fdT ["_law_row", "_law_many"] []) (gT : mg "_law_taken" = some (.ref fT)) : FnOk P w K mg base CX0 2 f fd ["_law_row"] (spFew K) := by
  have GT : FnOk P w K mg base CX0 1 fT fdT ["_law_row", "_law_many"] (spTaken K) := ok_taken FT B
  refine F.ok scFew (fun vs H Q E h => ?_) (fun cdv A outer s H vs Q E hr h => ?_)
  · obtain ⟨r, a, ns, rfl, _⟩ := h
    rfl
  · obtain ⟨r, a, ns, rfl, hR, q⟩ := h
    have pp : ∀ {X : Cx} {i j k l m n pos pos'}, PE X (.Tuple [.Constant (.int i) k pos, .Constant (.int j) l pos'] m n) (tTup (tCons (tC (.int i)) (tCons (tC (.int j)) tNil))) := pe_tup (pa_cons pe_int (pa_cons pe_int pa_nil))
    refine ⟨_, pss_cons (ps_set (i := 1) (te := tLst (pairsA fewL)) scFew.nd rfl (.inl rfl) (pe_lst (pa_cons pp (pa_cons pp (pa_cons pp (pa_cons pp (pa_cons pp (pa_cons pp (pa_cons pp (pa_cons pp (pa_cons pp (pa_cons pp (pa_cons pp (pa_cons pp pa_nil))))))))))))))
      (pss_one (ps_ret (pe_ix ix_list (pv 1) (pe_call GT hr (by rfl) gT FT.kp bT .nil pass0 (pa_cons (pv 0) (pa_cons pe_int pa_nil))) (fun _ _ => rfl)))), ?_⟩
    dsimp only [tSeq, tAsg]
    refine lst_pairs fewL (by decide) fun vs H1 l s1 hv nl => ?_
    have hvl := paired_len hv
    have h12 : vs.length = 12 := hvl
    have s2 : Same H1 (upd H1 l (.lst vs)) := same_new nl
    refine ⟨.ref l, rfl, .ref r, rfl, r, a, ns, 12, rfl, (hR.keep s1).keep s2, by decide, by decide, fun v H3 v0 v1 hR3 s3 => ?_⟩
    obtain ⟨xr, hxr⟩ := hR.lst
    have nlr : l ≠ r := fun e => by
      rw [e, s1 _ _ hxr] at nl
      cases nl
    have hlt : v.toNat < vs.length := by omega
    have hat : vs[v.toNat]? = some vs[v.toNat] := List.getElem?_eq_getElem hlt
    obtain ⟨p, hp, hx⟩ := paired_getL hv hat
    refine ⟨l, vs, v, vs[v.toNat], rfl, rfl, SqL.of (s3 _ _ nlr upd_same), ?_, ?_⟩
    · exact at_of (show v = ((v.toNat : Nat) : Int) by omega) hat
    · obtain ⟨h1, h2⟩ := few_ok p (List.mem_of_getElem? hp)
      have hT : SameT (upd H1 l (.lst vs)) H3 := Sx.toT s3 (s2 _ _ (s1 _ _ hxr))
      exact q _ H3 p.1 p.2 hR3 ((same_sx (s1.trans s2)).trans s3) ((hx.mono (same_toT s2)).mono hT) h1 h2
def spMany (K : PySem.W.Frag) : Sp := fun vs H Q _ => ∃ (r a : Addr) (ns : List Int), vs = [.ref r] ∧ RowAt K H r a ns ∧ ∀ x H' g s, RowAt K H' r a ns → Sx r H H' → PairV H' x (g, s) → IsParty g s → Q x H'
theorem many_party {s t : Int} (h0 : 2 ≤ s) (h1 : s ≤ 8) (t0 : 0 ≤ t) (t1 : t < 64 / s) : IsParty (s * (1 + t)) s := by
  have e : s * (64 / s) ≤ 64 := Int.mul_ediv_self_le (by omega)
  have m : s * (1 + t) ≤ s * (64 / s) := Int.mul_le_mul_of_nonneg_left (by omega) (by omega)
  have l : s * 1 ≤ s * (1 + t) := Int.mul_le_mul_of_nonneg_left (by omega) (by omega)
  exact ⟨by omega, by omega, h0, h1, Int.mul_emod_right _ _⟩
end Nf

set_option Elab.async false
set_option linter.all false
set_option maxRecDepth 100000
set_option maxHeartbeats 4000000
namespace Nf
open PySem PySem.Spec PyProof.Rows L2
variable {P : Program} {w : World} {K : PySem.W.Frag} {mg : Str → Option Value} {base : Heap}
/-! ### law_k12 -/
abbrev lN12 : List Str := ["_law_script", "_law_row", "_law_guests", "_law_size", "_law_party", "_law_plan_here", "_law_turning", "_law_renamed", "_law_handed", "_law_again", "_law_found", "_law_others", "_law_other", "_law_bad", "_law_tables"]
theorem scLaw : FnScope lN12 ["_law_script"] (defScope lLaw) := ⟨rfl, rfl, rfl, by decide +kernel, rfl, by decide +kernel, by decide +kernel⟩
def spLaw (K : PySem.W.Frag) : Sp := fun vs H Q _ => ∃ (a : Addr) (ns : List Int), vs = [.ref a] ∧ SqL K H a (ns.map V.int) ∧ ns.length ≤ 63 ∧ ∀ H', Q (.bl true) H'
theorem row_neA {K : PySem.W.Frag} {H : Hp} {r a l : Addr} {ns : List Int} {xs : List V} {rs : List Rnd} (R : RowAt K H r a ns) (h : H l = some (.lst xs)) (p : Paired (RndV H) xs rs) : l ≠ r := fun e => by
  obtain ⟨i, z, c, e1, _⟩ := R.row
  rw [e, e1] at h
  cases h
  cases p with
  | cons _ p =>
    cases p with
    | cons q _ =>
      obtain ⟨_, _, q, _⟩ := q
      cases q
theorem paired_permA {α β : Type} {R : α → β → Prop} : ∀ {xs xs' : List α}, xs'.Perm xs → ∀ {ys : List β}, Paired R xs ys → ∃ ys', ys'.Perm ys ∧ Paired R xs' ys'
  | _, _, .nil, ys, p => ⟨ys, .refl _, p⟩
  | _, _, .cons x q, _, .cons r t => by
    obtain ⟨ys', h1, h2⟩ := paired_permA q t
    exact ⟨_ :: ys', h1.cons _, .cons r h2⟩
  | _, _, .swap x y l, _, .cons r (.cons r' t) => ⟨_ :: _ :: _, .swap _ _ _, .cons r' (.cons r t)⟩
  | _, _, .trans q q', ys, p => by
    obtain ⟨zs, h1, h2⟩ := paired_permA q' p
    obtain ⟨ws, h3, h4⟩ := paired_permA q h2
    exact ⟨ws, h3.trans h1, h4⟩
/-- what stands through the law: the party, the plan -/
structure Keep12 (C dx : Addr) (H : Hp) (p l : Addr) (g : Nat) (z : Int) (xs : List V) (rs : List Rnd) : Prop where
  pa : H p = some (.ins C dx (pf g z))
  pl : H l = some (.lst xs)
  rn : Paired (RndV H) xs rs
theorem Keep12.same {C dx : Addr} {H H' : Hp} {p l : Addr} {g : Nat} {z : Int} {xs : List V} {rs : List Rnd} (h : Keep12 C dx H p l g z xs rs) (s : Same H H') : Keep12 C dx H' p l g z xs rs := ⟨s _ _ h.pa, s _ _ h.pl, paired_mono (fun _ _ q => RndV.mono q (same_toT s)) h.rn⟩
theorem Keep12.sx {C dx : Addr} {H H' : Hp} {r p l : Addr} {g : Nat} {z : Int} {xs xr : List V} {rs : List Rnd} (h : Keep12 C dx H p l g z xs rs) (s : Sx r H H') (hr : H r = some (.lst xr)) (n1 : p ≠ r) (n2 : l ≠ r) : Keep12 C dx H' p l g z xs rs := ⟨s _ _ n1 h.pa, s _ _ n2 h.pl, paired_mono (fun _ _ q => RndV.mono q (s.toT hr)) h.rn⟩
/-- another plan, its list not at O -/
def OthP (g : Nat) (z : Int) (H : Hp) (O : Addr) (x : V) : Prop := ∃ u xs rs, x = .ref u ∧ H u = some (.lst xs) ∧ Paired (RndV H) xs rs ∧ (∀ r ∈ rs, IsRound g z r) ∧ rs.length ≤ 400 ∧ u ≠ O
theorem OthP.same {g : Nat} {z : Int} {H H' : Hp} {O : Addr} {x : V} (h : OthP g z H O x) (s : Same H H') : OthP g z H' O x := by
  obtain ⟨u, xs, rs, e, h1, h2, h3, h4, h5⟩ := h
  exact ⟨u, xs, rs, e, s _ _ h1, paired_mono (fun _ _ q => RndV.mono q (same_toT s)) h2, h3, h4, h5⟩
theorem OthP.put {g : Nat} {z : Int} {H : Hp} {O : Addr} {x : V} {o : HO} {ys : List V} (h : OthP g z H O x) (hO : H O = some (.lst ys)) : OthP g z (upd H O o) O x := by
  obtain ⟨u, xs, rs, e, h1, h2, h3, h4, h5⟩ := h
  refine ⟨u, xs, rs, e, by rw [upd_ne h5]; exact h1, paired_mono (fun _ _ q => RndV.mono q fun a us e => ?_) h2, h3, h4, h5⟩
  rw [upd_ne (ne_of e hO (by intro z; cases z))]
  exact e
theorem OthP.to {g : Nat} {z : Int} {H : Hp} {O O' : Addr} {x : V} (h : OthP g z H O x) (n : H O' = none) : OthP g z H O' x := by
  obtain ⟨u, xs, rs, e, h1, h2, h3, h4, _⟩ := h
  exact ⟨u, xs, rs, e, h1, h2, h3, h4, fun q => by rw [q, n] at h1; cases h1⟩
theorem bad_first {g : Nat} {z : Int} {rs : List Rnd} (h : ∀ r ∈ rs, IsRound g z r) : FirstBad g z (rs ++ [[[(g : Int)]]]) rs.length := by
  refine ⟨[[(g : Int)]], by simp, fun q => ?_, fun i hi r hr => ?_⟩
  · have := (q.lo (g : Int) (by simp)).2
    omega
  · rw [List.getElem?_append_left hi] at hr
    exact h r (List.mem_of_getElem? hr)
theorem shTwo (a b : List Rnd) : SeqAt.shaped (.tuple [.list (a.map fun r => .tuple (r.map dT)), .list (b.map fun r => .tuple (r.map dT))]) = true := by
  have h1 := depRnds a
  have h2 := depRnds b
  have l1 := layRnds a
  have l2 := layRnds b
  unfold SeqAt.shaped
  rw [Bool.and_eq_true]
  refine ⟨by simp [PyData.canLay0, PyData.canLayAll0, l1, l2], decide_eq_true ?_⟩
  simp only [PyData.depth, PyData.depthAll]
  omega
theorem ok_law {f C fi fMy fPl fMx fMv fTk fSo fCh fRf fFu fAl fLa : Addr} {fd fdi fdMy fdPl fdMx fdMv fdTk fdSo fdCh fdRf fdFu fdAl fdLa : FuncData} (F : Fun K "law" "law" lLaw f fd) (B : Blt mg) (T : Txt K mg C) (M : Mk K C fi) (GI : FnOk P w K mg base CX0 2 fi fdi ["self", "guests", "size"] (spInit C)) (bi : Binds K fdi ["self", "guests", "size"] [])
    (HMy : Has P w K mg base 2 "_law_few" fMy fdMy ["_law_row"] (spFew K)) (HPl : Has P w K mg base 4 "_law_plan" fPl fdPl ["_law_row", "_law_guests", "_law_size", "_law_most"] (spPlan K))
    (HMx : Has P w K mg base 2 "_law_mixed" fMx fdMx ["_law_row", "_law_some_here"] (spMixed K)) (HMR : FnOk P w K mg base CX0 2 fMx fdMx ["_law_row", "_law_some_here"] (spMixedR K)) (HMv : Has P w K mg base 1 "_law_moved" fMv fdMv ["_law_tables", "_law_turning"] (spMoved K))
    (HTk : Has P w K mg base 2 "_law_takes" fTk fdTk ["_law_guests", "_law_one", "_law_other", "_law_turning"] (spTakes K)) (HSo : Has P w K mg base 2 "_law_some" fSo fdSo ["_law_guests", "_law_one", "_law_other"] (spSome K)) (HCh : Has P w K mg base 2 "_law_changed" fCh fdCh ["_law_row", "_law_guests", "_law_plan_here"] (spChanged K))
    (HRf : Has P w K mg base 6 "_law_refused" fRf fdRf ["_law_party", "_law_one", "_law_other"] (spRefusedA K C)) (HFu : Has P w K mg base 1 "_law_full" fFu fdFu ["_law_guests", "_law_plan_here"] (spFull K)) (HAl : Has P w K mg base 14 "alike" fAl fdAl ["party", "one", "other"] (spAlikeP K C)) (HLa : Has P w K mg base 1 "_law_alike" fLa fdLa ["_law_found", "_law_due"] spAlike1) :
    FnOk P w K mg base CX0 15 f fd ["_law_script"] (spLaw K) := by
  refine F.ok scLaw (fun vs H Q E h => ?_) (fun cdv A outer s H vs Q E hr h => ?_)
  · obtain ⟨a, ns, rfl, _⟩ := h
    rfl
  · obtain ⟨a, ns, rfl, hS, hlen, q⟩ := h
    have hr1 : Room 1 _ := hr.mono (by decide)
    have hr2 : Room 2 _ := hr.mono (by decide)
    have hr3 : Room 3 _ := hr.mono (by decide)
    have hr4 : Room 4 _ := hr.mono (by decide)
    have hr6 : Room 6 _ := hr.mono (by decide)
    refine ⟨_, pss_cons (ps_set (i := 1) scLaw.nd rfl (.inl rfl) (pe_lst (pa_cons (pv 0) (pa_cons pe_int (pa_cons pe_int (pa_cons pe_int pa_nil))))))
      (pss_cons (ps_asg (pe_call HMy.ok hr2 (by rfl) HMy.g HMy.kp HMy.b .nil pass0 (pa_cons (pv 1) pa_nil)) (pg_tup rfl (pgs_cons (pg_name (i := 2) scLaw.nd rfl (.inr rfl)) (pgs_cons (pg_name (i := 3) scLaw.nd rfl (.inl rfl)) pgs_nil))))
      (pss_cons (ps_set (i := 4) scLaw.nd rfl (.inl rfl) (pe_make M GI hr3 (by rfl) T.mgC bi .nil pass0 (pa_cons (pv 2) (pa_cons (pv 3) pa_nil))))
      (pss_cons (ps_set (i := 5) scLaw.nd rfl (.inr rfl) (pe_call HPl.ok hr4 (by rfl) HPl.g HPl.kp HPl.b .nil pass0 (pa_cons (pv 1) (pa_cons (pv 2) (pa_cons (pv 3) (pa_cons pe_int pa_nil))))))
      (pss_cons (ps_set (i := 6) scLaw.nd rfl (.inr rfl) (pe_call HMx.ok hr2 (by rfl) HMx.g HMx.kp HMx.b .nil pass0 (pa_cons (pv 1) (pa_cons (pe_listRg rfl (by rfl) B.list (prg_1 (by rfl) B.range (pv 2))) pa_nil))))
      (pss_cons (ps_set (i := 7) scLaw.nd rfl (.inl rfl) (pe_call HMR hr2 (by rfl) HMx.g HMx.kp HMx.b .nil pass0 (pa_cons (pv 1) (pa_cons
          (pe_lc (own := [("_law_tables", 14)]) (g := gName 14) (wi := iList K (tVar 5)) (tt := tYes) (te := tCall (spMoved K) [] E0 (tCons (tVar 14) (tCons (tVar 6) tNil))) (by rfl) scLaw.nd (pi_list (pv 5))
            (blkOk_by (N := lN12) (sc := defScope lLaw) (by decide +kernel)) (fun _ _ _ _ _ => pg_name (i := 14) (x := "_law_tables") scLaw.nd rfl (.inl rfl) (.inr rfl)) (fun _ _ _ _ _ => pts_nil)
            (fun _ _ _ _ _ => by exact (pe_call HMv.ok hr1 (by rfl) HMv.g HMv.kp HMv.b .nil pass0 (pa_cons (pv 14) (pa_cons (pv 6) pa_nil))))) pa_nil))))
      (pss_cons (ps_set (i := 8) scLaw.nd rfl (.inl rfl) (pe_tup (pa_cons (pe_callTy call_list_of (by rfl) B.list (by decide +kernel) (pa_cons (pv 5) pa_nil)) (pa_cons (pe_callTy call_list_of (by rfl) B.list (by decide +kernel) (pa_cons (pv 7) pa_nil)) pa_nil))))
      (pss_cons (ps_for PassesOwn.never rfl (pi_range1 (by rfl) B.range (pa_cons pe_int pa_nil)) (pg_name (i := 9) scLaw.nd rfl (.inl rfl))
        (pss_cons (ps_set (i := 10) scLaw.nd rfl (.inl rfl) (pe_call HAl.ok hr (by rfl) HAl.g HAl.kp HAl.b .nil pass0 (pa_cons (pv 4) (pa_cons (pe_ix ix_tup (pv 8) pe_int (fun _ _ => rfl)) (pa_cons (pe_ix ix_tup (pv 8) pe_int (fun _ _ => rfl)) pa_nil)))))
        (pss_cons (ps_if (PW.pt (pw_or (pt_not (pt_val (pe_call HTk.ok hr2 (by rfl) HTk.g HTk.kp HTk.b .nil pass0 (pa_cons (pv 2) (pa_cons (pv 5) (pa_cons (pv 7) (pa_cons (pv 10) pa_nil))))))) (pw_or1 (pt_cmpR (op_neD hr.units) (pv 8) (pe_tup (pa_cons (pv 5) (pa_cons (pv 7) pa_nil))) (nomark _))))) pss_never pss_nil)
        (pss_one (ps_expr (pe_bm0 PySem.F.plainAttrs_list PySem.F.slot_list_reverse PySem.F.type_list_reverse mt_reverse (pv 10)))))))
      (pss_cons (ps_set (i := 11) scLaw.nd rfl (.inl rfl) (pe_lst (pa_cons (pe_call HPl.ok hr4 (by rfl) HPl.g HPl.kp HPl.b .nil pass0 (pa_cons (pv 1) (pa_cons (pv 2) (pa_cons (pv 3) (pa_cons pe_int pa_nil))))) pa_nil)))
      (pss_cons (ps_if (pt_cmpR (op_neD hr.units) (pv 5) (pe_lst pa_nil) (nomark _)) (pss_one (ps_expr (pe_bm PySem.F.plainAttrs_list PySem.F.slot_list_append PySem.F.type_list_append mt_append (pv 11) (pa_cons (pe_call HCh.ok hr2 (by rfl) HCh.g HCh.kp HCh.b .nil pass0 (pa_cons (pv 1) (pa_cons (pv 2) (pa_cons (pv 7) pa_nil)))) pa_nil)))) pss_nil)
      (pss_cons (ps_if (pt_cmpR op_gt (pv 2) pe_int (nomark _)) (pss_one (ps_setLc (i := 11) (own := [("_law_other", 12)]) (g := gName 12) (tt := tAnd (tB (tCall (spFull K) [] E0 (tCons (tVar 2) (tCons (tVar 5) tNil)))) (tB (tCall (spFull K) [] E0 (tCons (tVar 2) (tCons (tVar 12) tNil))))) (te := tVar 12) (by rfl) scLaw.nd rfl rfl (sw_true rfl rfl rfl (by decide +kernel)) (pi_list (pv 11))
            (blkOk_by (N := lN12) (sc := defScope lLaw) (by decide +kernel)) (fun _ _ _ _ _ => pg_name (i := 12) (x := "_law_other") scLaw.nd rfl (.inl rfl) (.inr rfl))
            (fun _ _ _ _ _ => pts_one (by exact (PW.pt (pw_and (pt_val (pe_call HFu.ok hr1 (by rfl) HFu.g HFu.kp HFu.b .nil pass0 (pa_cons (pv 2) (pa_cons (pv 5) pa_nil)))) (pw_and1 (pt_val (pe_call HFu.ok hr1 (by rfl) HFu.g HFu.kp HFu.b .nil pass0 (pa_cons (pv 2) (pa_cons (pv 12) pa_nil))))))))) (fun _ _ _ _ _ => pv 12))) pss_nil)
      (pss_cons (ps_for PassesOwn.never rfl (pi_list (pv 11)) (pg_name (i := 12) scLaw.nd rfl (.inl rfl))
        (pss_cons (ps_set (i := 10) scLaw.nd rfl (.inl rfl) (pe_call HAl.ok hr (by rfl) HAl.g HAl.kp HAl.b .nil pass0 (pa_cons (pv 4) (pa_cons (pv 5) (pa_cons (pv 12) pa_nil)))))
        (pss_cons (ps_if (PW.pt (pw_and (pt_cmpR op_isN (pv 10) pe_non (nomark _)) (pw_and (pt_cmpR op_lt (pv 2) pe_int (nomark _)) (pw_and1 (pt_val (pe_call HSo.ok hr2 (by rfl) HSo.g HSo.kp HSo.b .nil pass0 (pa_cons (pv 2) (pa_cons (pv 5) (pa_cons (pv 12) pa_nil))))))))) pss_never pss_nil)
        (pss_one (ps_if (PW.pt (pw_and (pt_cmpR op_notN (pv 10) pe_non (nomark _)) (pw_and1 (pt_not (pt_val (pe_call HTk.ok hr2 (by rfl) HTk.g HTk.kp HTk.b .nil pass0 (pa_cons (pv 2) (pa_cons (pv 5) (pa_cons (pv 12) (pa_cons (pv 10) pa_nil)))))))))) pss_never pss_nil)))))
      (pss_cons (ps_set (i := 13) scLaw.nd rfl (.inl rfl) (pe_op op_cat (pv 5) (pe_lst (pa_cons (pe_tup (pa_cons (pe_tup (pa_cons (pv 2) pa_nil)) pa_nil)) pa_nil))))
      (pss_cons (ps_if (pt_not (pt_val (pe_call HLa.ok hr1 (by rfl) HLa.g HLa.kp HLa.b .nil pass0 (pa_cons (pe_call HRf.ok hr6 (by rfl) HRf.g HRf.kp HRf.b .nil pass0 (pa_cons (pv 4) (pa_cons (pv 13) (pa_cons (pe_op op_cat (pe_lst (pa_cons (pe_tup (pa_cons (pe_tup pa_nil) (pa_cons (pe_tup pa_nil) pa_nil))) pa_nil)) (pv 5)) pa_nil)))) (pa_cons (pe_callB call_len_seq (by rfl) B.len PySem.boot_len (pa_cons (pv 5) pa_nil)) pa_nil))))) pss_never pss_nil)
      (pss_one (ps_ret (pe_call HLa.ok hr1 (by rfl) HLa.g HLa.kp HLa.b .nil pass0 (pa_cons (pe_call HRf.ok hr6 (by rfl) HRf.g HRf.kp HRf.b .nil pass0 (pa_cons (pv 4) (pa_cons (pe_lst pa_nil) (pa_cons (pv 13) pa_nil)))) (pa_cons (pe_callB call_len_seq (by rfl) B.len PySem.boot_len (pa_cons (pv 5) pa_nil)) pa_nil)))))))))))))))))), ?_⟩
    have big : (5000000 : Nat) < sizeLine := by decide
    -- row = [script, 0, 0, 0]
    refine ⟨.ref a, rfl, four_le, fun r nr => ?_⟩
    have R0 : RowAt K (upd H r (.lst [.ref a, .int 0, .int 0, .int 0])) r a ns := RowAt.new hS nr
    -- guests, size = few(row)
    refine ⟨.ref r, rfl, r, a, ns, rfl, R0, fun x H4 g z R4 s4 hx hI h9 => ?_⟩
    obtain ⟨T1, rfl, hT1⟩ := hx
    refine ⟨T1, _, rfl, SqT.of hT1, rfl, _, _, rfl, _, _, rfl, rfl, ?_⟩
    -- party = Party(guests, size)
    refine ⟨.int g, rfl, .int z, rfl, fun p dx np ndx nex => ?_⟩
    refine ⟨p, dx, g, z, rfl, upd_same, hI, rfl, ?_⟩
    rw [upd_upd]
    have s5 : Same H4 (upd (upd H4 dx (.own p)) p (.ins C dx (pf g z))) := (same_new (o := .own p) ndx).trans (same_new (by rw [upd_ne nex.symm]; exact np))
    have hp5 : (upd (upd H4 dx (.own p)) p (.ins C dx (pf g z))) p = some (.ins C dx (pf g z)) := upd_same
    have R5 := R4.keep s5
    generalize (upd (upd H4 dx (.own p)) p (.ins C dx (pf g z))) = H5 at s5 hp5 R5 ⊢
    obtain ⟨xr5, hxr5⟩ := R5.lst
    obtain ⟨g', rfl⟩ := Int.eq_ofNat_of_zero_le (show (0 : Int) ≤ g by have := hI.g2; omega)
    have hg9 : g' ≤ 9 := by omega
    have hg2 := hI.g2
    have npr : p ≠ r := ne_of hp5 hxr5 (by intro e; cases e)
    -- plan
    refine ⟨.ref r, rfl, .int _, rfl, .int _, rfl, r, a, ns, _, _, 5, rfl, R5, hI, by decide, by decide, fun l H6 rs R6 s6 nl hPM hG hl5 => ?_⟩
    obtain ⟨xs, hl6, hxs6⟩ := hPM
    have hp6 := s6 _ _ npr hp5
    have hRd := hG.rd
    have hrl : rs.length ≤ 5 := by omega
    -- turning = mixed(row, list(range(guests)))
    refine ⟨.ref r, rfl, .int _, rfl, _, rfl, RgOk.of_le (by decide) (by omega) (by decide) (by omega), fun ev nev => ?_⟩
    rw [show rgV 0 ((g' : Nat) : Int) = (rangeI g').map V.int from rgV_range _]
    have s8 : Same H6 (upd H6 ev (.lst ((rangeI g').map V.int))) := same_new nev
    have hev : (upd H6 ev (.lst ((rangeI g').map V.int))) ev = some (.lst ((rangeI g').map V.int)) := upd_same
    have R8 := R6.keep s8
    generalize (upd H6 ev (.lst ((rangeI g').map V.int))) = H8 at s8 hev R8 ⊢
    refine ⟨r, a, ev, ns, rangeI g', rfl, R8, SqL.of hev, by rw [rangeI_len]; omega, fun tq H9 tn R9 s9 ntq htq hperm => ?_⟩
    have htl : tn.length = g' := by rw [hperm.length_eq, rangeI_len]
    obtain ⟨xr8, hxr8⟩ := R8.lst
    have K8 : Keep12 C dx H8 p l g' z xs rs := ⟨s8 _ _ hp6, s8 _ _ hl6, paired_mono (fun _ _ h => RndV.mono h (same_toT s8)) hxs6⟩
    have nlr : l ≠ r := row_neA R8 K8.pl K8.rn
    have K9 := K8.sx s9 hxr8 npr nlr
    have hxl := paired_len K9.rn
    -- renamed = mixed(row, [moved(tables, turning) for tables in plan])
    refine ⟨.ref r, rfl, .ref l, rfl, l, rfl, ⟨_, SqL.of K9.pl⟩, fun D nD => ?_⟩
    refine lc_it (walk_list (xs := xs)) (fun j HE => Same H9 HE ∧ ∃ acc, HE D = some (.lst acc) ∧ Paired (RndV HE) acc ((rs.take j).map (movedM tn))) ⟨same_new nD, [], upd_same, .nil⟩ (fun j HE _ h => SqL.of (h.1 _ _ K9.pl)) (fun j x HE HF hj hJ y => ?_) (fun HE hJ => ?_)
    · obtain ⟨sm, acc, hD, hac⟩ := hJ
      obtain ⟨rfl, hx⟩ := y
      obtain ⟨rd, hrd, hrv⟩ := paired_getL K9.rn hx
      obtain ⟨m1, m2⟩ := moved_preA hI (hRd rd (List.mem_of_getElem? hrd)) htl
      refine ⟨wipe_put (by decide), yesT ?_⟩
      refine ⟨x, rfl, .ref tq, rfl, x, tq, rd, tn, rfl, hrv.mono (same_toT sm), SqL.of (sm _ _ htq), m1, m2, fun y H' sy hy => ?_⟩
      have hD' := sy _ _ hD
      have hal := paired_len hac
      rw [List.length_map, List.length_take] at hal
      refine ⟨acc, hD', by omega, same_put (sm.trans sy) nD, acc ++ [y], upd_same, ?_⟩
      have sq : SameT H' (upd H' D (.lst (acc ++ [y]))) := fun a us ha => by
        rw [upd_ne (ne_of ha hD' (by intro e; cases e))]
        exact ha
      rw [takeSucc hrd, List.map_append]
      exact paired_snoc (paired_mono (fun _ _ h => RndV.mono h ((same_toT sy).trans sq)) hac) (hy.mono sq)
    obtain ⟨smE, acc, hD, hac⟩ := hJ
    rw [hxl, List.take_of_length_le (Nat.le_refl _)] at hac
    have hal := paired_len hac
    rw [List.length_map] at hal
    have RE := R9.keep smE
    obtain ⟨xrE, hxrE⟩ := RE.lst
    refine ⟨r, a, D, ns, acc, rfl, RE, SqL.of hD, by omega, fun x hx => ?_, fun o HG os' R10 s10 no ho hop => ?_⟩
    · obtain ⟨i, hi, rfl⟩ := List.getElem_of_mem hx
      obtain ⟨rd, _, h⟩ := paired_getL hac (List.getElem?_eq_getElem hi)
      exact ⟨rd, h⟩
    obtain ⟨os, hos, hoV⟩ := paired_permA hop (paired_mono (fun _ _ h => RndV.mono h (s10.toT hxrE)) hac)
    have hRo : ∀ q ∈ os, IsRound g' z q := fun q hq => by
      obtain ⟨rd, hrd, rfl⟩ := List.mem_map.mp (hos.mem_iff.mp hq)
      exact moved_round9 (hRd rd hrd) hperm
    have hol : os.length = rs.length := by rw [hos.length_eq, List.length_map]
    have hiso : IsoF g' rs os (cF tn) := ⟨permF_of hperm, hos.symm⟩
    have KG := (K9.same smE).sx s10 hxrE npr nlr
    have nor : o ≠ r := row_neA R10 ho hoV
    -- handed
    refine ⟨.ref l, rfl, l, _, rfl, .inl (SqL.of KG.pl), fun c1 nc1 => ?_⟩
    have s11 : Same HG (upd HG c1 (.lst xs)) := same_new nc1
    have hc1 : (upd HG c1 (.lst xs)) c1 = some (.lst xs) := upd_same
    generalize (upd HG c1 (.lst xs)) = H11 at s11 hc1 ⊢
    refine ⟨.ref o, rfl, o, _, rfl, .inl (SqL.of (s11 _ _ ho)), fun c2 nc2 => ?_⟩
    have s12 : Same H11 (upd H11 c2 (.lst os')) := same_new nc2
    have hc2 : (upd H11 c2 (.lst os')) c2 = some (.lst os') := upd_same
    generalize (upd H11 c2 (.lst os')) = H12 at s12 hc2 ⊢
    refine ⟨by show 2 ≤ sizeLine; decide, fun hd nhd => ?_⟩
    have s13 : Same H12 (upd H12 hd (.tup [.ref c1, .ref c2])) := same_new nhd
    have hhd : (upd H12 hd (.tup [.ref c1, .ref c2])) hd = some (.tup [.ref c1, .ref c2]) := upd_same
    have sB := (s11.trans s12).trans s13
    have KB := KG.same sB
    have RB := R10.keep sB
    have hc1B := (s12.trans s13) _ _ hc1
    have hc2B := s13 _ _ hc2
    have hoB := sB _ _ ho
    have hoVB : Paired (RndV (upd H12 hd (.tup [.ref c1, .ref c2]))) os' os := paired_mono (fun _ _ h => RndV.mono h (same_toT sB)) hoV
    generalize (upd H12 hd (.tup [.ref c1, .ref c2])) = HB at sB KB RB hc1B hc2B hoB hoVB hhd ⊢
    -- for again
    refine ⟨2, rfl, by decide, by decide, ?_⟩
    refine for_it walk_range (fun k σ H2 => ∃ (y9 y10 : Option V), σ = [some (.ref a), some (.ref r), some (.int (g' : Int)), some (.int z), some (.ref p), some (.ref l), some (.ref tq), some (.ref o), some (.ref hd), y9, y10, none, none, none, none] ∧ Same HB H2)
      ⟨none, none, rfl, Same.refl _⟩ (fun _ _ _ _ _ => trivial) (fun k x σ H2 H3 hk hI2 y => ?_) (fun σ H2 hI2 => ?_)
    · obtain ⟨y9, y10, rfl, sm⟩ := hI2
      obtain ⟨rfl, rfl⟩ := y
      have K3 := KB.same sm
      have hc13 := sm _ _ hc1B
      have hc23 := sm _ _ hc2B
      have hhd3 := sm _ _ hhd
      have hoV3 : Paired (RndV H3) os' os := paired_mono (fun _ _ h => RndV.mono h (same_toT sm)) hoVB
      refine ⟨.ref p, rfl, .ref hd, rfl, hd, _, 0, .ref c1, rfl, rfl, SqT.of hhd3, rfl, .ref hd, rfl, hd, _, 1, .ref c2, rfl, rfl, SqT.of hhd3, rfl, p, c1, c2, g', z, xs, os', rs, os, rfl, ⟨dx, K3.pa⟩, hI, hg9, hc13, K3.rn, hc23, hoV3, hRd, hRo, by omega, by omega, fun hno => (hno _ hiso).elim, fun pm fl H' hpm hiso2 s' nfl hfl => ?_⟩
      have K4 := K3.same s'
      have hoV4 : Paired (RndV H') os' os := paired_mono (fun _ _ h => RndV.mono h (same_toT s')) hoV3
      refine ⟨.int g', rfl, .ref l, rfl, .ref o, rfl, .ref fl, rfl, l, o, fl, g', z, rs, os, pm, rfl, ⟨xs, SqL.of K4.pl, K4.rn⟩, ⟨os', SqL.of (s' _ _ (sm _ _ hoB)), hoV4⟩, hfl, hpm, hg9, hI, hRd, by omega, by omega, hiso2, fun H5 s5 => ⟨_, rfl, iteF ?_⟩⟩
      refine ⟨.ref hd, rfl, .ref l, rfl, .ref o, rfl, by show 2 ≤ sizeLine; decide, fun T5 nT5 => ?_⟩
      have s6 : Same H5 (upd H5 T5 (.tup [.ref l, .ref o])) := same_new nT5
      have hT5 : (upd H5 T5 (.tup [.ref l, .ref o])) T5 = some (.tup [.ref l, .ref o]) := upd_same
      generalize (upd H5 T5 (.tup [.ref l, .ref o])) = H6 at s6 hT5 ⊢
      have s36 := (s'.trans s5).trans s6
      have K6 := K3.same s36
      have hoV6 : Paired (RndV H6) os' os := paired_mono (fun _ _ h => RndV.mono h (same_toT s36)) hoV3
      have d1 : Dp K H6 (.ref c1) (.list (rs.map fun r => .tuple (r.map dT))) := dp_lst (fun _ _ h => dp_rnd h) (SqL.of (s36 _ _ hc13)) K6.rn
      have d2 : Dp K H6 (.ref c2) (.list (os.map fun r => .tuple (r.map dT))) := dp_lst (fun _ _ h => dp_rnd h) (SqL.of (s36 _ _ hc23)) hoV6
      have d3 : Dp K H6 (.ref l) (.list (rs.map fun r => .tuple (r.map dT))) := dp_lst (fun _ _ h => dp_rnd h) (SqL.of K6.pl) K6.rn
      have d4 : Dp K H6 (.ref o) (.list (os.map fun r => .tuple (r.map dT))) := dp_lst (fun _ _ h => dp_rnd h) (SqL.of (s36 _ _ (sm _ _ hoB))) hoV6
      have t1 : Dp K H6 (.ref hd) (.tuple [.list (rs.map fun r => .tuple (r.map dT)), .list (os.map fun r => .tuple (r.map dT))]) := .tup (SqT.of (s36 _ _ hhd3)) (.cons d1 (.cons d2 .nil))
      have t2 : Dp K H6 (.ref T5) (.tuple [.list (rs.map fun r => .tuple (r.map dT)), .list (os.map fun r => .tuple (r.map dT))]) := .tup (SqT.of hT5) (.cons d3 (.cons d4 .nil))
      refine ⟨_, _, t1, t2, shTwo rs os, shTwo rs os, _, rfl, ite2 (fun hc => ?_) (fun _ => ?_)⟩
      · have e : PyData.eqv (.tuple [.list (rs.map fun r => .tuple (r.map dT)), .list (os.map fun r => .tuple (r.map dT))]) (.tuple [.list (rs.map fun r => .tuple (r.map dT)), .list (os.map fun r => .tuple (r.map dT))]) = true := by
          simp only [PyData.eqv, PyData.eqvAll, Bool.and_eq_true, Bool.and_true]
          exact ⟨eqvRnds.mpr rfl, eqvRnds.mpr rfl⟩
        rw [e] at hc
        cases hc
      -- found.reverse()
      have hfl6 := (s5.trans s6) _ _ hfl
      refine ⟨.ref fl, rfl, .inl ⟨rfl, _, SqL.of hfl6⟩, fl, _, rfl, rfl, hfl6, ?_⟩
      exact ⟨_, _, rfl, same_put (sm.trans s36) (sm.free nfl)⟩
    obtain ⟨y9, y10, rfl, sm2⟩ := hI2
    have K2 := KB.same sm2
    have R2 := RB.keep sm2
    have ho2 := sm2 _ _ hoB
    have hoV2 : Paired (RndV H2) os' os := paired_mono (fun _ _ h => RndV.mono h (same_toT sm2)) hoVB
    obtain ⟨xr2, hxr2⟩ := R2.lst
    -- others = [plan(row, guests, size, 3)]
    refine ⟨.ref r, rfl, .int _, rfl, .int _, rfl, r, a, ns, _, _, 3, rfl, R2, hI, by decide, by decide, fun l3 H3 rs3 R3 s3 nl3 hPM3 hG3 hl3 => ?_⟩
    obtain ⟨xs3, hl33, hxs33⟩ := hPM3
    have K3 := K2.sx s3 hxr2 npr nlr
    have ho3 := s3 _ _ nor ho2
    have hoV3 : Paired (RndV H3) os' os := paired_mono (fun _ _ h => RndV.mono h (s3.toT hxr2)) hoV2
    refine ⟨by show 1 ≤ sizeLine; decide, fun O nO => ?_⟩
    have s4' : Same H3 (upd H3 O (.lst [.ref l3])) := same_new nO
    have hO : (upd H3 O (.lst [.ref l3])) O = some (.lst [.ref l3]) := upd_same
    have oth3 : OthP g' z H3 O (.ref l3) := ⟨l3, xs3, rs3, rfl, hl33, hxs33, hG3.rd, by omega, fun e => by rw [e, nO] at hl33; cases hl33⟩
    have oth4 := oth3.same s4'
    have nlO : l ≠ O := ne_of_none K3.pl nO
    have nOr : O ≠ r := fun e => by
      obtain ⟨xr3, hxr3⟩ := R3.lst
      rw [e, hxr3] at nO
      cases nO
    have K4 := K3.same s4'
    have R4' := R3.keep s4'
    have ho4 := s4' _ _ ho3
    have hoV4 : Paired (RndV (upd H3 O (.lst [.ref l3]))) os' os := paired_mono (fun _ _ h => RndV.mono h (same_toT s4')) hoV3
    generalize (upd H3 O (.lst [.ref l3])) = HA at s4' hO oth4 K4 R4' ho4 hoV4 ⊢
    clear oth3 hoV3 hl33 hxs33 nO
    -- if plan != []
    refine ⟨.ref l, rfl, Nat.zero_le _, fun e0 ne0 => ?_⟩
    have sE : Same HA (upd HA e0 (.lst [])) := same_new ne0
    have he0 : (upd HA e0 (.lst [])) e0 = some (.lst []) := upd_same
    have KE := K4.same sE
    have REE := R4'.keep sE
    have hoE := sE _ _ ho4
    have hoVE : Paired (RndV (upd HA e0 (.lst []))) os' os := paired_mono (fun _ _ h => RndV.mono h (same_toT sE)) hoV4
    have othE := oth4.same sE
    have hOE := sE _ _ hO
    generalize (upd HA e0 (.lst [])) = HE1 at sE he0 KE REE hoE hoVE othE hOE ⊢
    refine ⟨.list (rs.map fun r => .tuple (r.map dT)), .list [], dp_lst (fun _ _ h => dp_rnd h) (SqL.of KE.pl) KE.rn, .lst (SqL.of he0) .nil, shRnds _, shNil, _, rfl, ?_⟩
    refine joinS (Ok := fun σ' H' => ∃ (ws : List V), σ' = [some (.ref a), some (.ref r), some (.int (g' : Int)), some (.int z), some (.ref p), some (.ref l), some (.ref tq), some (.ref o), some (.ref hd), y9, y10, some (.ref O), none, none, none] ∧ Keep12 C dx H' p l g' z xs rs ∧ H' O = some (.lst ws) ∧ (∀ x ∈ ws, OthP g' z H' O x) ∧ ws.length ≤ 2) (fun σ' H' hOk => ?rest) (fun hc hN => ?chg) (fun hc => ⟨[.ref l3], rfl, KE, hOE, fun x hx => by rw [List.mem_singleton.mp hx]; exact othE, by show 1 ≤ 2; decide⟩)
    case chg =>
      have hne : rs ≠ [] := fun e => by
        rw [e] at hc
        simp [PyData.eqv, PyData.eqvAll] at hc
      have hne2 : os ≠ [] := fun e => by
        rw [e] at hol
        exact hne (List.eq_nil_of_length_eq_zero hol.symm)
      refine ⟨.ref O, rfl, .inl ⟨rfl, _, SqL.of hOE⟩, .ref r, rfl, .int _, rfl, .ref o, rfl, r, a, o, ns, g', z, os', os, rfl, REE, hoE, hoVE, nor, hne2, hI, hRo, by omega, fun q0 H' ys us R' s' nq hq hyv hgood hlen2 => ?_⟩
      obtain ⟨xrE2, hxrE2⟩ := REE.lst
      have hO' := s' _ _ nOr hOE
      have nqO : q0 ≠ O := fun e => by
        rw [e, hOE] at nq
        cases nq
      have hq0 : OthP g' z H' O (.ref q0) := ⟨q0, ys, us, rfl, hq, hyv, hgood, by omega, nqO⟩
      have oth' : OthP g' z H' O (.ref l3) := by
        obtain ⟨u, xs4, rs4, e, h1, h2, h3, h4, h5⟩ := othE
        cases e
        have nu : l3 ≠ r := row_neA REE h1 h2
        exact ⟨l3, xs4, rs4, rfl, s' _ _ nu h1, paired_mono (fun _ _ q => RndV.mono q (s'.toT hxrE2)) h2, h3, h4, h5⟩
      have KQ := KE.sx s' hxrE2 npr nlr
      refine ⟨O, _, _, rfl, rfl, hO', by show 1 < sizeLine; decide, ?_⟩
      have T' : SameT H' (upd H' O (.lst ([V.ref l3] ++ [.ref q0]))) := fun a us e => by
        rw [upd_ne (ne_of e hO' (by intro z; cases z))]
        exact e
      have npO : p ≠ O := ne_of KE.pa hOE (by intro e; cases e)
      refine hN _ _ ⟨[.ref l3, .ref q0], rfl, ⟨by rw [upd_ne npO]; exact KQ.pa, by rw [upd_ne nlO]; exact KQ.pl, paired_mono (fun _ _ q => RndV.mono q T') KQ.rn⟩, upd_same, fun x hx => ?_, by show 2 ≤ 2; decide⟩
      rcases List.mem_cons.mp hx with e | hx
      · rw [e]
        exact oth'.put hO'
      · rw [List.mem_singleton.mp hx]
        exact hq0.put hO'
    case rest =>
      obtain ⟨ws, rfl, KR, hOR, hoth, hwl⟩ := hOk
      -- if guests > 6
      refine ⟨.int (g' : Int), rfl, _, _, rfl, rfl, _, rfl, ?_⟩
      refine joinS (Ok := fun σ' H2' => ∃ (O2 : Addr) (ws2 : List V) (y12 : Option V), σ' = [some (.ref a), some (.ref r), some (.int (g' : Int)), some (.int z), some (.ref p), some (.ref l), some (.ref tq), some (.ref o), some (.ref hd), y9, y10, some (.ref O2), y12, none, none] ∧ Keep12 C dx H2' p l g' z xs rs ∧ H2' O2 = some (.lst ws2) ∧ (∀ x ∈ ws2, ∃ O3, OthP g' z H2' O3 x)) (fun σ' H2' hOk => ?loop) (fun hc hN => ?fulls) (fun hc => ⟨O, ws, _, rfl, KR, hOR, fun x hx => ⟨O, hoth x hx⟩⟩)
      case fulls =>
        refine ⟨.ref O, rfl, O, rfl, ⟨_, SqL.of hOR⟩, fun D2 nD2 => ?_⟩
        refine lc_it (walk_list (xs := ws)) (fun i H5 => Same H' H5 ∧ ∃ acc, H5 D2 = some (.lst acc) ∧ (∀ x ∈ acc, OthP g' z H5 D2 x) ∧ acc.length ≤ i) ⟨same_new nD2, [], upd_same, fun x hx => (by cases hx), Nat.zero_le _⟩ (fun i H5 _ h => SqL.of (h.1 _ _ hOR)) (fun i x H5 H6 hi hJ y => ?_) (fun H5 hJ => ?_)
        · obtain ⟨sm, acc, hD2, hacc, hal⟩ := hJ
          obtain ⟨rfl, hx⟩ := y
          have K6 := KR.same sm
          have hxo := (hoth x (List.mem_of_getElem? hx)).to nD2
          have hxo6 := hxo.same sm
          obtain ⟨u, xs2, rs2, rfl, hu, hv, hgood, hl400, nu⟩ := id hxo6
          have rl : ∀ {qs : List Rnd}, (∀ r ∈ qs, IsRound g' z r) → ∀ r ∈ qs, r.length ≤ 1000 := fun h r hr => by have := (round_bd hI (h r hr)).1; omega
          refine ⟨wipe_put (by decide), ?_⟩
          refine ⟨.int (g' : Int), rfl, .ref l, rfl, l, _, rs, rfl, ⟨xs, SqL.of K6.pl, K6.rn⟩, by omega, rl hRd, fun b H7 s7 => ⟨b, rfl, ?_⟩⟩
          cases b with
          | false => exact iteF (iteF ⟨sm.trans s7, acc, s7 _ _ hD2, fun x hx => (hacc x hx).same s7, by omega⟩)
          | true =>
            refine iteT ?_
            have hv7 : Paired (RndV H7) xs2 rs2 := paired_mono (fun _ _ h => RndV.mono h (same_toT s7)) hv
            refine ⟨.int (g' : Int), rfl, .ref u, rfl, u, _, rs2, rfl, ⟨xs2, SqL.of (s7 _ _ hu), hv7⟩, by omega, rl hgood, fun b2 H8 s8 => ⟨b2, rfl, ?_⟩⟩
            have s78 := s7.trans s8
            cases b2 with
            | false => exact iteF ⟨sm.trans s78, acc, s78 _ _ hD2, fun x hx => (hacc x hx).same s78, by omega⟩
            | true =>
              refine iteT ⟨.ref u, rfl, acc, s78 _ _ hD2, by omega, same_put (sm.trans s78) nD2, acc ++ [.ref u], upd_same, fun x hx => ?_, by simp; omega⟩
              rcases List.mem_append.mp hx with hx | hx
              · exact ((hacc x hx).same s78).put (s78 _ _ hD2)
              · rw [List.mem_singleton.mp hx]
                exact (hxo6.same s78).put (s78 _ _ hD2)
        · obtain ⟨sm, acc, hD2, hacc, _⟩ := hJ
          exact hN _ _ ⟨D2, acc, _, rfl, KR.same sm, hD2, fun x hx => ⟨D2, hacc x hx⟩⟩
      case loop =>
        obtain ⟨O2, ws2, y12, rfl, KL, hO2, hoth2⟩ := hOk
        refine ⟨.ref O2, rfl, O2, rfl, ⟨_, SqL.of hO2⟩, ?_⟩
        refine for_it (walk_list (xs := ws2)) (fun j σ H3 => ∃ (y10 y12 : Option V), σ = [some (.ref a), some (.ref r), some (.int (g' : Int)), some (.int z), some (.ref p), some (.ref l), some (.ref tq), some (.ref o), some (.ref hd), y9, y10, some (.ref O2), y12, none, none] ∧ Same H2' H3) ⟨y10, y12, rfl, Same.refl _⟩ (fun j σ H3 _ h => ?_) (fun j x σ H3 H4 hj hJ y => ?_) (fun σ H3 hJ => ?_)
        · obtain ⟨_, _, _, s3⟩ := h
          exact SqL.of (s3 _ _ hO2)
        · obtain ⟨y10, y12, rfl, sm⟩ := hJ
          obtain ⟨rfl, hx⟩ := y
          obtain ⟨O3, hxo⟩ := hoth2 x (List.mem_of_getElem? hx)
          obtain ⟨u, xs2, rs2, rfl, hu, hv, hgood, hl400, _⟩ := hxo.same sm
          have K4 := KL.same sm
          refine ⟨.ref p, rfl, .ref l, rfl, .ref u, rfl, p, l, u, g', z, xs, xs2, rs, rs2, rfl, ⟨dx, K4.pa⟩, hI, hg9, K4.pl, K4.rn, hu, hv, hRd, hgood, by omega, hl400, fun hno H5 s5 => ?_, fun pm fl H5 hpm hiso2 s5 nfl hfl => ?_⟩
          · have K5 := K4.same s5
            have hv5 : Paired (RndV H5) xs2 rs2 := paired_mono (fun _ _ h => RndV.mono h (same_toT s5)) hv
            refine ⟨.non, rfl, rfl, _, rfl, iteT ⟨.int (g' : Int), rfl, _, _, rfl, rfl, _, rfl, ite2 (fun hlt => ?_) (fun hlt => ?_)⟩⟩
            · have hlt : g' ≤ 6 := by
                have := of_decide_eq_true hlt
                omega
              refine ⟨.int (g' : Int), rfl, .ref l, rfl, .ref u, rfl, l, u, g', z, rs, rs2, rfl, ⟨xs, SqL.of K5.pl, K5.rn⟩, ⟨xs2, SqL.of (s5 _ _ hu), hv5⟩, hlt, hI, hRd, by omega, hl400, hno, fun H6 s6 => ⟨_, rfl, iteF ?_⟩⟩
              exact ⟨.non, rfl, rfl, _, rfl, iteF (iteF ⟨_, _, rfl, sm.trans (s5.trans s6)⟩)⟩
            · exact iteF ⟨.non, rfl, rfl, _, rfl, iteF (iteF ⟨_, _, rfl, sm.trans s5⟩)⟩
          · have K5 := K4.same s5
            have hv5 : Paired (RndV H5) xs2 rs2 := paired_mono (fun _ _ h => RndV.mono h (same_toT s5)) hv
            refine ⟨.ref fl, rfl, rfl, _, rfl, iteF (iteF ?_)⟩
            refine ⟨.ref fl, rfl, rfl, _, rfl, iteT ?_⟩
            exact ⟨.int (g' : Int), rfl, .ref l, rfl, .ref u, rfl, .ref fl, rfl, l, u, fl, g', z, rs, rs2, pm, rfl, ⟨xs, SqL.of K5.pl, K5.rn⟩, ⟨xs2, SqL.of (s5 _ _ hu), hv5⟩, hfl, hpm, hg9, hI, hRd, by omega, hl400, hiso2, fun H6 s6 => ⟨_, rfl, iteF ⟨_, _, rfl, sm.trans (s5.trans s6)⟩⟩⟩
        · obtain ⟨y10, y12, rfl, sm⟩ := hJ
          have K3' := KL.same sm
          -- bad = plan + [((guests,),)]
          have hlen1 : rs.length ≤ 5 := hrl
          refine ⟨.ref l, rfl, .int (g' : Int), rfl, (by show 1 ≤ sizeLine; decide), fun t1 nt1 => ⟨(by show 1 ≤ sizeLine; decide), fun t2 nt2 => ⟨(by show 1 ≤ sizeLine; decide), fun b1 nb1 => ?_⟩⟩⟩
          have s1 : Same H3 (upd H3 t1 (.tup [.int (g' : Int)])) := same_new nt1
          have ht1 : (upd H3 t1 (.tup [.int (g' : Int)])) t1 = some (.tup [.int (g' : Int)]) := upd_same
          generalize (upd H3 t1 (.tup [.int (g' : Int)])) = X1 at s1 ht1 nt2 nb1 ⊢
          have s2 : Same X1 (upd X1 t2 (.tup [.ref t1])) := same_new nt2
          have ht2 : (upd X1 t2 (.tup [.ref t1])) t2 = some (.tup [.ref t1]) := upd_same
          generalize (upd X1 t2 (.tup [.ref t1])) = X2 at s2 ht2 nb1 ⊢
          have s3 : Same X2 (upd X2 b1 (.lst [.ref t2])) := same_new nb1
          have hb1 : (upd X2 b1 (.lst [.ref t2])) b1 = some (.lst [.ref t2]) := upd_same
          generalize (upd X2 b1 (.lst [.ref t2])) = X3 at s3 hb1 ⊢
          have KX := K3'.same ((s1.trans s2).trans s3)
          refine ⟨l, b1, xs, [.ref t2], rfl, rfl, KX.pl, hb1, (by show xs.length + 1 ≤ sizeLine; omega), fun bd nbd => ?_⟩
          have s4 : Same X3 (upd X3 bd (.lst (xs ++ [.ref t2]))) := same_new nbd
          have hbd : (upd X3 bd (.lst (xs ++ [.ref t2]))) bd = some (.lst (xs ++ [.ref t2])) := upd_same
          generalize (upd X3 bd (.lst (xs ++ [.ref t2]))) = X4 at s4 hbd ⊢
          have K4 := KX.same s4
          have ht14 := s4 _ _ (s3 _ _ (s2 _ _ ht1))
          have ht24 := s4 _ _ (s3 _ _ ht2)
          have hlast : RndV X4 (.ref t2) [[(g' : Int)]] := ⟨t2, [.ref t1], rfl, ht24, .cons ⟨t1, rfl, ht14⟩ .nil⟩
          have hB4 : PlanV K X4 bd (rs ++ [[[(g' : Int)]]]) := ⟨_, SqL.of hbd, paired_app K4.rn (.cons hlast .nil)⟩
          have hSm : Small (rs ++ [[[(g' : Int)]]]) := by
            have h0 := small_of hI hRd (by omega)
            refine ⟨by rw [List.length_append]; show rs.length + 1 ≤ 1000; omega, fun r hr => ?_, fun r hr t ht => ?_⟩
            · rcases List.mem_append.mp hr with hr | hr
              · exact h0.r r hr
              · rw [List.mem_singleton.mp hr]
                show 1 ≤ 100000
                decide
            · rcases List.mem_append.mp hr with hr | hr
              · exact h0.t r hr t ht
              · rw [List.mem_singleton.mp hr] at ht
                rw [List.mem_singleton.mp ht]
                show 1 ≤ 100000
                decide
          have hFB : FirstBad g' z (rs ++ [[[(g' : Int)]]]) rs.length := bad_first hRd
          -- if not alike(refused(party, bad, [((), ())] + plan), len(plan))
          refine ⟨.ref p, rfl, .ref bd, rfl, Nat.zero_le _, fun e1 ne1 => ⟨Nat.zero_le _, fun e2 ne2 => ⟨(by show 2 ≤ sizeLine; decide), fun e3 ne3 => ⟨(by show 1 ≤ sizeLine; decide), fun e4 ne4 => ?_⟩⟩⟩⟩
          have u1 : Same X4 (upd X4 e1 (.tup [])) := same_new ne1
          generalize (upd X4 e1 (.tup [])) = Y1 at u1 ne2 ne3 ne4 ⊢
          have u2 : Same Y1 (upd Y1 e2 (.tup [])) := same_new ne2
          generalize (upd Y1 e2 (.tup [])) = Y2 at u2 ne3 ne4 ⊢
          have u3 : Same Y2 (upd Y2 e3 (.tup [.ref e1, .ref e2])) := same_new ne3
          generalize (upd Y2 e3 (.tup [.ref e1, .ref e2])) = Y3 at u3 ne4 ⊢
          have u4 : Same Y3 (upd Y3 e4 (.lst [.ref e3])) := same_new ne4
          have he4 : (upd Y3 e4 (.lst [.ref e3])) e4 = some (.lst [.ref e3]) := upd_same
          generalize (upd Y3 e4 (.lst [.ref e3])) = Y4 at u4 he4 ⊢
          have sY := ((u1.trans u2).trans u3).trans u4
          refine ⟨.ref l, rfl, e4, l, [.ref e3], xs, rfl, rfl, he4, (K4.same sY).pl, (by show 1 + xs.length ≤ sizeLine; omega), fun e5 ne5 => ?_⟩
          have u5 : Same Y4 (upd Y4 e5 (.lst ([.ref e3] ++ xs))) := same_new ne5
          generalize (upd Y4 e5 (.lst ([.ref e3] ++ xs))) = Y5 at u5 ⊢
          have sY5 := sY.trans u5
          have K5 := K4.same sY5
          refine ⟨p, bd, e5, g', z, _, rs.length, rfl, ⟨dx, K5.pa⟩, hI, planV_same hB4 sY5, hSm, .inl hFB, fun Z1 z1 => ?_⟩
          have K6 := K5.same z1
          refine ⟨.ref l, rfl, l, _, rfl, .inl (SqL.of K6.pl), ?_⟩
          rw [hxl]
          refine ⟨.int (rs.length : Nat), rfl, .inr (.inl ⟨_, rfl⟩), ⟨_, rfl, iteF ?_⟩⟩
          -- return alike(refused(party, [], bad), len(plan))
          refine ⟨.ref p, rfl, Nat.zero_le _, fun e6 ne6 => ⟨.ref bd, rfl, ?_⟩⟩
          have u6 : Same Z1 (upd Z1 e6 (.lst [])) := same_new ne6
          have he6 : (upd Z1 e6 (.lst [])) e6 = some (.lst []) := upd_same
          generalize (upd Z1 e6 (.lst [])) = Z2 at u6 he6 ⊢
          have K7 := K6.same u6
          have sZ := (sY5.trans z1).trans u6
          refine ⟨p, e6, bd, g', z, [], rs.length, rfl, ⟨dx, K7.pa⟩, hI, ⟨[], SqL.of he6, .nil⟩, ⟨Nat.zero_le _, fun r h => (by cases h), fun r h => (by cases h)⟩, .inr ⟨_, fun r h => (by cases h), planV_same hB4 sZ, hSm, hFB⟩, fun Z3 z3 => ?_⟩
          have K8 := K7.same z3
          refine ⟨.ref l, rfl, l, _, rfl, .inl (SqL.of K8.pl), ?_⟩
          rw [hxl]
          exact ⟨.int (rs.length : Nat), rfl, .inr (.inl ⟨_, rfl⟩), q _⟩
end Nf

set_option Elab.async false
set_option linter.all false
set_option maxRecDepth 100000
set_option maxHeartbeats 4000000
namespace Nf
open PySem L2
/-! ### what the top has laid, the end -/
theorem all_mk {l : PySem.W.OpenLaw} {w : World} {K : PySem.W.Frag} {h : Heap} {mg : Str → Option Value} {fa C f_check_plan f_is_round f_is_table f_rises f_alike f_moved f_turning_by_kinds f_told_apart f_shown_seats f_kinds_at f_set_apart f_is_party f_L_taken f_L_alike f_L_few f_L_mixed f_L_seated f_L_pairs f_L_known f_L_new f_L_thin f_L_plan f_L_moved f_L_takes f_L_some f_L_changed f_L_refused f_L_full f_M_init f_M_guests f_M_size f_M_tables f_law : Addr} (X : K.In h) (G : h.Ns mainGlobals mg) (hfa : mg "law" = some (.ref fa))
    {od_check_plan an_check_plan od_is_round an_is_round od_is_table an_is_table od_rises an_rises od_alike an_alike od_moved an_moved od_turning_by_kinds an_turning_by_kinds od_told_apart an_told_apart od_shown_seats an_shown_seats od_kinds_at an_kinds_at od_set_apart an_set_apart od_is_party an_is_party od_L_taken an_L_taken od_L_alike an_L_alike od_L_few an_L_few od_L_mixed an_L_mixed od_L_seated an_L_seated od_L_pairs an_L_pairs od_L_known an_L_known od_L_new an_L_new od_L_thin an_L_thin od_L_plan an_L_plan od_L_moved an_L_moved od_L_takes an_L_takes od_L_some an_L_some od_L_changed an_L_changed od_L_refused an_L_refused od_L_full an_L_full od_M_init an_M_init od_M_guests an_M_guests od_M_size an_M_size od_M_tables an_M_tables od_law an_law : Option Addr} {sl_check_plan sl_is_round sl_is_table sl_rises sl_alike sl_moved sl_turning_by_kinds sl_told_apart sl_shown_seats sl_kinds_at sl_set_apart sl_is_party sl_L_taken sl_L_alike sl_L_few sl_L_mixed sl_L_seated sl_L_pairs sl_L_known sl_L_new sl_L_thin sl_L_plan sl_L_moved sl_L_takes sl_L_some sl_L_changed sl_L_refused sl_L_full sl_M_init sl_M_guests sl_M_size sl_M_tables sl_law : Array (Option Value)} {oc_check_plan kV_check_plan dc_check_plan pm_check_plan cd_check_plan ct_check_plan oc_is_round kV_is_round dc_is_round pm_is_round cd_is_round ct_is_round oc_is_table kV_is_table dc_is_table pm_is_table cd_is_table ct_is_table oc_rises kV_rises dc_rises pm_rises cd_rises ct_rises oc_alike kV_alike dc_alike pm_alike cd_alike ct_alike oc_moved kV_moved dc_moved pm_moved cd_moved ct_moved oc_turning_by_kinds kV_turning_by_kinds dc_turning_by_kinds pm_turning_by_kinds cd_turning_by_kinds ct_turning_by_kinds oc_told_apart kV_told_apart dc_told_apart pm_told_apart cd_told_apart ct_told_apart oc_shown_seats kV_shown_seats dc_shown_seats pm_shown_seats cd_shown_seats ct_shown_seats oc_kinds_at kV_kinds_at dc_kinds_at pm_kinds_at cd_kinds_at ct_kinds_at oc_set_apart kV_set_apart dc_set_apart pm_set_apart cd_set_apart ct_set_apart oc_is_party kV_is_party dc_is_party pm_is_party cd_is_party ct_is_party oc_L_taken kV_L_taken dc_L_taken pm_L_taken cd_L_taken ct_L_taken oc_L_alike kV_L_alike dc_L_alike pm_L_alike cd_L_alike ct_L_alike oc_L_few kV_L_few dc_L_few pm_L_few cd_L_few ct_L_few oc_L_mixed kV_L_mixed dc_L_mixed pm_L_mixed cd_L_mixed ct_L_mixed oc_L_seated kV_L_seated dc_L_seated pm_L_seated cd_L_seated ct_L_seated oc_L_pairs kV_L_pairs dc_L_pairs pm_L_pairs cd_L_pairs ct_L_pairs oc_L_known kV_L_known dc_L_known pm_L_known cd_L_known ct_L_known oc_L_new kV_L_new dc_L_new pm_L_new cd_L_new ct_L_new oc_L_thin kV_L_thin dc_L_thin pm_L_thin cd_L_thin ct_L_thin oc_L_plan kV_L_plan dc_L_plan pm_L_plan cd_L_plan ct_L_plan oc_L_moved kV_L_moved dc_L_moved pm_L_moved cd_L_moved ct_L_moved oc_L_takes kV_L_takes dc_L_takes pm_L_takes cd_L_takes ct_L_takes oc_L_some kV_L_some dc_L_some pm_L_some cd_L_some ct_L_some oc_L_changed kV_L_changed dc_L_changed pm_L_changed cd_L_changed ct_L_changed oc_L_refused kV_L_refused dc_L_refused pm_L_refused cd_L_refused ct_L_refused oc_L_full kV_L_full dc_L_full pm_L_full cd_L_full ct_L_full oc_M_init kV_M_init dc_M_init pm_M_init cd_M_init ct_M_init oc_M_guests kV_M_guests dc_M_guests pm_M_guests cd_M_guests ct_M_guests oc_M_size kV_M_size dc_M_size pm_M_size cd_M_size ct_M_size oc_M_tables kV_M_tables dc_M_tables pm_M_tables cd_M_tables ct_M_tables oc_law kV_law dc_law pm_law cd_law ct_law : Value} {CB PE fB cc cda : Addr} {nm qq : Str} {NN : Addr} {bss snv : List Value} {sn : List Str} {ab : Bool} {col : Option Bool} {dd : Option Addr} {m0 m1 m2 m3 m5 : Option Value} {ocB : Value} {odB anB cldB cddB : Option Addr} {docB pmB ctB clB cclB : Value} {oslB cslB ccsB : Array (Option Value)} {vsB : Array Value} {fileB : Str} {tfB : Tok} {nmE qqE : Str} {NE : Addr} {bsE svE : List Value} {hE : Bool} {snE : List Str} {abE : Bool} {colE : Option Bool} {ddE : Option Addr} {p0 p1 p2 p3 p5 : Option Value} {nwE : String}
    (aC : PySem.W.nsIn K mainGlobals "Party" = some (some (.ref C)))
    (a_check_plan : PySem.W.nsIn K mainGlobals "check_plan" = some (some (.ref f_check_plan)))
    (l_check_plan : K.lookup f_check_plan = some ⟨oc_check_plan, od_check_plan, .func (PySem.W.fnOf "check_plan" "check_plan" (defArgs sCheck) (defBody sCheck) (defScope sCheck) .none kV_check_plan dc_check_plan pm_check_plan an_check_plan cd_check_plan ct_check_plan), sl_check_plan⟩)
    (c_check_plan : PySem.W.codeIn K cd_check_plan "check_plan" = true)
    (k_check_plan : PySem.W.keepIn K (.ref f_check_plan) = true)
    (a_is_round : PySem.W.nsIn K mainGlobals "is_round" = some (some (.ref f_is_round)))
    (l_is_round : K.lookup f_is_round = some ⟨oc_is_round, od_is_round, .func (PySem.W.fnOf "is_round" "is_round" (defArgs sIsRound) (defBody sIsRound) (defScope sIsRound) .none kV_is_round dc_is_round pm_is_round an_is_round cd_is_round ct_is_round), sl_is_round⟩)
    (c_is_round : PySem.W.codeIn K cd_is_round "is_round" = true)
    (k_is_round : PySem.W.keepIn K (.ref f_is_round) = true)
    (a_is_table : PySem.W.nsIn K mainGlobals "is_table" = some (some (.ref f_is_table)))
    (l_is_table : K.lookup f_is_table = some ⟨oc_is_table, od_is_table, .func (PySem.W.fnOf "is_table" "is_table" (defArgs sIsTable) (defBody sIsTable) (defScope sIsTable) .none kV_is_table dc_is_table pm_is_table an_is_table cd_is_table ct_is_table), sl_is_table⟩)
    (c_is_table : PySem.W.codeIn K cd_is_table "is_table" = true)
    (k_is_table : PySem.W.keepIn K (.ref f_is_table) = true)
    (a_rises : PySem.W.nsIn K mainGlobals "rises" = some (some (.ref f_rises)))
    (l_rises : K.lookup f_rises = some ⟨oc_rises, od_rises, .func (PySem.W.fnOf "rises" "rises" (defArgs sRises) (defBody sRises) (defScope sRises) .none kV_rises dc_rises pm_rises an_rises cd_rises ct_rises), sl_rises⟩)
    (c_rises : PySem.W.codeIn K cd_rises "rises" = true)
    (k_rises : PySem.W.keepIn K (.ref f_rises) = true)
    (a_alike : PySem.W.nsIn K mainGlobals "alike" = some (some (.ref f_alike)))
    (l_alike : K.lookup f_alike = some ⟨oc_alike, od_alike, .func (PySem.W.fnOf "alike" "alike" (defArgs sAlikeP) (defBody sAlikeP) (defScope sAlikeP) .none kV_alike dc_alike pm_alike an_alike cd_alike ct_alike), sl_alike⟩)
    (c_alike : PySem.W.codeIn K cd_alike "alike" = true)
    (k_alike : PySem.W.keepIn K (.ref f_alike) = true)
    (a_moved : PySem.W.nsIn K mainGlobals "moved" = some (some (.ref f_moved)))
    (l_moved : K.lookup f_moved = some ⟨oc_moved, od_moved, .func (PySem.W.fnOf "moved" "moved" (defArgs sMovedP) (defBody sMovedP) (defScope sMovedP) .none kV_moved dc_moved pm_moved an_moved cd_moved ct_moved), sl_moved⟩)
    (c_moved : PySem.W.codeIn K cd_moved "moved" = true)
    (k_moved : PySem.W.keepIn K (.ref f_moved) = true)
    (a_turning_by_kinds : PySem.W.nsIn K mainGlobals "turning_by_kinds" = some (some (.ref f_turning_by_kinds)))
    (l_turning_by_kinds : K.lookup f_turning_by_kinds = some ⟨oc_turning_by_kinds, od_turning_by_kinds, .func (PySem.W.fnOf "turning_by_kinds" "turning_by_kinds" (defArgs sTurning) (defBody sTurning) (defScope sTurning) .none kV_turning_by_kinds dc_turning_by_kinds pm_turning_by_kinds an_turning_by_kinds cd_turning_by_kinds ct_turning_by_kinds), sl_turning_by_kinds⟩)
    (c_turning_by_kinds : PySem.W.codeIn K cd_turning_by_kinds "turning_by_kinds" = true)
    (k_turning_by_kinds : PySem.W.keepIn K (.ref f_turning_by_kinds) = true)
    (a_told_apart : PySem.W.nsIn K mainGlobals "told_apart" = some (some (.ref f_told_apart)))
    (l_told_apart : K.lookup f_told_apart = some ⟨oc_told_apart, od_told_apart, .func (PySem.W.fnOf "told_apart" "told_apart" (defArgs sToldApart) (defBody sToldApart) (defScope sToldApart) .none kV_told_apart dc_told_apart pm_told_apart an_told_apart cd_told_apart ct_told_apart), sl_told_apart⟩)
    (c_told_apart : PySem.W.codeIn K cd_told_apart "told_apart" = true)
    (k_told_apart : PySem.W.keepIn K (.ref f_told_apart) = true)
    (a_shown_seats : PySem.W.nsIn K mainGlobals "shown_seats" = some (some (.ref f_shown_seats)))
    (l_shown_seats : K.lookup f_shown_seats = some ⟨oc_shown_seats, od_shown_seats, .func (PySem.W.fnOf "shown_seats" "shown_seats" (defArgs sShown) (defBody sShown) (defScope sShown) .none kV_shown_seats dc_shown_seats pm_shown_seats an_shown_seats cd_shown_seats ct_shown_seats), sl_shown_seats⟩)
    (c_shown_seats : PySem.W.codeIn K cd_shown_seats "shown_seats" = true)
    (k_shown_seats : PySem.W.keepIn K (.ref f_shown_seats) = true)
    (a_kinds_at : PySem.W.nsIn K mainGlobals "kinds_at" = some (some (.ref f_kinds_at)))
    (l_kinds_at : K.lookup f_kinds_at = some ⟨oc_kinds_at, od_kinds_at, .func (PySem.W.fnOf "kinds_at" "kinds_at" (defArgs sKindsAt) (defBody sKindsAt) (defScope sKindsAt) .none kV_kinds_at dc_kinds_at pm_kinds_at an_kinds_at cd_kinds_at ct_kinds_at), sl_kinds_at⟩)
    (c_kinds_at : PySem.W.codeIn K cd_kinds_at "kinds_at" = true)
    (k_kinds_at : PySem.W.keepIn K (.ref f_kinds_at) = true)
    (a_set_apart : PySem.W.nsIn K mainGlobals "set_apart" = some (some (.ref f_set_apart)))
    (l_set_apart : K.lookup f_set_apart = some ⟨oc_set_apart, od_set_apart, .func (PySem.W.fnOf "set_apart" "set_apart" (defArgs sSetApart) (defBody sSetApart) (defScope sSetApart) .none kV_set_apart dc_set_apart pm_set_apart an_set_apart cd_set_apart ct_set_apart), sl_set_apart⟩)
    (c_set_apart : PySem.W.codeIn K cd_set_apart "set_apart" = true)
    (k_set_apart : PySem.W.keepIn K (.ref f_set_apart) = true)
    (a_is_party : PySem.W.nsIn K mainGlobals "is_party" = some (some (.ref f_is_party)))
    (l_is_party : K.lookup f_is_party = some ⟨oc_is_party, od_is_party, .func (PySem.W.fnOf "is_party" "is_party" (defArgs sIsParty) (defBody sIsParty) (defScope sIsParty) .none kV_is_party dc_is_party pm_is_party an_is_party cd_is_party ct_is_party), sl_is_party⟩)
    (c_is_party : PySem.W.codeIn K cd_is_party "is_party" = true)
    (k_is_party : PySem.W.keepIn K (.ref f_is_party) = true)
    (a_L_taken : PySem.W.nsIn K mainGlobals "_law_taken" = some (some (.ref f_L_taken)))
    (l_L_taken : K.lookup f_L_taken = some ⟨oc_L_taken, od_L_taken, .func (PySem.W.fnOf "_law_taken" "_law_taken" (defArgs lTaken) (defBody lTaken) (defScope lTaken) .none kV_L_taken dc_L_taken pm_L_taken an_L_taken cd_L_taken ct_L_taken), sl_L_taken⟩)
    (c_L_taken : PySem.W.codeIn K cd_L_taken "_law_taken" = true)
    (k_L_taken : PySem.W.keepIn K (.ref f_L_taken) = true)
    (a_L_alike : PySem.W.nsIn K mainGlobals "_law_alike" = some (some (.ref f_L_alike)))
    (l_L_alike : K.lookup f_L_alike = some ⟨oc_L_alike, od_L_alike, .func (PySem.W.fnOf "_law_alike" "_law_alike" (defArgs lAlike) (defBody lAlike) (defScope lAlike) .none kV_L_alike dc_L_alike pm_L_alike an_L_alike cd_L_alike ct_L_alike), sl_L_alike⟩)
    (c_L_alike : PySem.W.codeIn K cd_L_alike "_law_alike" = true)
    (k_L_alike : PySem.W.keepIn K (.ref f_L_alike) = true)
    (a_L_few : PySem.W.nsIn K mainGlobals "_law_few" = some (some (.ref f_L_few)))
    (l_L_few : K.lookup f_L_few = some ⟨oc_L_few, od_L_few, .func (PySem.W.fnOf "_law_few" "_law_few" (defArgs lFew) (defBody lFew) (defScope lFew) .none kV_L_few dc_L_few pm_L_few an_L_few cd_L_few ct_L_few), sl_L_few⟩)
    (c_L_few : PySem.W.codeIn K cd_L_few "_law_few" = true)
    (k_L_few : PySem.W.keepIn K (.ref f_L_few) = true)
    (a_L_mixed : PySem.W.nsIn K mainGlobals "_law_mixed" = some (some (.ref f_L_mixed)))
    (l_L_mixed : K.lookup f_L_mixed = some ⟨oc_L_mixed, od_L_mixed, .func (PySem.W.fnOf "_law_mixed" "_law_mixed" (defArgs lMixed) (defBody lMixed) (defScope lMixed) .none kV_L_mixed dc_L_mixed pm_L_mixed an_L_mixed cd_L_mixed ct_L_mixed), sl_L_mixed⟩)
    (c_L_mixed : PySem.W.codeIn K cd_L_mixed "_law_mixed" = true)
    (k_L_mixed : PySem.W.keepIn K (.ref f_L_mixed) = true)
    (a_L_seated : PySem.W.nsIn K mainGlobals "_law_seated" = some (some (.ref f_L_seated)))
    (l_L_seated : K.lookup f_L_seated = some ⟨oc_L_seated, od_L_seated, .func (PySem.W.fnOf "_law_seated" "_law_seated" (defArgs lSeated) (defBody lSeated) (defScope lSeated) .none kV_L_seated dc_L_seated pm_L_seated an_L_seated cd_L_seated ct_L_seated), sl_L_seated⟩)
    (c_L_seated : PySem.W.codeIn K cd_L_seated "_law_seated" = true)
    (k_L_seated : PySem.W.keepIn K (.ref f_L_seated) = true)
    (a_L_pairs : PySem.W.nsIn K mainGlobals "_law_pairs" = some (some (.ref f_L_pairs)))
    (l_L_pairs : K.lookup f_L_pairs = some ⟨oc_L_pairs, od_L_pairs, .func (PySem.W.fnOf "_law_pairs" "_law_pairs" (defArgs lPairs) (defBody lPairs) (defScope lPairs) .none kV_L_pairs dc_L_pairs pm_L_pairs an_L_pairs cd_L_pairs ct_L_pairs), sl_L_pairs⟩)
    (c_L_pairs : PySem.W.codeIn K cd_L_pairs "_law_pairs" = true)
    (k_L_pairs : PySem.W.keepIn K (.ref f_L_pairs) = true)
    (a_L_known : PySem.W.nsIn K mainGlobals "_law_known" = some (some (.ref f_L_known)))
    (l_L_known : K.lookup f_L_known = some ⟨oc_L_known, od_L_known, .func (PySem.W.fnOf "_law_known" "_law_known" (defArgs lKnown) (defBody lKnown) (defScope lKnown) .none kV_L_known dc_L_known pm_L_known an_L_known cd_L_known ct_L_known), sl_L_known⟩)
    (c_L_known : PySem.W.codeIn K cd_L_known "_law_known" = true)
    (k_L_known : PySem.W.keepIn K (.ref f_L_known) = true)
    (a_L_new : PySem.W.nsIn K mainGlobals "_law_new" = some (some (.ref f_L_new)))
    (l_L_new : K.lookup f_L_new = some ⟨oc_L_new, od_L_new, .func (PySem.W.fnOf "_law_new" "_law_new" (defArgs lNew) (defBody lNew) (defScope lNew) .none kV_L_new dc_L_new pm_L_new an_L_new cd_L_new ct_L_new), sl_L_new⟩)
    (c_L_new : PySem.W.codeIn K cd_L_new "_law_new" = true)
    (k_L_new : PySem.W.keepIn K (.ref f_L_new) = true)
    (a_L_thin : PySem.W.nsIn K mainGlobals "_law_thin" = some (some (.ref f_L_thin)))
    (l_L_thin : K.lookup f_L_thin = some ⟨oc_L_thin, od_L_thin, .func (PySem.W.fnOf "_law_thin" "_law_thin" (defArgs lThin) (defBody lThin) (defScope lThin) .none kV_L_thin dc_L_thin pm_L_thin an_L_thin cd_L_thin ct_L_thin), sl_L_thin⟩)
    (c_L_thin : PySem.W.codeIn K cd_L_thin "_law_thin" = true)
    (k_L_thin : PySem.W.keepIn K (.ref f_L_thin) = true)
    (a_L_plan : PySem.W.nsIn K mainGlobals "_law_plan" = some (some (.ref f_L_plan)))
    (l_L_plan : K.lookup f_L_plan = some ⟨oc_L_plan, od_L_plan, .func (PySem.W.fnOf "_law_plan" "_law_plan" (defArgs lPlan) (defBody lPlan) (defScope lPlan) .none kV_L_plan dc_L_plan pm_L_plan an_L_plan cd_L_plan ct_L_plan), sl_L_plan⟩)
    (c_L_plan : PySem.W.codeIn K cd_L_plan "_law_plan" = true)
    (k_L_plan : PySem.W.keepIn K (.ref f_L_plan) = true)
    (a_L_moved : PySem.W.nsIn K mainGlobals "_law_moved" = some (some (.ref f_L_moved)))
    (l_L_moved : K.lookup f_L_moved = some ⟨oc_L_moved, od_L_moved, .func (PySem.W.fnOf "_law_moved" "_law_moved" (defArgs lMoved) (defBody lMoved) (defScope lMoved) .none kV_L_moved dc_L_moved pm_L_moved an_L_moved cd_L_moved ct_L_moved), sl_L_moved⟩)
    (c_L_moved : PySem.W.codeIn K cd_L_moved "_law_moved" = true)
    (k_L_moved : PySem.W.keepIn K (.ref f_L_moved) = true)
    (a_L_takes : PySem.W.nsIn K mainGlobals "_law_takes" = some (some (.ref f_L_takes)))
    (l_L_takes : K.lookup f_L_takes = some ⟨oc_L_takes, od_L_takes, .func (PySem.W.fnOf "_law_takes" "_law_takes" (defArgs lTakes) (defBody lTakes) (defScope lTakes) .none kV_L_takes dc_L_takes pm_L_takes an_L_takes cd_L_takes ct_L_takes), sl_L_takes⟩)
    (c_L_takes : PySem.W.codeIn K cd_L_takes "_law_takes" = true)
    (k_L_takes : PySem.W.keepIn K (.ref f_L_takes) = true)
    (a_L_some : PySem.W.nsIn K mainGlobals "_law_some" = some (some (.ref f_L_some)))
    (l_L_some : K.lookup f_L_some = some ⟨oc_L_some, od_L_some, .func (PySem.W.fnOf "_law_some" "_law_some" (defArgs lSome) (defBody lSome) (defScope lSome) .none kV_L_some dc_L_some pm_L_some an_L_some cd_L_some ct_L_some), sl_L_some⟩)
    (c_L_some : PySem.W.codeIn K cd_L_some "_law_some" = true)
    (k_L_some : PySem.W.keepIn K (.ref f_L_some) = true)
    (a_L_changed : PySem.W.nsIn K mainGlobals "_law_changed" = some (some (.ref f_L_changed)))
    (l_L_changed : K.lookup f_L_changed = some ⟨oc_L_changed, od_L_changed, .func (PySem.W.fnOf "_law_changed" "_law_changed" (defArgs lChanged) (defBody lChanged) (defScope lChanged) .none kV_L_changed dc_L_changed pm_L_changed an_L_changed cd_L_changed ct_L_changed), sl_L_changed⟩)
    (c_L_changed : PySem.W.codeIn K cd_L_changed "_law_changed" = true)
    (k_L_changed : PySem.W.keepIn K (.ref f_L_changed) = true)
    (a_L_refused : PySem.W.nsIn K mainGlobals "_law_refused" = some (some (.ref f_L_refused)))
    (l_L_refused : K.lookup f_L_refused = some ⟨oc_L_refused, od_L_refused, .func (PySem.W.fnOf "_law_refused" "_law_refused" (defArgs lRefused) (defBody lRefused) (defScope lRefused) .none kV_L_refused dc_L_refused pm_L_refused an_L_refused cd_L_refused ct_L_refused), sl_L_refused⟩)
    (c_L_refused : PySem.W.codeIn K cd_L_refused "_law_refused" = true)
    (k_L_refused : PySem.W.keepIn K (.ref f_L_refused) = true)
    (a_L_full : PySem.W.nsIn K mainGlobals "_law_full" = some (some (.ref f_L_full)))
    (l_L_full : K.lookup f_L_full = some ⟨oc_L_full, od_L_full, .func (PySem.W.fnOf "_law_full" "_law_full" (defArgs lFull) (defBody lFull) (defScope lFull) .none kV_L_full dc_L_full pm_L_full an_L_full cd_L_full ct_L_full), sl_L_full⟩)
    (c_L_full : PySem.W.codeIn K cd_L_full "_law_full" = true)
    (k_L_full : PySem.W.keepIn K (.ref f_L_full) = true)
    (a_M_init : PySem.W.findIn K (.ref C) "__init__" = some (some (.ref f_M_init)))
    (i_M_init : PySem.W.isFn K (.ref f_M_init) = true)
    (l_M_init : K.lookup f_M_init = some ⟨oc_M_init, od_M_init, .func (PySem.W.fnOf "__init__" "Party.__init__" (defArgs sInit) (defBody sInit) (defScope sInit) .none kV_M_init dc_M_init pm_M_init an_M_init cd_M_init ct_M_init), sl_M_init⟩)
    (c_M_init : PySem.W.codeIn K cd_M_init "Party.__init__" = true)
    (k_M_init : PySem.W.keepIn K (.ref f_M_init) = true)
    (a_M_guests : PySem.W.findIn K (.ref C) "guests" = some (some (.ref f_M_guests)))
    (i_M_guests : PySem.W.isFn K (.ref f_M_guests) = true)
    (l_M_guests : K.lookup f_M_guests = some ⟨oc_M_guests, od_M_guests, .func (PySem.W.fnOf "guests" "Party.guests" (defArgs sGuests) (defBody sGuests) (defScope sGuests) .none kV_M_guests dc_M_guests pm_M_guests an_M_guests cd_M_guests ct_M_guests), sl_M_guests⟩)
    (c_M_guests : PySem.W.codeIn K cd_M_guests "Party.guests" = true)
    (k_M_guests : PySem.W.keepIn K (.ref f_M_guests) = true)
    (a_M_size : PySem.W.findIn K (.ref C) "size" = some (some (.ref f_M_size)))
    (i_M_size : PySem.W.isFn K (.ref f_M_size) = true)
    (l_M_size : K.lookup f_M_size = some ⟨oc_M_size, od_M_size, .func (PySem.W.fnOf "size" "Party.size" (defArgs sSize) (defBody sSize) (defScope sSize) .none kV_M_size dc_M_size pm_M_size an_M_size cd_M_size ct_M_size), sl_M_size⟩)
    (c_M_size : PySem.W.codeIn K cd_M_size "Party.size" = true)
    (k_M_size : PySem.W.keepIn K (.ref f_M_size) = true)
    (a_M_tables : PySem.W.findIn K (.ref C) "tables" = some (some (.ref f_M_tables)))
    (i_M_tables : PySem.W.isFn K (.ref f_M_tables) = true)
    (l_M_tables : K.lookup f_M_tables = some ⟨oc_M_tables, od_M_tables, .func (PySem.W.fnOf "tables" "Party.tables" (defArgs sTables) (defBody sTables) (defScope sTables) .none kV_M_tables dc_M_tables pm_M_tables an_M_tables cd_M_tables ct_M_tables), sl_M_tables⟩)
    (c_M_tables : PySem.W.codeIn K cd_M_tables "Party.tables" = true)
    (k_M_tables : PySem.W.keepIn K (.ref f_M_tables) = true)
    (a_law : PySem.W.nsIn K mainGlobals "law" = some (some (.ref f_law)))
    (l_law : K.lookup f_law = some ⟨oc_law, od_law, .func (PySem.W.fnOf "law" "law" (defArgs lLaw) (defBody lLaw) (defScope lLaw) .none kV_law dc_law pm_law an_law cd_law ct_law), sl_law⟩)
    (c_law : PySem.W.codeIn K cd_law "law" = true)
    (k_law : PySem.W.keepIn K (.ref f_law) = true)
    (pg : PySem.W.plainGet K C Str.empty = true)
    (hd : PySem.W.hasDictIn K C = true)
    (po : PySem.W.plainOver K C = true)
    (sa : PySem.W.findIn K (.ref C) "__setattr__" = some (some (.builtin "object.__setattr__")))
    (mk : PySem.W.makesIn K C = true)
    (kc : PySem.W.keepIn K (.ref C) = true)
    (nM : PySem.W.findIn K (.ref C) "many" = some none)
    (nS : PySem.W.findIn K (.ref C) "seats" = some none)
    (zFG : ∃ t, PySem.W.nsIn K mainGlobals "FEWEST_GUESTS" = some (some (.int 2 t)))
    (zMO : ∃ t, PySem.W.nsIn K mainGlobals "MOST_GUESTS" = some (some (.int 64 t)))
    (zSS : ∃ t, PySem.W.nsIn K mainGlobals "SMALLEST_SIZE" = some (some (.int 2 t)))
    (zLS : ∃ t, PySem.W.nsIn K mainGlobals "LARGEST_SIZE" = some (some (.int 8 t)))
    (b_len : PySem.W.nsIn K mainGlobals "len" = some none)
    (b_all : PySem.W.nsIn K mainGlobals "all" = some none)
    (b_zip : PySem.W.nsIn K mainGlobals "zip" = some none)
    (b_set : PySem.W.nsIn K mainGlobals "set" = some none)
    (b_sorted : PySem.W.nsIn K mainGlobals "sorted" = some none)
    (b_enumerate : PySem.W.nsIn K mainGlobals "enumerate" = some none)
    (b_list : PySem.W.nsIn K mainGlobals "list" = some none)
    (b_tuple : PySem.W.nsIn K mainGlobals "tuple" = some none)
    (b_range : PySem.W.nsIn K mainGlobals "range" = some none)
    (b_isinstance : PySem.W.nsIn K mainGlobals "isinstance" = some none)
    (b_min : PySem.W.nsIn K mainGlobals "min" = some none)
    (b_max : PySem.W.nsIn K mainGlobals "max" = some none)
    (b_int : PySem.W.nsIn K mainGlobals "int" = some none)
    (b_bool : PySem.W.nsIn K mainGlobals "bool" = some none)
    (b_str : PySem.W.nsIn K mainGlobals "str" = some none)
    (x_sum : PySem.W.nsIn K mainGlobals "sum" = some none)
    (x_gB : PySem.W.nsIn K mainGlobals "BadRound" = some (some (.ref CB)))
    (x_cls : K.lookup CB = some (excClassObj nm qq CB NN bss [.ref PE, .type "ValueError", .type "Exception", .type "BaseException", .type "object"] true sn snv ab col dd m0 m1 m2 m3 m5 "ValueError.__new__"))
    (x_sa : PySem.W.findIn K (.ref CB) "__setattr__" = some (some (.builtin "object.__setattr__")))
    (x_ga : PySem.W.findIn K (.ref CB) "__getattribute__" = some (some (.builtin "BaseException.__getattribute__")))
    (x_gg : PySem.W.findIn K (.ref CB) "__getattr__" = some none)
    (x_no : PySem.W.findIn K (.ref CB) "number" = some none)
    (x_iC : PySem.W.findIn K (.ref CB) "__init__" = some (some (.ref fB)))
    (x_tC : PySem.W.typeIn K (.ref fB) = some (.type "function"))
    (x_kC : PySem.W.keepIn K (.ref CB) = true)
    (x_exC : PySem.W.subIn K (.ref CB) (.type "BaseException") = some true)
    (x_veC : PySem.W.subIn K (.ref CB) (.type "ValueError") = some true)
    (x_tyC : PySem.W.typeIn K (.ref CB) = some (.type "type"))
    (x_hdC : PySem.W.hasDictIn K CB = true)
    (x_sBB : PySem.W.subIn K (.ref CB) (.ref CB) = some true)
    (x_mro : PySem.W.mroIn K CB (.ref CB) = some true)
    (x_clsE : K.lookup PE = some (excClassObj nmE qqE PE NE bsE [.type "ValueError", .type "Exception", .type "BaseException", .type "object"] hE snE svE abE colE ddE p0 p1 p2 p3 p5 nwE))
    (x_fiE : PySem.W.findIn K (.ref PE) "__init__" = some (some (.builtin "ValueError.__init__")))
    (x_opq : PySem.W.nsIn K cStatics "thirdparty.any" = some none)
    (x_gS : PySem.W.nsIn K mainGlobals "super" = some none)
    (x_top : (l.prog.main.scope.names.lookup ("super" : Str)).isSome = false)
    (x_f1 : K.lookup fB = some ⟨ocB, odB, .func (PySem.W.ksFn "__init__" "BadRound.__init__" (defArgs sBRInit) (defBody sBRInit) (defScope sBRInit) .none .none docB pmB anB (.ref cda) ctB cc), oslB⟩)
    (x_f2 : PySem.W.codeIn K (.ref cda) "BadRound.__init__" = true)
    (x_f3 : K.lookup cc = some ⟨clB, cldB, .cell (some (.ref CB)), cslB⟩)
    (x_f4 : K.lookup cda = some ⟨cclB, cddB, .fields vsB, ccsB⟩)
    (x_f5 : vsB[2]? = some (.str fileB tfB))
    (x_f6 : ((l.prog.main.file : Str) == fileB) = true) :
    ∃ fd : FuncData, (∀ (s : Shared) (v : Value), BindsTo s fd ⟨[v], []⟩ [("_law_script", v)]) ∧ ∀ base : Heap, K.In base → base.Ns mainGlobals mg → FnOk l.prog w K mg base CX0 15 fa fd ["_law_script"] (spLaw K) := by
  have e := hfa.symm.trans (PySem.W.mg_of X G a_law)
  cases e
  obtain ⟨tFG, zFG⟩ := zFG
  obtain ⟨tMO, zMO⟩ := zMO
  obtain ⟨tSS, zSS⟩ := zSS
  obtain ⟨tLS, zLS⟩ := zLS
  have T : Txt K mg C := ⟨⟨pg, hd, po, sa⟩, nM, nS, PySem.W.mg_of X G aC, ⟨tFG, PySem.W.mg_of X G zFG⟩, ⟨tMO, PySem.W.mg_of X G zMO⟩, ⟨tSS, PySem.W.mg_of X G zSS⟩, ⟨tLS, PySem.W.mg_of X G zLS⟩⟩
  have B : Blt mg := ⟨PySem.W.mg_none_of X G b_len, PySem.W.mg_none_of X G b_all, PySem.W.mg_none_of X G b_zip, PySem.W.mg_none_of X G b_set, PySem.W.mg_none_of X G b_sorted, PySem.W.mg_none_of X G b_enumerate, PySem.W.mg_none_of X G b_list, PySem.W.mg_none_of X G b_tuple, PySem.W.mg_none_of X G b_range, PySem.W.mg_none_of X G b_isinstance, PySem.W.mg_none_of X G b_min, PySem.W.mg_none_of X G b_max, PySem.W.mg_none_of X G b_int, PySem.W.mg_none_of X G b_bool, PySem.W.mg_none_of X G b_str⟩
  have F_check_plan := fun_mk (st := sCheck) l_check_plan c_check_plan k_check_plan
  have B_check_plan := F_check_plan.binds (ps := ["party", "plan"]) fun _ _ _ _ _ _ us hl => match us, hl with | [_, _], _ => rfl
  have G_check_plan := PySem.W.mg_of X G a_check_plan
  have F_is_round := fun_mk (st := sIsRound) l_is_round c_is_round k_is_round
  have B_is_round := F_is_round.binds (ps := ["party", "thing"]) fun _ _ _ _ _ _ us hl => match us, hl with | [_, _], _ => rfl
  have G_is_round := PySem.W.mg_of X G a_is_round
  have F_is_table := fun_mk (st := sIsTable) l_is_table c_is_table k_is_table
  have B_is_table := F_is_table.binds (ps := ["party", "table"]) fun _ _ _ _ _ _ us hl => match us, hl with | [_, _], _ => rfl
  have G_is_table := PySem.W.mg_of X G a_is_table
  have F_rises := fun_mk (st := sRises) l_rises c_rises k_rises
  have B_rises := F_rises.binds (ps := ["numbers"]) fun _ _ _ _ _ _ us hl => match us, hl with | [_], _ => rfl
  have G_rises := PySem.W.mg_of X G a_rises
  have F_alike := fun_mk (st := sAlikeP) l_alike c_alike k_alike
  have B_alike := F_alike.binds (ps := ["party", "one", "other"]) fun _ _ _ _ _ _ us hl => match us, hl with | [_, _, _], _ => rfl
  have G_alike := PySem.W.mg_of X G a_alike
  have F_moved := fun_mk (st := sMovedP) l_moved c_moved k_moved
  have B_moved := F_moved.binds (ps := ["tables", "by"]) fun _ _ _ _ _ _ us hl => match us, hl with | [_, _], _ => rfl
  have G_moved := PySem.W.mg_of X G a_moved
  have F_turning_by_kinds := fun_mk (st := sTurning) l_turning_by_kinds c_turning_by_kinds k_turning_by_kinds
  have B_turning_by_kinds := F_turning_by_kinds.binds (ps := ["both", "kinds"]) fun _ _ _ _ _ _ us hl => match us, hl with | [_, _], _ => rfl
  have G_turning_by_kinds := PySem.W.mg_of X G a_turning_by_kinds
  have F_told_apart := fun_mk (st := sToldApart) l_told_apart c_told_apart k_told_apart
  have B_told_apart := F_told_apart.binds (ps := ["plan", "kinds"]) fun _ _ _ _ _ _ us hl => match us, hl with | [_, _], _ => rfl
  have G_told_apart := PySem.W.mg_of X G a_told_apart
  have F_shown_seats := fun_mk (st := sShown) l_shown_seats c_shown_seats k_shown_seats
  have B_shown_seats := F_shown_seats.binds (ps := ["plan", "kinds"]) fun _ _ _ _ _ _ us hl => match us, hl with | [_, _], _ => rfl
  have G_shown_seats := PySem.W.mg_of X G a_shown_seats
  have F_kinds_at := fun_mk (st := sKindsAt) l_kinds_at c_kinds_at k_kinds_at
  have B_kinds_at := F_kinds_at.binds (ps := ["table", "kinds"]) fun _ _ _ _ _ _ us hl => match us, hl with | [_, _], _ => rfl
  have G_kinds_at := PySem.W.mg_of X G a_kinds_at
  have F_set_apart := fun_mk (st := sSetApart) l_set_apart c_set_apart k_set_apart
  have B_set_apart := F_set_apart.binds (ps := ["kinds", "guests"]) fun _ _ _ _ _ _ us hl => match us, hl with | [_, _], _ => rfl
  have G_set_apart := PySem.W.mg_of X G a_set_apart
  have F_is_party := fun_mk (st := sIsParty) l_is_party c_is_party k_is_party
  have B_is_party := F_is_party.binds (ps := ["guests", "size"]) fun _ _ _ _ _ _ us hl => match us, hl with | [_, _], _ => rfl
  have G_is_party := PySem.W.mg_of X G a_is_party
  have F_L_taken := fun_mk (st := lTaken) l_L_taken c_L_taken k_L_taken
  have B_L_taken := F_L_taken.binds (ps := ["_law_row", "_law_many"]) fun _ _ _ _ _ _ us hl => match us, hl with | [_, _], _ => rfl
  have G_L_taken := PySem.W.mg_of X G a_L_taken
  have F_L_alike := fun_mk (st := lAlike) l_L_alike c_L_alike k_L_alike
  have B_L_alike := F_L_alike.binds (ps := ["_law_found", "_law_due"]) fun _ _ _ _ _ _ us hl => match us, hl with | [_, _], _ => rfl
  have G_L_alike := PySem.W.mg_of X G a_L_alike
  have F_L_few := fun_mk (st := lFew) l_L_few c_L_few k_L_few
  have B_L_few := F_L_few.binds (ps := ["_law_row"]) fun _ _ _ _ _ _ us hl => match us, hl with | [_], _ => rfl
  have G_L_few := PySem.W.mg_of X G a_L_few
  have F_L_mixed := fun_mk (st := lMixed) l_L_mixed c_L_mixed k_L_mixed
  have B_L_mixed := F_L_mixed.binds (ps := ["_law_row", "_law_some_here"]) fun _ _ _ _ _ _ us hl => match us, hl with | [_, _], _ => rfl
  have G_L_mixed := PySem.W.mg_of X G a_L_mixed
  have F_L_seated := fun_mk (st := lSeated) l_L_seated c_L_seated k_L_seated
  have B_L_seated := F_L_seated.binds (ps := ["_law_guests", "_law_size"]) fun _ _ _ _ _ _ us hl => match us, hl with | [_, _], _ => rfl
  have G_L_seated := PySem.W.mg_of X G a_L_seated
  have F_L_pairs := fun_mk (st := lPairs) l_L_pairs c_L_pairs k_L_pairs
  have B_L_pairs := F_L_pairs.binds (ps := ["_law_tables"]) fun _ _ _ _ _ _ us hl => match us, hl with | [_], _ => rfl
  have G_L_pairs := PySem.W.mg_of X G a_L_pairs
  have F_L_known := fun_mk (st := lKnown) l_L_known c_L_known k_L_known
  have B_L_known := F_L_known.binds (ps := ["_law_plan_here"]) fun _ _ _ _ _ _ us hl => match us, hl with | [_], _ => rfl
  have G_L_known := PySem.W.mg_of X G a_L_known
  have F_L_new := fun_mk (st := lNew) l_L_new c_L_new k_L_new
  have B_L_new := F_L_new.binds (ps := ["_law_tables", "_law_plan_here"]) fun _ _ _ _ _ _ us hl => match us, hl with | [_, _], _ => rfl
  have G_L_new := PySem.W.mg_of X G a_L_new
  have F_L_thin := fun_mk (st := lThin) l_L_thin c_L_thin k_L_thin
  have B_L_thin := F_L_thin.binds (ps := ["_law_row", "_law_tables"]) fun _ _ _ _ _ _ us hl => match us, hl with | [_, _], _ => rfl
  have G_L_thin := PySem.W.mg_of X G a_L_thin
  have F_L_plan := fun_mk (st := lPlan) l_L_plan c_L_plan k_L_plan
  have B_L_plan := F_L_plan.binds (ps := ["_law_row", "_law_guests", "_law_size", "_law_most"]) fun _ _ _ _ _ _ us hl => match us, hl with | [_, _, _, _], _ => rfl
  have G_L_plan := PySem.W.mg_of X G a_L_plan
  have F_L_moved := fun_mk (st := lMoved) l_L_moved c_L_moved k_L_moved
  have B_L_moved := F_L_moved.binds (ps := ["_law_tables", "_law_turning"]) fun _ _ _ _ _ _ us hl => match us, hl with | [_, _], _ => rfl
  have G_L_moved := PySem.W.mg_of X G a_L_moved
  have F_L_takes := fun_mk (st := lTakes) l_L_takes c_L_takes k_L_takes
  have B_L_takes := F_L_takes.binds (ps := ["_law_guests", "_law_one", "_law_other", "_law_turning"]) fun _ _ _ _ _ _ us hl => match us, hl with | [_, _, _, _], _ => rfl
  have G_L_takes := PySem.W.mg_of X G a_L_takes
  have F_L_some := fun_mk (st := lSome) l_L_some c_L_some k_L_some
  have B_L_some := F_L_some.binds (ps := ["_law_guests", "_law_one", "_law_other"]) fun _ _ _ _ _ _ us hl => match us, hl with | [_, _, _], _ => rfl
  have G_L_some := PySem.W.mg_of X G a_L_some
  have F_L_changed := fun_mk (st := lChanged) l_L_changed c_L_changed k_L_changed
  have B_L_changed := F_L_changed.binds (ps := ["_law_row", "_law_guests", "_law_plan_here"]) fun _ _ _ _ _ _ us hl => match us, hl with | [_, _, _], _ => rfl
  have G_L_changed := PySem.W.mg_of X G a_L_changed
  have F_L_refused := fun_mk (st := lRefused) l_L_refused c_L_refused k_L_refused
  have B_L_refused := F_L_refused.binds (ps := ["_law_party", "_law_one", "_law_other"]) fun _ _ _ _ _ _ us hl => match us, hl with | [_, _, _], _ => rfl
  have G_L_refused := PySem.W.mg_of X G a_L_refused
  have F_L_full := fun_mk (st := lFull) l_L_full c_L_full k_L_full
  have B_L_full := F_L_full.binds (ps := ["_law_guests", "_law_plan_here"]) fun _ _ _ _ _ _ us hl => match us, hl with | [_, _], _ => rfl
  have G_L_full := PySem.W.mg_of X G a_L_full
  have F_M_init := fun_mk (st := sInit) l_M_init c_M_init k_M_init
  have B_M_init := F_M_init.binds (ps := ["self", "guests", "size"]) fun _ _ _ _ _ _ us hl => match us, hl with | [_, _, _], _ => rfl
  have F_M_guests := fun_mk (st := sGuests) l_M_guests c_M_guests k_M_guests
  have B_M_guests := F_M_guests.binds (ps := ["self"]) fun _ _ _ _ _ _ us hl => match us, hl with | [_], _ => rfl
  have F_M_size := fun_mk (st := sSize) l_M_size c_M_size k_M_size
  have B_M_size := F_M_size.binds (ps := ["self"]) fun _ _ _ _ _ _ us hl => match us, hl with | [_], _ => rfl
  have F_M_tables := fun_mk (st := sTables) l_M_tables c_M_tables k_M_tables
  have B_M_tables := F_M_tables.binds (ps := ["self"]) fun _ _ _ _ _ _ us hl => match us, hl with | [_], _ => rfl
  have F_law := fun_mk (st := lLaw) l_law c_law k_law
  refine ⟨PySem.W.fnOf "law" "law" (defArgs lLaw) (defBody lLaw) (defScope lLaw) .none kV_law dc_law pm_law an_law cd_law ct_law, fun s v => .of_eq rfl, fun base _ _ => ?_⟩
  have TB : PySem.BrX.BrTxt l.prog K mg CB fB := ⟨PySem.W.mg_of X G x_gB, ⟨nm, qq, NN, bss, _, sn, snv, ab, col, dd, m0, m1, m2, m3, m5, x_cls, (by first | rfl | decide +kernel | simp [PySem.HandSPX.refsVE])⟩, x_sa, x_ga, x_gg, x_no, x_iC, x_tC, x_kC, x_exC, x_veC, x_tyC, x_hdC, PySem.W.exm_ref x_exC x_hdC x_tyC x_sBB, x_mro, PySem.W.super_of x_cls x_clsE x_fiE, x_opq, PySem.W.mg_none_of X G x_gS, x_top,
    ⟨ocB, odB, docB, pmB, anB, cda, ctB, oslB, cc, clB, cldB, cslB, cclB, cddB, vsB, ccsB, fileB, tfB, x_f1, x_f2, x_f3, x_f4, x_f5, x_f6⟩⟩
  have te : PySem.W.exmOne K (.ref CB) (.ref CB) = some true := PySem.W.exm_ref x_exC x_hdC x_tyC x_sBB
  have hsum := PySem.W.mg_none_of X G x_sum
  have GR := ok_isRound (P := l.prog) (w := w) (base := base) F_is_round B T (ok_isTable F_is_table B T F_rises B_rises G_rises F_M_guests B_M_guests ⟨a_M_guests, i_M_guests, k_M_guests⟩ F_M_size B_M_size ⟨a_M_size, i_M_size, k_M_size⟩) F_is_table B_is_table G_is_table F_rises B_rises G_rises F_M_tables B_M_tables ⟨a_M_tables, i_M_tables, k_M_tables⟩
  have GC := ok_checkOk (P := l.prog) (w := w) (base := base) F_check_plan B GR F_is_round B_is_round G_is_round
  have GCx := ok_checkBad (P := l.prog) (w := w) (base := base) F_check_plan B TB GR F_is_round B_is_round G_is_round
  have GSh := ok_shown (P := l.prog) (w := w) (base := base) F_shown_seats B F_kinds_at B_kinds_at G_kinds_at
  have GTo := ok_told (P := l.prog) (w := w) (base := base) F_told_apart B GSh F_shown_seats B_shown_seats G_shown_seats
  have GTn := ok_turnN (P := l.prog) (w := w) (base := base) F_turning_by_kinds B GTo F_told_apart B_told_apart G_told_apart B_turning_by_kinds G_turning_by_kinds F_set_apart B_set_apart G_set_apart 9
  have GAl := ok_alikeP (P := l.prog) (w := w) (base := base) F_alike B T GC F_check_plan B_check_plan G_check_plan F_M_guests B_M_guests ⟨a_M_guests, i_M_guests, k_M_guests⟩ F_moved B_moved G_moved GTn F_turning_by_kinds B_turning_by_kinds G_turning_by_kinds
  have GAX := ok_alikeX (P := l.prog) (w := w) (base := base) F_alike GCx GC F_check_plan B_check_plan G_check_plan
  have GRf := ok_refusedA (P := l.prog) (w := w) (base := base) F_L_refused TB te GAX F_alike B_alike G_alike
  have GPl := ok_plan (P := l.prog) (w := w) (base := base) F_L_plan B F_L_taken B_L_taken G_L_taken F_L_mixed B_L_mixed G_L_mixed F_L_seated B_L_seated G_L_seated F_L_thin B_L_thin G_L_thin F_L_new B_L_new G_L_new F_L_pairs B_L_pairs G_L_pairs F_L_known B_L_known G_L_known
  exact ok_law F_law B T ⟨mk, a_M_init, i_M_init, kc⟩ (ok_init F_M_init T F_is_party B_is_party G_is_party) B_M_init
    ⟨ok_few F_L_few B F_L_taken B_L_taken G_L_taken, k_L_few, B_L_few, G_L_few⟩ ⟨GPl, k_L_plan, B_L_plan, G_L_plan⟩ ⟨ok_mixed F_L_mixed B F_L_taken B_L_taken G_L_taken, k_L_mixed, B_L_mixed, G_L_mixed⟩ (ok_mixedR F_L_mixed B F_L_taken B_L_taken G_L_taken) ⟨ok_moved F_L_moved B, k_L_moved, B_L_moved, G_L_moved⟩
    ⟨ok_takes F_L_takes B F_L_moved B_L_moved G_L_moved, k_L_takes, B_L_takes, G_L_takes⟩ ⟨ok_some F_L_some B F_L_moved B_L_moved G_L_moved, k_L_some, B_L_some, G_L_some⟩ ⟨ok_changed F_L_changed B F_L_taken B_L_taken G_L_taken F_L_moved B_L_moved G_L_moved, k_L_changed, B_L_changed, G_L_changed⟩
    ⟨GRf, k_L_refused, B_L_refused, G_L_refused⟩ ⟨ok_full F_L_full B hsum, k_L_full, B_L_full, G_L_full⟩ ⟨GAl, k_alike, B_alike, G_alike⟩ ⟨ok_alike1 F_L_alike B, k_L_alike, B_L_alike, G_L_alike⟩
theorem walk {l : PySem.W.OpenLaw} {q : Program} {loose : List Str} {XP : (Str → Option Value) → Heap → Prop} {YP : World → Heap → Prop} {d : DefRec} {K : Params → PySem.W.Frag} (hn : l.most = some 63) (hdf : d.params.defaults = [])
    (hY : ∀ (w : World) (h : Heap), YP w h → (K w.params).In h)
    (F : ∀ (w : World) (mg : Str → Option Value) (fa : Addr) (h : Heap), (K w.params).In h → h.Ns mainGlobals mg → mg d.name = some (.ref fa) →
      ∃ fd : FuncData, (∀ (s : Shared) (u : Value), BindsTo s fd ⟨[u], []⟩ [("_law_script", u)]) ∧ ∀ base : Heap, (K w.params).In base → base.Ns mainGlobals mg → FnOk l.prog w (K w.params) mg base CX0 15 fa fd ["_law_script"] (spLaw (K w.params))) :
    PySem.W.WalkO q loose XP YP l.row.toRowW d [] (fun f vs => PySem.call f vs) :=
  L2.walk_of (n := 63) (k := 15) (x := "_law_script") (CX := fun _ => CX0) (sp := fun w => spLaw (K w.params)) hn (by decide) hdf ⟨rfl, by decide, by decide⟩ hY F (fun _ _ a ns hl _ hS => ⟨a, ns, rfl, hS, hl, fun _ => rfl⟩) fun _ _ _ _ _ z => z
end Nf

set_option Elab.async false
set_option maxRecDepth 100000
open PySem PySem.W PyProof.Rows in
set_option maxRecDepth 100000 in
set_option maxHeartbeats 0 in
theorem PySem.Challenge.cw_newfaces_k12_whole_alike_but_for_names_holds : PySem.Challenge.rw_newfaces_k12_whole_alike_but_for_names.Holds := by
  w_on; o_law; k_head; (case hw => w_witness2)
  k_fill
  refine Nf.walk (l := PySem.Challenge.rw_newfaces_k12_whole_alike_but_for_names) rfl rfl (fun w h Y => PySem.W.kIn_of Y) ?F
  case F =>
    intro w mg fa h KX G hmg
    refine' Nf.all_mk KX G hmg ?aC ?a_check_plan ?l_check_plan ?c_check_plan ?k_check_plan ?a_is_round ?l_is_round ?c_is_round ?k_is_round ?a_is_table ?l_is_table ?c_is_table ?k_is_table ?a_rises ?l_rises ?c_rises ?k_rises ?a_alike ?l_alike ?c_alike ?k_alike ?a_moved ?l_moved ?c_moved ?k_moved ?a_turning_by_kinds ?l_turning_by_kinds ?c_turning_by_kinds ?k_turning_by_kinds ?a_told_apart ?l_told_apart ?c_told_apart ?k_told_apart ?a_shown_seats ?l_shown_seats ?c_shown_seats ?k_shown_seats ?a_kinds_at ?l_kinds_at ?c_kinds_at ?k_kinds_at ?a_set_apart ?l_set_apart ?c_set_apart ?k_set_apart ?a_is_party ?l_is_party ?c_is_party ?k_is_party ?a_L_taken ?l_L_taken ?c_L_taken ?k_L_taken ?a_L_alike ?l_L_alike ?c_L_alike ?k_L_alike ?a_L_few ?l_L_few ?c_L_few ?k_L_few ?a_L_mixed ?l_L_mixed ?c_L_mixed ?k_L_mixed ?a_L_seated ?l_L_seated ?c_L_seated ?k_L_seated ?a_L_pairs ?l_L_pairs ?c_L_pairs ?k_L_pairs ?a_L_known ?l_L_known ?c_L_known ?k_L_known ?a_L_new ?l_L_new ?c_L_new ?k_L_new ?a_L_thin ?l_L_thin ?c_L_thin ?k_L_thin ?a_L_plan ?l_L_plan ?c_L_plan ?k_L_plan ?a_L_moved ?l_L_moved ?c_L_moved ?k_L_moved ?a_L_takes ?l_L_takes ?c_L_takes ?k_L_takes ?a_L_some ?l_L_some ?c_L_some ?k_L_some ?a_L_changed ?l_L_changed ?c_L_changed ?k_L_changed ?a_L_refused ?l_L_refused ?c_L_refused ?k_L_refused ?a_L_full ?l_L_full ?c_L_full ?k_L_full ?a_M_init ?i_M_init ?l_M_init ?c_M_init ?k_M_init ?a_M_guests ?i_M_guests ?l_M_guests ?c_M_guests ?k_M_guests ?a_M_size ?i_M_size ?l_M_size ?c_M_size ?k_M_size ?a_M_tables ?i_M_tables ?l_M_tables ?c_M_tables ?k_M_tables ?a_law ?l_law ?c_law ?k_law ?pg ?hd ?po ?sa ?mk ?kc ?nM ?nS ?zFG ?zMO ?zSS ?zLS ?b_len ?b_all ?b_zip ?b_set ?b_sorted ?b_enumerate ?b_list ?b_tuple ?b_range ?b_isinstance ?b_min ?b_max ?b_int ?b_bool ?b_str ?x_sum ?x_gB ?x_cls ?x_sa ?x_ga ?x_gg ?x_no ?x_iC ?x_tC ?x_kC ?x_exC ?x_veC ?x_tyC ?x_hdC ?x_sBB ?x_mro ?x_clsE ?x_fiE ?x_opq ?x_gS ?x_top ?x_f1 ?x_f2 ?x_f3 ?x_f4 ?x_f5 ?x_f6
    (case aC => k_is)
    (case a_check_plan => k_is)
    (case l_check_plan => k_is)
    (case c_check_plan => k_is)
    (case k_check_plan => k_is)
    (case a_is_round => k_is)
    (case l_is_round => k_is)
    (case c_is_round => k_is)
    (case k_is_round => k_is)
    (case a_is_table => k_is)
    (case l_is_table => k_is)
    (case c_is_table => k_is)
    (case k_is_table => k_is)
    (case a_rises => k_is)
    (case l_rises => k_is)
    (case c_rises => k_is)
    (case k_rises => k_is)
    (case a_alike => k_is)
    (case l_alike => k_is)
    (case c_alike => k_is)
    (case k_alike => k_is)
    (case a_moved => k_is)
    (case l_moved => k_is)
    (case c_moved => k_is)
    (case k_moved => k_is)
    (case a_turning_by_kinds => k_is)
    (case l_turning_by_kinds => k_is)
    (case c_turning_by_kinds => k_is)
    (case k_turning_by_kinds => k_is)
    (case a_told_apart => k_is)
    (case l_told_apart => k_is)
    (case c_told_apart => k_is)
    (case k_told_apart => k_is)
    (case a_shown_seats => k_is)
    (case l_shown_seats => k_is)
    (case c_shown_seats => k_is)
    (case k_shown_seats => k_is)
    (case a_kinds_at => k_is)
    (case l_kinds_at => k_is)
    (case c_kinds_at => k_is)
    (case k_kinds_at => k_is)
    (case a_set_apart => k_is)
    (case l_set_apart => k_is)
    (case c_set_apart => k_is)
    (case k_set_apart => k_is)
    (case a_is_party => k_is)
    (case l_is_party => k_is)
    (case c_is_party => k_is)
    (case k_is_party => k_is)
    (case a_L_taken => k_is)
    (case l_L_taken => k_is)
    (case c_L_taken => k_is)
    (case k_L_taken => k_is)
    (case a_L_alike => k_is)
    (case l_L_alike => k_is)
    (case c_L_alike => k_is)
    (case k_L_alike => k_is)
    (case a_L_few => k_is)
    (case l_L_few => k_is)
    (case c_L_few => k_is)
    (case k_L_few => k_is)
    (case a_L_mixed => k_is)
    (case l_L_mixed => k_is)
    (case c_L_mixed => k_is)
    (case k_L_mixed => k_is)
    (case a_L_seated => k_is)
    (case l_L_seated => k_is)
    (case c_L_seated => k_is)
    (case k_L_seated => k_is)
    (case a_L_pairs => k_is)
    (case l_L_pairs => k_is)
    (case c_L_pairs => k_is)
    (case k_L_pairs => k_is)
    (case a_L_known => k_is)
    (case l_L_known => k_is)
    (case c_L_known => k_is)
    (case k_L_known => k_is)
    (case a_L_new => k_is)
    (case l_L_new => k_is)
    (case c_L_new => k_is)
    (case k_L_new => k_is)
    (case a_L_thin => k_is)
    (case l_L_thin => k_is)
    (case c_L_thin => k_is)
    (case k_L_thin => k_is)
    (case a_L_plan => k_is)
    (case l_L_plan => k_is)
    (case c_L_plan => k_is)
    (case k_L_plan => k_is)
    (case a_L_moved => k_is)
    (case l_L_moved => k_is)
    (case c_L_moved => k_is)
    (case k_L_moved => k_is)
    (case a_L_takes => k_is)
    (case l_L_takes => k_is)
    (case c_L_takes => k_is)
    (case k_L_takes => k_is)
    (case a_L_some => k_is)
    (case l_L_some => k_is)
    (case c_L_some => k_is)
    (case k_L_some => k_is)
    (case a_L_changed => k_is)
    (case l_L_changed => k_is)
    (case c_L_changed => k_is)
    (case k_L_changed => k_is)
    (case a_L_refused => k_is)
    (case l_L_refused => k_is)
    (case c_L_refused => k_is)
    (case k_L_refused => k_is)
    (case a_L_full => k_is)
    (case l_L_full => k_is)
    (case c_L_full => k_is)
    (case k_L_full => k_is)
    (case a_M_init => k_is)
    (case i_M_init => k_is)
    (case l_M_init => k_is)
    (case c_M_init => k_is)
    (case k_M_init => k_is)
    (case a_M_guests => k_is)
    (case i_M_guests => k_is)
    (case l_M_guests => k_is)
    (case c_M_guests => k_is)
    (case k_M_guests => k_is)
    (case a_M_size => k_is)
    (case i_M_size => k_is)
    (case l_M_size => k_is)
    (case c_M_size => k_is)
    (case k_M_size => k_is)
    (case a_M_tables => k_is)
    (case i_M_tables => k_is)
    (case l_M_tables => k_is)
    (case c_M_tables => k_is)
    (case k_M_tables => k_is)
    (case a_law => k_is)
    (case l_law => k_is)
    (case c_law => k_is)
    (case k_law => k_is)
    (case pg => k_is)
    (case hd => k_is)
    (case po => k_is)
    (case sa => k_is)
    (case mk => k_is)
    (case kc => k_is)
    (case nM => k_is)
    (case nS => k_is)
    (case zFG => exact ⟨_, by k_is⟩)
    (case zMO => exact ⟨_, by k_is⟩)
    (case zSS => exact ⟨_, by k_is⟩)
    (case zLS => exact ⟨_, by k_is⟩)
    (case b_len => k_is)
    (case b_all => k_is)
    (case b_zip => k_is)
    (case b_set => k_is)
    (case b_sorted => k_is)
    (case b_enumerate => k_is)
    (case b_list => k_is)
    (case b_tuple => k_is)
    (case b_range => k_is)
    (case b_isinstance => k_is)
    (case b_min => k_is)
    (case b_max => k_is)
    (case b_int => k_is)
    (case b_bool => k_is)
    (case b_str => k_is)
    (case x_sum => k_is)
    (case x_gB => k_is)
    (case x_cls => k_is)
    (case x_sa => k_is)
    (case x_ga => k_is)
    (case x_gg => k_is)
    (case x_no => k_is)
    (case x_iC => k_is)
    (case x_tC => k_is)
    (case x_kC => k_is)
    (case x_exC => k_is)
    (case x_veC => k_is)
    (case x_tyC => k_is)
    (case x_hdC => k_is)
    (case x_sBB => first | rfl | k_is)
    (case x_mro => k_is)
    (case x_clsE => k_is)
    (case x_fiE => k_is)
    (case x_opq => first | k_is | rfl)
    (case x_gS => k_is)
    (case x_top => first | rfl | decide +kernel)
    (case x_f1 => k_is)
    (case x_f2 => k_is)
    (case x_f3 => k_is)
    (case x_f4 => k_is)
    (case x_f5 => first | rfl | decide +kernel | k_is)
    (case x_f6 => first | rfl | decide +kernel)

