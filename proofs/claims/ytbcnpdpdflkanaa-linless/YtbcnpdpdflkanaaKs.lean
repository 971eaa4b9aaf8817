/-
  The keys of the operations that count.
-/
import Derived.Test.YtbcnpdpdflkanaaHs
import Derived.Test.YtbcnpdpdflkanaaLy
import Derived.Maps.Ext
import Derived.Shelf.SlIter.Nil
import Derived.Shelf.SortM.Plain
import Derived.Shelf.SortM.SortNone
namespace Go.Proofs.Ytbcnpdpdflkanaa
open Go.RowKit Go.Maps Go.Sort Go.Shelf

/-- slices.Sort's two contracts, at the fence that asks nothing. -/
theorem sortsA (m : Nat) : AnyZ.SortsIn Try.prog Try.sortedA_ren Fence.wide m :=
  ⟨fun blk off cap ss W hH hblk hsz => callsIn_wide.2 (AnyM.slices_Sort_string Try.sortA blk off cap ss W hH hblk hsz),
   fun p cap W => callsIn_wide.2 (AnyM.slices_Sort_string_none Try.sortA p cap W)⟩

/-- The keys of those that count, rising. -/
structure KeysOk (h : List Lo) (ks : List Bs) : Prop where
  nodup : ks.Nodup
  rising : ks.Pairwise (fun x y => leB x y = true)
  mem : ∀ k, k ∈ ks ↔ ∃ i, i < h.length ∧ mine h k i = true

theorem cntK_pos {h : List Lo} {i : Nat} {k : Bs} : 0 < cntK h i k ↔ ∃ j, j < i ∧ mine h k j = true := by
  unfold cntK
  rw [List.length_pos_iff_exists_mem]
  constructor
  · rintro ⟨j, hj⟩
    obtain ⟨h1, h2⟩ := List.mem_filter.1 hj
    exact ⟨j, List.mem_range.1 h1, h2⟩
  · rintro ⟨j, h1, h2⟩
    exact ⟨j, List.mem_filter.2 ⟨List.mem_range.2 h1, h2⟩⟩

theorem keys_of {w : World} {b n : Nat} {D : DataW Unit} {R : Value → Option (DataW Unit × List MemPlace)} (hown : w.ownsMap Try.prog 9 R b n D) {h : List Lo} (hC : Cnt (cntK h h.length) D) {ss : List Bs} (hp : ss.Perm (strKeys D)) : KeysOk h (ss.mergeSort leB) := by
  have hperm : (ss.mergeSort leB).Perm (strKeys D) := (List.mergeSort_perm ss leB).trans hp
  obtain ⟨es, rfl, hes⟩ := hown.keysOf
  have hstr : ∀ p ∈ es, ∃ x, p.1 = .string x := fun p hp' => by
    obtain ⟨v, hv⟩ := hes p hp'
    obtain ⟨x, _, hx, _⟩ := Maps.keyOf_str Try.underlying9 hv
    exact ⟨x, hx⟩
  have hmem : ∀ k, k ∈ strKeys (.map es : DataW Unit) ↔ Maps.has (.map es : DataW Unit) (.string k) = true := by
    intro k
    simp only [strKeys, Maps.has_eq, List.mem_map, List.any_eq_true]
    constructor
    · rintro ⟨p, hp', rfl⟩
      obtain ⟨x, hx⟩ := hstr p hp'
      refine ⟨p, hp', ?_⟩
      rw [hx]; exact WideAt.sameKey_self (isKey_str x)
    · rintro ⟨p, hp', hs⟩
      obtain ⟨x, hx⟩ := hstr p hp'
      refine ⟨p, hp', ?_⟩
      rw [hx] at hs ⊢
      have := WideAt.sameKey_eq hs
      simpa [strOf] using this
  have hcan := hown.canon (Maps.string_keyed Try.underlying9)
  refine ⟨?_, ?_, fun k => ?_⟩
  · refine hperm.nodup_iff.2 ?_
    obtain ⟨es', he, hr, -⟩ := hcan
    cases he
    unfold strKeys List.Nodup
    rw [List.pairwise_map]
    refine (Maps.apart_of_rising hr).imp_of_mem ?_
    intro p q hp' hq' hne e
    obtain ⟨x, hx⟩ := hstr p hp'
    obtain ⟨y, hy⟩ := hstr q hq'
    rw [hx, hy] at hne e
    exact hne (by simpa [strOf] using e)
  · exact List.pairwise_mergeSort (le := leB) (fun a b c h1 h2 => by simp [leB] at *; exact List.le_trans h1 h2) (fun a b => by simp [leB]; exact List.le_total a b) ss
  · rw [hperm.mem_iff, hmem, hC.has, decide_eq_true_eq, cntK_pos]

set_option maxRecDepth 100000 in
set_option maxHeartbeats 1000000 in
theorem keys_any (N : Nat) (w : World) (a : Option Addr) (cap : Nat) (h : List Lo) (hN : N ≤ w.heap.size) (hA : HAt N w a h) (hok : ∀ x ∈ h, LoOk x) (hl : h.length ≤ 1000) :
    Calls Try.prog 13 #[.slice a h.length cap] w fun e w' => ∃ v ks, e = .returned v ∧ KeysOk h ks ∧ w'.ownsRow w.heap.size 9 1 v ks.length (ks.map encStr) ∧ Below w.heap.size w w' := by
  go_enter Try.func13, Try.ntmps13
  go_wp2_with fail
  refine (counted_any N w a cap h hN hA hok hl).mono ?_
  rintro e w1 ⟨b, D, rfl, hM, hC, hb, hB⟩
  have hbl := hM.lt
  have hz := hM.size_le
  have hseq : SeqGives Fence.wide 2 Try.prog 42 #[.pointer (some ⟨w1.heap.size, 0, none⟩)] encStr (fun ss => ss.Perm (strKeys D)) (Maps.size D) (w1.alloc (.cells #[.map (some b)] 52)) :=
    AnyZ.keys_gives (ρ := Try.keysA_ren) { Try.keysA with } Fence.wide _ trivial rfl (by omega) w1.heap.size b h.length D _ (by simp) (by simp) (by
      obtain ⟨es, clock, hb', Ft, hs, hD⟩ := hM
      exact ⟨es, clock, (Below.heap_alloc _ _ b hbl).trans hb', Ft, hs, hD⟩)
  have cK : ∀ mb W, CallsIn Fence.wide 5 Try.prog 32 #[.map mb] W fun e w' => e = .returned (.func (.func 42) #[] #[.pointer (some ⟨W.heap.size, 0, none⟩)]) ∧ w' = W.alloc (.cells #[.map mb] 52) := fun mb W => AnyZ.keys_in Try.keysA Fence.wide 5 trivial rfl mb W
  have cS := AnyZ.sorted_in Try.sortedA Fence.wide 5 trivial trivial trivial trivial rfl (by omega) (sortsA _) (enters_of Try.func41 (by kernel_rfl) rfl) 42 #[.pointer (some ⟨w1.heap.size, 0, none⟩)] trivial (enters_of Try.func42 (by kernel_rfl) rfl) _ _ (by unfold maxLen; omega) (by omega) _ hseq
  change CallsIn _ _ Try.prog 31 _ _ _ at cS
  have cK' := fun mb W => (callsIn_wide (n := 5)).1 (cK mb W)
  have cS' := (callsIn_wide (n := 5)).1 cS
  go_wp2_with (first
    | (go_at_call 32; refine (cK' _ _).mono ?_; rintro e w' ⟨rfl, rfl⟩)
    | (go_at_call 31; refine cS'.mono ?_; rintro e w' ⟨v, ss, rfl, hS, hrow, hnil, hb'⟩))
  go_ret
  have hlen : (ss.mergeSort leB).length = ss.length := by simp
  refine ⟨v, ss.mergeSort leB, rfl, keys_of hM hC hS, ?_, hB.trans ((((Below.refl _ w1).alloc (Nat.le_refl _) _).trans (hb'.mono (by simp))).mono hB.size)⟩
  rw [hlen]
  exact ownsRow_base_a hrow (by have := hB.size; simp; omega)
end Go.Proofs.Ytbcnpdpdflkanaa
