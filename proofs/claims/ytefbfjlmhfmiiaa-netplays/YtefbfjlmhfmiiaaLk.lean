/-
  Link; a network made anew.
-/
import Derived.Test.YtefbfjlmhfmiiaaNt
namespace Go.Proofs.Ytefbfjlmhfmiiaa
open Go.RowKit
set_option linter.unusedVariables false

/-- Behind Link. -/
def linkL (L : List Bool) (a b : Int) (u : Bool) : List Bool := (L.set (8 * a.toNat + b.toNat) u).set (8 * b.toNat + a.toNat) u
def PN.link (P : PN) (a b : Int) (u : Bool) : PN := if P.two a b = true then { P with L := linkL P.L a b u } else P
theorem PN.link_k (P : PN) (a b : Int) (u : Bool) : (P.link a b u).k = P.k := by unfold PN.link; split <;> rfl
theorem PN.link_E (P : PN) (a b : Int) (u : Bool) : (P.link a b u).E = P.E := by unfold PN.link; split <;> rfl
theorem PN.link_n (P : PN) (a b : Int) (u : Bool) : (P.link a b u).n = P.n := by unfold PN.link; split <;> rfl

theorem linkL_len (L : List Bool) (a b : Int) (u : Bool) : (linkL L a b u).length = L.length := by simp [linkL]
theorem linkL_get (L : List Bool) (h : L.length = 64) {i j p q : Nat} (hi : i < 8) (hj : j < 8) (hp : p < 8) (hq : q < 8) (u : Bool) :
    (linkL L (i : Int) (j : Int) u).getD (8 * p + q) false = if (p = i ∧ q = j) ∨ (p = j ∧ q = i) then u else L.getD (8 * p + q) false := by
  unfold linkL
  simp only [Int.toNat_natCast, List.getD_eq_getElem?_getD, List.getElem?_set, List.length_set, h]
  by_cases h1 : 8 * j + i = 8 * p + q
  · have e1 : p = j := by omega
    have e2 : q = i := by omega
    subst e1; subst e2
    rw [if_pos rfl, if_pos (by omega), if_pos (by simp)]; rfl
  · rw [if_neg h1]
    by_cases h2 : 8 * i + j = 8 * p + q
    · have e1 : p = i := by omega
      have e2 : q = j := by omega
      subst e1; subst e2
      rw [if_pos rfl, if_pos (by omega), if_pos (by simp)]; rfl
    · rw [if_neg h2, if_neg (by omega)]

theorem PN.link_ok {P : PN} (h : P.Ok) (a b : Int) (u : Bool) : (P.link a b u).Ok := by
  unfold PN.link
  by_cases ht : P.two a b = true
  · rw [if_pos ht]
    obtain ⟨a1, a2, b1, b2, hne⟩ := PN.two_of h ht
    obtain ⟨i, rfl⟩ : ∃ i : Nat, a = (i : Int) := ⟨a.toNat, by omega⟩
    obtain ⟨j, rfl⟩ : ∃ j : Nat, b = (j : Int) := ⟨b.toNat, by omega⟩
    refine ⟨h.n1, h.n7, by rw [linkL_len]; exact h.len, fun p q hp hq => ?_, h.row, h.k0, h.dl⟩
    show (linkL P.L (i : Int) (j : Int) u).getD _ false = (linkL P.L (i : Int) (j : Int) u).getD _ false
    rw [linkL_get _ h.len (by omega) (by omega) hp hq, linkL_get _ h.len (by omega) (by omega) hq hp, h.sym p q hp hq]
    by_cases e : (p = i ∧ q = j) ∨ (p = j ∧ q = i)
    · rw [if_pos e, if_pos (by omega)]
    · rw [if_neg e, if_neg (by omega)]
  · rw [if_neg ht]; exact h

set_option maxRecDepth 100000 in
set_option maxHeartbeats 4000000 in
/-- Link. -/
theorem Link_any {N : Nat} {S : Nat → Prop} {w : World} {b : Nat} {P : PN} (h : Nt N S w b P) (hN : N ≤ w.heap.size) (x y : Int) (u : Bool) :
    Calls Try.prog 23 #[.pointer (some ⟨b, 0, none⟩), .int .i64 x, .int .i64 y, .bool u] w fun e w' => e = .returned (.bool (P.two x y)) ∧ NTh N S w w' b (P.link x y u) ∧ w'.heap.size = w.heap.size := by
  have HT : Hid (Calls _ _ _ _ _) := two_any h x y
  by_cases ht : P.two x y = true
  · obtain ⟨v, es, hm, hv, hd⟩ := h.at_
    obtain ⟨-, cl, -, -, cf⟩ := cell_net hm.blk h.ok.len
    have hbw := h.inn _ h.Sb
    obtain ⟨a1, a2, b1, b2, hne⟩ := PN.two_of h.ok ht
    obtain ⟨i, rfl⟩ : ∃ i : Nat, x = (i : Int) := ⟨x.toNat, by omega⟩
    obtain ⟨j, rfl⟩ : ∃ j : Nat, y = (j : Int) := ⟨y.toNat, by omega⟩
    have hij : ¬ i = j := by omega
    have key : ∀ (A B : Nat) (w0 : World), w0.heap = w.heap → w0.os = w.os → w0.tape = w.tape → w0.output = w.output → ((A = 8 * i + j ∧ B = 8 * j + i) ∨ (A = 8 * j + i ∧ B = 8 * i + j)) → NTh N S w ((w0.setCell ⟨b, 1 + A, none⟩ (.bool u)).setCell ⟨b, 1 + B, none⟩ (.bool u)) b (P.link (i : Int) (j : Int) u) := by
      intro A B w0 e1 e2 e3 e4 hAB
      have hb0 : w0.heap[b]? = some (.cells (netCells P.n P.L v P.k) 57 (0, 0)) := by rw [e1]; exact hm.blk
      have hO : Out (fun q => q = b) w ((w0.setCell ⟨b, 1 + A, none⟩ (.bool u)).setCell ⟨b, 1 + B, none⟩ (.bool u)) := by
        have h0 : Out (fun q => q = b) w w0 := ⟨e2, e3, e4, by rw [e1]; exact Nat.le_refl _, fun q _ _ => by rw [e1]⟩
        exact (h0.put rfl).put rfl
      have hb1 := heap_set (heap_set hb0 (1 + A) (.bool u)) (1 + B) (.bool u)
      rw [netCells_setLink _ _ _ _ h.ok.len (by omega), netCells_setLink _ _ _ _ (by simpa using h.ok.len) (by omega)] at hb1
      refine h.turn hN (hO.mono (fun q hq => by rw [hq]; exact h.Sb)) v es ⟨?_, ?_, ?_, hm.apt⟩ (fun g hg => .inl (hv g hg)) (fun e he g hg => .inl (hd e he g hg)) (PN.link_ok h.ok _ _ _)
      · rw [PN.link_n, PN.link_k, hb1]
        have : (P.link (i : Int) (j : Int) u).L = (P.L.set A u).set B u := by
          unfold PN.link
          rw [if_pos ht]
          show linkL _ _ _ _ = _
          unfold linkL
          simp only [Int.toNat_natCast]
          rcases hAB with ⟨rfl, rfl⟩ | ⟨rfl, rfl⟩
          · rfl
          · exact List.set_comm _ _ (by omega)
        rw [this]
      · refine hm.row.out hO ?_ ?_
        · rintro g hg rfl; exact hm.row.not_at hm.blk (by decide) hg
        · rintro e he g hg rfl; exact (hm.row.dat e he).not_at hm.blk (by decide) hg
      · rw [PN.link_E]; exact hm.says
    have HK1 : Hid (NTh N S w ((w.setCell ⟨b, 1 + i * 8 + j, none⟩ (.bool u)).setCell ⟨b, 1 + j * 8 + i, none⟩ (.bool u)) b (P.link (i : Int) (j : Int) u)) := by
      show NTh _ _ _ _ _ _
      have := key (8 * i + j) (8 * j + i) w rfl rfl rfl rfl (.inl ⟨rfl, rfl⟩)
      rw [show 1 + i * 8 + j = 1 + (8 * i + j) by omega, show 1 + j * 8 + i = 1 + (8 * j + i) by omega]
      exact this
    have c1 := cl (8 * i + j) (by omega)
    have c2 := cl (8 * j + i) (by omega)
    have f1 := cf (1 + i * 8 + j)
    have f2 := cf (1 + j * 8 + i)
    rw [show 1 + (8 * i + j) = 1 + i * 8 + j by omega] at c1
    rw [show 1 + (8 * j + i) = 1 + j * 8 + i by omega] at c2
    generalize P.L.getD (8 * i + j) false = u1 at *
    generalize P.L.getD (8 * j + i) false = u2 at *
    rw [ht] at HT ⊢
    have i1 : (i : Int) < 8 := by omega
    have j1 : (j : Int) < 8 := by omega
    have i0 : (0 : Int) ≤ (i : Int) := by omega
    have j0 : (0 : Int) ≤ (j : Int) := by omega
    have hd1 : ¬ (1 + i * 8 + j = 1 + j * 8 + i) := by omega
    have hd2 : ¬ (1 + j * 8 + i = 1 + i * 8 + j) := by omega
    clear h hm cl cf ht hne a1 a2 b1 b2 key hv hd hij
    go_enter Try.func23, Try.ntmps23
    go_wp2_with fail
    refine HT.out.mono ?_
    rintro e w1 ⟨rfl, hw⟩
    subst w1
    go_wp2_with fail
    go_region_held3 (fun _ => True) (go_keep) (fail)
    go_wp2
    go_ret
    exact ⟨rfl, HK1.out.drew, by simp [World.setCell]⟩
  · have ht' : P.two x y = false := by simpa using ht
    have HL : Hid (P.link x y u = P) := by show _ = _; unfold PN.link; rw [if_neg ht]
    rw [ht'] at HT ⊢
    have HN : Hid (NTh N S w w b (P.link x y u)) := by show NTh _ _ _ _ _ _; rw [HL.out]; exact h.th hN (Below.refl _ _)
    clear h ht ht'
    go_enter Try.func23, Try.ntmps23
    go_wp2_with fail
    refine HT.out.mono ?_
    rintro e w1 ⟨rfl, hw⟩
    subst w1
    go_wp2
    go_ret
    exact ⟨rfl, HN.out, rfl⟩

/-- A new one. -/
def newN (n : Int) (L : List Bool) : PN := ⟨n, L, [], 0⟩
def L0 : List Bool := List.replicate 64 false
/-- Links of the nodes up to b - 1, and of b with those up to a - 1. -/
def LinksTo (b a : Nat) (L : List Bool) : Prop := L.length = 64 ∧ ∀ i j, i < 8 → j < 8 → L.getD (8 * i + j) false = decide (1 ≤ i ∧ 1 ≤ j ∧ i ≠ j ∧ ((i < b ∧ j < b) ∨ (i = b ∧ j < a) ∨ (j = b ∧ i < a)))
theorem LinksTo.start : LinksTo 1 1 L0 := by
  refine ⟨rfl, fun i j hi hj => ?_⟩
  have e : L0.getD (8 * i + j) false = false := by
    unfold L0
    rw [List.getD_eq_getElem?_getD, List.getElem?_replicate]
    split <;> rfl
  rw [e]
  symm
  simp
  omega
theorem LinksTo.ok {n : Int} {b a : Nat} {L : List Bool} (h : LinksTo b a L) (n1 : 1 ≤ n) (n7 : n ≤ 7) : (newN n L).Ok := by
  refine ⟨n1, n7, h.1, fun i j hi hj => ?_, by simp [newN], by simp [newN], by simp [newN]⟩
  show L.getD _ false = L.getD _ false
  rw [h.2 i j hi hj, h.2 j i hj hi]
  congr 1
  apply propext
  constructor <;> (intro h'; omega)
theorem LinksTo.link {n : Int} {b a : Nat} {L : List Bool} (h : LinksTo b a L) (n1 : 1 ≤ n) (n7 : n ≤ 7) (ha : 1 ≤ a) (hab : a < b) (hb : (b : Int) ≤ n) : ∃ L', (newN n L).link (a : Int) (b : Int) true = newN n L' ∧ LinksTo b (a + 1) L' := by
  refine ⟨linkL L a b true, ?_, by rw [linkL_len]; exact h.1, fun i j hi hj => ?_⟩
  · unfold PN.link
    have hne : (a : Int) ≠ (b : Int) := by omega
    rw [if_pos (by simp only [PN.two, PN.has, newN, Bool.and_eq_true, decide_eq_true_eq, bne_iff_ne]; exact ⟨⟨⟨by omega, decide_eq_true (by omega)⟩, ⟨by omega, decide_eq_true (by omega)⟩⟩, hne⟩)]
    rfl
  · rw [linkL_get L h.1 (by omega) (by omega) hi hj, h.2 i j hi hj]
    by_cases e : (i = a ∧ j = b) ∨ (i = b ∧ j = a)
    · rw [if_pos e]
      symm
      simp
      omega
    · rw [if_neg e]
      congr 1
      apply propext
      constructor <;> (intro h'; omega)
theorem LinksTo.next {b : Nat} {L : List Bool} (h : LinksTo b b L) : LinksTo (b + 1) 1 L := by
  refine ⟨h.1, fun i j hi hj => ?_⟩
  rw [h.2 i j hi hj]
  congr 1
  apply propext
  constructor <;> (intro h'; omega)

/-- All are linked. -/
def LA (n : Int) (L : List Bool) : Prop := ∀ i j, i < 8 → j < 8 → L.getD (8 * i + j) false = decide (1 ≤ i ∧ 1 ≤ j ∧ i ≠ j ∧ (i : Int) ≤ n ∧ (j : Int) ≤ n)
theorem LinksTo.all {n : Int} {b : Nat} {L : List Bool} (h : LinksTo b 1 L) (hb : (b : Int) = n + 1) : LA n L := fun i j hi hj => by
  rw [h.2 i j hi hj]
  congr 1
  apply propext
  constructor <;> (intro h'; omega)

theorem newCells (n : Int) (w : World) : (w.alloc (.cells (netCells n L0 (.slice none 0 0) 0) 57)).heap[w.heap.size]? = some (.cells (netCells n L0 (.slice none 0 0) 0) 57 (0, 0)) := heap_alloc_new w _

theorem Nt.made {n : Int} (n1 : 1 ≤ n) (n7 : n ≤ 7) (w : World) : Nt w.heap.size (fun i => i = w.heap.size) (w.alloc (.cells (netCells n L0 (.slice none 0 0) 0) 57)) w.heap.size (newN n L0) :=
  ⟨⟨.slice none 0 0, [], ⟨newCells n w, MlsOw.nil _ _ _, rfl, List.Pairwise.nil⟩, by simp [Value.ownBlock], by simp⟩, LinksTo.start.ok n1 n7, rfl, fun i hi => by simp [hi], fun i hi => by omega⟩

theorem zeroNet (w : World) : (zeroValue 57).run Try.prog w = .ok (.agg (netCells 0 L0 (.slice none 0 0) 0)) w := by kernel_rfl
set_option maxRecDepth 100000 in
set_option maxHeartbeats 4000000 in
/-- New, of too few or too many. -/
theorem New_no (n : Int) (hn : ¬ (1 ≤ n ∧ n ≤ 7)) (w : World) : Calls Try.prog 9 #[.int .i64 n] w fun e w' => e = .returned (.pointer none) ∧ w' = w := by
  by_cases h1 : n < 1
  · go_enter Try.func9, Try.ntmps9
    go_wp2
    go_ret
    exact ⟨rfl, rfl⟩
  · have h2 : 7 < n := by omega
    go_enter Try.func9, Try.ntmps9
    go_wp2
    go_ret
    exact ⟨rfl, rfl⟩

set_option maxRecDepth 100000 in
set_option maxHeartbeats 4000000 in
/-- New. -/
theorem New_any (n : Int) (n1 : 1 ≤ n) (n7 : n ≤ 7) (w : World) : Calls Try.prog 9 #[.int .i64 n] w fun e w' => ∃ b S L, e = .returned (.pointer (some ⟨b, 0, none⟩)) ∧ Nt w.heap.size S w' b (newN n L) ∧ LA n L ∧ Below w.heap.size w w' := by
  have h1' : ¬ n < 1 := by omega
  have h2' : ¬ 7 < n := by omega
  obtain ⟨W1, hW1⟩ : ∃ W1, w.alloc (.cells (netCells n L0 (.slice none 0 0) 0) 57) = W1 := ⟨_, rfl⟩
  have HM : Hid (Nt w.heap.size (fun i => i = w.heap.size) W1 w.heap.size (newN n L0)) := by show Nt _ _ _ _ _; rw [← hW1]; exact Nt.made n1 n7 w
  have HB1 : Hid (Below w.heap.size w W1) := by show Below _ _ _; rw [← hW1]; exact (Below.refl _ w).alloc (Nat.le_refl _) _
  have hz0 : ∀ W : World, (zeroValue 57).run Try.prog W = .ok (.agg (netCells 0 L0 (.slice none 0 0) 0)) W := zeroNet
  have hz1 : (netCells 0 L0 (.slice none 0 0) 0 = #[]) = False := by simp [netCells]
  have hz2 : (netCells 0 L0 (.slice none 0 0) 0).setIfInBounds 0 (.int .i64 n) = netCells n L0 (.slice none 0 0) 0 := by simp [netCells]
  have HZ1 : Hid (W1.heap.size = w.heap.size + 1) := by show _ = _; rw [← hW1]; simp
  go_enter Try.func9, Try.ntmps9
  go_wp2_with fail
  clear hW1 hz0 hz1 hz2
  obtain ⟨G, hG⟩ : ∃ G, w.heap.size = G := ⟨_, rfl⟩
  have HG : Hid (w.heap.size = G) := hG
  rw [hG] at HM HB1 HZ1 ⊢
  clear hG
  go_loopw [4] (fun bv wr => ∃ (b : Nat) (L : List Bool), bv = .int .i64 (b : Int) ∧ 1 ≤ b ∧ (b : Int) ≤ n + 1 ∧ LinksTo b 1 L ∧ Nt G (fun i => i = G) wr G (newN n L) ∧ Below G w wr) (fun bv _ => 9 - (intOf bv).toNat)
  case atStart => exact ⟨1, L0, rfl, Nat.le_refl _, by omega, LinksTo.start, HM.out, HB1.out⟩
  case round =>
    obtain ⟨b, L, rfl, hb1, hbn, hL, hNt, hB⟩ := hrel
    have HL : Hid (LinksTo b 1 L) := hL
    have HNt : Hid (Nt G (fun i => i = G) wr G (newN n L)) := hNt
    have HB : Hid (Below G w wr) := hB
    clear hL hNt hB
    by_cases hlt : (b : Int) ≤ n
    · generalize wr = wq at *
      go_wp2_with fail
      go_loopw [5] (fun av wr => ∃ (a : Nat) (L : List Bool), av = .int .i64 (a : Int) ∧ 1 ≤ a ∧ a ≤ b ∧ LinksTo b a L ∧ Nt G (fun i => i = G) wr G (newN n L) ∧ Below G w wr) (fun av _ => 9 - (intOf av).toNat)
      case atStart => exact ⟨1, L, rfl, Nat.le_refl _, hb1, HL.out, HNt.out, HB.out⟩
      case round =>
        obtain ⟨a, L2, rfl, ha1, hab, hL, hNt, hB⟩ := hrel
        by_cases hal : a < b
        · obtain ⟨L3, e3, h3⟩ := hL.link n1 n7 ha1 hal hlt
          have hN2 : G ≤ wr.heap.size := by have := hB.size; have := HG.out; omega
          have HC := Link_any hNt hN2 (a : Int) (b : Int) true
          rw [e3] at HC
          have HCC : Hid (Calls _ _ _ _ _) := HC
          have H3 : Hid (LinksTo b (a + 1) L3) := h3
          have HB2 : Hid (Below G w wr) := hB
          have hal' : (a : Int) < (b : Int) := by omega
          clear HC h3 hB hNt hL e3
          go_wp2_with fail
          refine HCC.out.mono ?_
          rintro e w2 ⟨rfl, hT, hz⟩
          have HT : Hid (Nt G (fun i => i = G) w2 G (newN n L3)) := hT.same hz
          have HB3 : Hid (Below G w w2) := HB2.out.trans (hT.bel hN2)
          clear hT hz
          go_wp2
          exact ⟨⟨a + 1, L3, by go_num, by omega, by omega, H3.out, HT.out, HB3.out⟩, by simp [intOf]; omega⟩
        · have hae : a = b := by omega
          subst hae
          have H3 : Hid (LinksTo (a + 1) 1 L2) := hL.next
          have HT : Hid (Nt G (fun i => i = G) wr G (newN n L2)) := hNt
          have HB3 : Hid (Below G w wr) := hB
          clear hL hNt hB hal HL HNt HB
          go_wp2
          exact ⟨⟨a + 1, L2, by go_num, by omega, by omega, H3.out, HT.out, HB3.out⟩, by simp [intOf]; omega⟩
    · have hbe : (b : Int) = n + 1 := by omega
      have HLA : Hid (LA n L) := HL.out.all hbe
      have hlt' : ¬ (b : Int) ≤ n := hlt
      clear HL hbe hbn
      go_wp2
      go_ret
      exact ⟨G, rfl, _, L, by rw [HG.out]; exact HNt.out, HLA.out, by rw [HG.out]; exact HB.out⟩
end Go.Proofs.Ytefbfjlmhfmiiaa
