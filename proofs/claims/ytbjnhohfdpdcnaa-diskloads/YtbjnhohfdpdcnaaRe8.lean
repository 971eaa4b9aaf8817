/-
  What is lent, and kept.
-/
import Derived.Test.YtbjnhohfdpdcnaaRe7
namespace Go.Proofs.Ytbjnhohfdpdcnaa
open Go.RowKit Go.Shelf
set_option linter.unusedVariables false

set_option maxRecDepth 100000 in
set_option maxHeartbeats 4000000 in
theorem lent_any (M : Nat) (a : Option Addr) (c : Nat) (b : List UInt8) (w : World) (hv : Sl M w (.slice a b.length c) b) (hM : M ≤ w.heap.size) (hl : b.length ≤ 16777300) : Calls Try.prog 33 #[.slice a b.length c] w fun e w' => ∃ g cap, e = .returned (.slice (some ⟨g, 0, none⟩) b.length cap) ∧ Ow w.heap.size w' (.slice (some ⟨g, 0, none⟩) (b.length + 1) cap) (b ++ [201]) ∧ Below w.heap.size w w' := by
  have hby := bytes_any M _ b w hv hM (by omega)
  clear hv
  go_enter Try.func33, Try.ntmps33
  go_wp2_with (first
    | (go_at_call 49; refine hby.mono ?_; rintro e w1 ⟨v1, rfl, hO1, hB1⟩; have hO1' := hO1.alloc (.cells #[.int .u8 201] 5); have hsl := sl_new w1 [201] #[.int .u8 201] (by decide) (by decide) rfl; obtain ⟨a1, c1, rfl, -, -⟩ := hO1.shape)
    | (at_builtin; refine wpList_append_ow rfl _ _ rfl w.heap.size (w1.heap.size + 1) _ _ b [201] rfl hO1' rfl hsl (by simp; omega) (by have := hB1.size; simp; omega) ?_; intro v2 w2 hO2 hg2 _; obtain ⟨g, cap, hv2, hc2⟩ := row_some hO2 (by simp); rw [List.length_append] at hv2 hc2; subst hv2; have hc2' : ((b.length : Nat) : Int) ≤ (cap : Int) := (by simp at hc2; omega); have hc3 : (0 : Int) ≤ (b.length : Int) := (by omega); have hc4 : ((b.length : Nat) : Int) ≤ ((b.length + [(201 : UInt8)].length : Nat) : Int) := (by simp only [List.length_cons, List.length_nil]; omega))
    | fail)
  go_ret
  refine ⟨g, cap, rfl, hO2, ?_⟩
  have h1 : Below w.heap.size w (w1.alloc (.cells #[.int .u8 201] 5)) := hB1.alloc hB1.size _
  exact h1.grown hg2 (by have := hB1.size; simp; omega) (fun k hk => (World.ownsRow.lt hO1 k hk).1)

set_option maxRecDepth 100000 in
set_option maxHeartbeats 4000000 in
theorem kept_any (N M : Nat) (g cap : Nat) (a : Option Addr) (c : Nat) (b : List UInt8) (w : World) (h1 : Ow N w (.slice (some ⟨g, 0, none⟩) (b.length + 1) cap) (b ++ [201])) (h2 : Sl M w (.slice a b.length c) b) (hM : M ≤ w.heap.size) (hl : b.length ≤ 16777300) : Calls Try.prog 34 #[.slice (some ⟨g, 0, none⟩) b.length cap, .slice a b.length c] w fun e w' => e = .returned (.bool true) ∧ Below w.heap.size w w' := by
  have hs1 : Sl w.heap.size w (.slice (some ⟨g, 0, none⟩) b.length cap) b := by
    have h9 := (h1.sl (Nat.le_refl _))
    have e : b.length + 1 = (b ++ [(201 : UInt8)]).length := by simp
    rw [e] at h9
    have h8 := h9.front b.length (by simp)
    simpa using h8
  have hsa := same_any w.heap.size _ _ b b w hs1 (h2.mono hM)
  have hcap : b.length + 1 ≤ cap := by
    have e : b.length + 1 = (b ++ [(201 : UInt8)]).length := by simp
    rw [e] at h1
    obtain ⟨g', c', e', hc⟩ := row_some h1 (by simp)
    cases e'
    simpa using hc
  have hcell : w.cell? ⟨g, b.length, none⟩ = some (.int .u8 201) := by
    have e : b.length + 1 = (b ++ [(201 : UInt8)]).length := by simp
    rw [e] at h1
    have := World.ownsRow.cellAt h1 b.length (by simp)
    rw [this]
    simp [encB]
  have HC : Hid (∀ n, (w.drewN n).cell? ⟨g, b.length, none⟩ = some (.int .u8 201)) := fun n => hcell
  have hw1 : IntKind.i64.wrap ((b.length : Int) + 1) = (b.length : Int) + 1 := by rw [IntKind.wrap_i64]; omega
  have hw2 : (b.length : Int) + 1 ≤ (cap : Int) := by omega
  have hw3 : (0 : Int) ≤ (b.length : Int) + 1 := by omega
  have hw4 : ((b.length : Int) + 1).toNat = b.length + 1 := by omega
  have hw5 : (0 : Int) ≤ (b.length : Int) := by omega
  have hw6 : (b.length : Int) < (b.length : Int) + 1 := by omega
  clear h1 h2 hs1
  go_enter Try.func34, Try.ntmps34
  go_wp2_with (first
    | (go_at_call 30; refine hsa.mono ?_; rintro e w1 ⟨rfl, n1, rfl⟩; have hc1 := HC.out n1; rw [show decide (b = b) = true from by simp])
    | fail)
  go_ret
  exact ⟨rfl, ⟨rfl, rfl, rfl, Nat.le_refl _, fun _ _ => rfl⟩⟩

/-- Two files' bytes lie apart. -/
def ApF (f g : Fl) : Prop := ∀ b, f.x.ownBlock = some b → g.x.ownBlock ≠ some b

set_option maxRecDepth 100000 in
set_option maxHeartbeats 8000000 in
theorem files_ap {S : Nat → Prop} {w : World} {d : Nat} {k : DS} (h : DkC S w d k) : Calls Try.prog 27 #[.pointer (some ⟨d, 0, none⟩)] w fun r w' => ∃ v fs, r = .returned v ∧ FilesIn w.heap.size w' v fs ∧ fs.map Fl.says = k.rs.map Rw.says ∧ fs.Pairwise ApF ∧ Below w.heap.size w w' := by
  obtain ⟨⟨c0, -⟩, -⟩ := h.cells
  have hli := list_any h
  have hfew := h.few
  have HD : Hid (DkC S w d k) := h
  clear h
  go_enter Try.func27, Try.ntmps27
  go_wp2_with fail
  refine hli.mono ?_
  rintro r w1 ⟨tv, rfl, hT, hB1⟩
  have HT : Hid (TextsIn w.heap.size w1 tv (k.rs.map Rw.nm)) := hT
  obtain ⟨ta, tc, rfl, htc⟩ : ∃ ta tc, tv = .slice ta k.rs.length tc ∧ k.rs.length ≤ tc := by
    rcases hT.2 with ⟨rfl, h0⟩ | ⟨g, cap, cur, rfl, _, _, h3, _⟩
    · rw [List.length_map] at h0
      exact ⟨none, 0, by rw [h0], by omega⟩
    · rw [List.length_map] at h3 ⊢
      exact ⟨_, _, rfl, h3⟩
  clear hT
  go_wp2_with fail
  go_loopw [3, 10] (fun sv iv wr => ∃ (j : Nat) (fl : List Fl), iv = .int .i64 (j : Int) ∧ j ≤ k.rs.length ∧ FilesIn w1.heap.size wr sv fl ∧ fl.map Fl.says = (k.rs.take j).map Rw.says ∧ fl.Pairwise ApF ∧ Below w.heap.size w wr ∧ Below w1.heap.size w1 wr) (fun _ iv _ => k.rs.length - (intOf iv).toNat)
  case atStart => exact ⟨0, [], rfl, Nat.zero_le _, ⟨World.ownsRow_nil _ _ _ _, by simp⟩, by simp, List.Pairwise.nil, hB1, Below.refl _ _⟩
  case round =>
    obtain ⟨j, fl, rfl, hj, hfi, hsay, hpw, hB, hB1'⟩ := hrel
    have HPW : Hid (fl.Pairwise ApF) := hpw
    clear hpw
    have HFI : Hid (FilesIn w1.heap.size wr u3 fl) := hfi
    have HS : Hid (fl.map Fl.says = (k.rs.take j).map Rw.says) := hsay
    have HB : Hid (Below w.heap.size w wr) := hB
    have HB1 : Hid (Below w1.heap.size w1 wr) := hB1'
    clear hfi hsay
    by_cases hlt : j < k.rs.length
    · obtain ⟨r, hre⟩ : ∃ r, k.rs[j] = r := ⟨_, rfl⟩
      have hr : r ∈ k.rs := by rw [← hre]; exact List.getElem_mem hlt
      have hA := (At.start HD.out).below hB
      have hF := hA.dk.fs r hr
      have hlk := hA.dk.look hr
      have hnl : r.nm.length ≤ maxLen := by have := hF.nm; unfold maxLen; omega
      have hmr := hA.dk.hm
      obtain ⟨⟨e0, -⟩, -⟩ := hA.dk.cells
      obtain ⟨⟨g0, g1⟩, -⟩ := hF.cells
      obtain ⟨av, capv, hv, hlc, hcm⟩ := hF.own.shape
      have hown := hF.own
      rw [hv] at g0 hown
      have hfr := fresh_any wr.heap.size _ r.dat wr.drew ((hown.sl (Nat.le_refl _)).below ⟨rfl, rfl, rfl, Nat.le_refl _, fun _ _ => rfl⟩) (by have h7 := sum_del_le hr; have := HD.out.all; omega)
      have hbw : r.b < wr.heap.size := hA.dk.inn _ (hA.dk.Sf r hr).1
      have HL : Hid (fl.length = j) := by
        have := congrArg List.length HS.out
        simp at this
        show fl.length = j
        omega
      have HT2 : Hid (wr.ownsRow w.heap.size 9 1 (.slice ta k.rs.length tc) k.rs.length ((k.rs.map Rw.nm).map encStr)) := by
        have h9 := row_below HT.out HB1.out
        rw [List.length_map] at h9
        exact h9
      obtain ⟨tb, rfl⟩ : ∃ tb, ta = some ⟨tb, 0, none⟩ := by
        rcases HT2.out.2 with ⟨hv0, h0⟩ | ⟨g, cap, cur, hv0, _⟩
        · omega
        · cases hv0; exact ⟨g, rfl⟩
      have HNE : Hid (some r.b ≠ Value.ownBlock u3) := by
        show some r.b ≠ _
        intro e
        rcases HFI.out.row.2 with ⟨hv0, _⟩ | ⟨g, cap, cur, hv0, _, hb0, _⟩
        · rw [hv0] at e; simp [Value.ownBlock] at e
        · rw [hv0] at e
          simp [Value.ownBlock] at e
          exact hF.ne hb0 (by simp) e
      have hcell : wr.cell? ⟨tb, j, none⟩ = some (.string ⟨r.nm.toArray⟩) := by
        have := World.ownsRow.cellAt HT2.out j (by omega)
        simpa [hlt, hre] using this
      have hij : (j : Int) < (k.rs.length : Int) := by omega
      have HTK : Hid (k.rs.take (j + 1) = k.rs.take j ++ [r]) := by show _ = _; rw [take_rw hlt, hre]
      clear hv hF hown hA hre hlt
      go_wp2_with (first | (at_lookup; refine wpList_look1_some rfl _ _ rfl _ _ _ rfl hmr r.nm rfl hnl r hlk ?_) | fail)
      go_region_held3 (fun w' => w'.cell? ⟨r.b, 0, none⟩ = some (.slice av r.dat.length capv) ∧ w'.cell? ⟨r.b, 1, none⟩ = some (.int .i64 (r.syn : Int))) (go_keep)
        (first
          | (go_at_call 51; refine hfr.mono ?_; rintro e w5 ⟨v5, rfl, hO5, hB5⟩; obtain ⟨ba, bc, rfl, -, -⟩ := hO5.shape; have hB5x : Below wr.heap.size wr w5 := ⟨hB5.os, hB5.tape, hB5.output, hB5.size, hB5.block⟩; have k0 := (hB5x.cell (p := ⟨r.b, 0, none⟩) hbw).trans g0; have k1 := (hB5x.cell (p := ⟨r.b, 1, none⟩) hbw).trans g1)
          | (refine step_append_fl rfl (.tmp 20) (.tmp 32) rfl w1.heap.size u3 fl.length (cellsOf fl) (by simp [Act.eval]) (World.ownsRow.alloc (row_below HFI.out.row hB5x) _) w5.heap.size (by simp [Act.eval]) ⟨r.nm, ba, bc, r.dat, (r.syn : Int)⟩ (heap_alloc_new w5 _) (by have := HL.out; omega) (by have h1 := HB1.out.size; have h2 := hB5x.size; simp only [World.size_alloc]; omega) ?_; intro v6 w6 hrow6 hg6 hl6; have m0 := hg6.cell (World.grownBy.cell (World.grownBy_alloc w5 _ none) k0 (by simp)) HNE.out; have m1 := hg6.cell (World.grownBy.cell (World.grownBy_alloc w5 _ none) k1 (by simp)) HNE.out)
          | fail)
      have hrow5 := World.ownsRow.alloc (row_below HFI.out.row hB5x) (.cells #[.string ⟨r.nm.toArray⟩, .slice ba r.dat.length bc, .int .i64 (r.syn : Int)] 37)
      have hzz : w1.heap.size ≤ w5.heap.size := Nat.le_trans HB1.out.size hB5x.size
      have HEND : Hid (FilesIn w1.heap.size w6 v6 (fl ++ [⟨r.nm, ba, bc, r.dat, (r.syn : Int)⟩]) ∧ (fl ++ [(⟨r.nm, ba, bc, r.dat, (r.syn : Int)⟩ : Fl)]).map Fl.says = (k.rs.take (j + 1)).map Rw.says ∧ Below w.heap.size w w6 ∧ Below w1.heap.size w1 w6) := by
        refine ⟨⟨by simpa [cellsOf] using hrow6, fun f hf => ?_⟩, ?_, ?_, ?_⟩
        · rcases List.mem_append.1 hf with hf | hf
          · have h9 := (Ow.below (HFI.out.own f hf) hB5x (Nat.le_refl _)).alloc (.cells #[.string ⟨r.nm.toArray⟩, .slice ba r.dat.length bc, .int .i64 (r.syn : Int)] 37)
            exact h9.kept hg6 (rows_apart hrow5 h9)
          · obtain rfl : f = _ := by simpa using hf
            have h9 := (Ow.base (N' := w1.heap.size) hO5 HB1.out.size).alloc (.cells #[.string ⟨r.nm.toArray⟩, .slice ba r.dat.length bc, .int .i64 (r.syn : Int)] 37)
            exact h9.kept hg6 (rows_apart hrow5 h9)
        · rw [HTK.out, List.map_append, List.map_append, HS.out]; rfl
        · exact ((HB.out.trans (hB5x.mono HB.out.size)).alloc (Nat.le_trans HB.out.size hB5x.size) _).grown hg6 (by simp only [World.size_alloc]; have h1 := HB.out.size; have h2 := hB5x.size; omega) (fun j hj => by have h1 := (World.ownsRow.lt hrow5 j hj).1; have h2 := hB1.size; omega)
        · exact ((HB1.out.trans (hB5x.mono HB1.out.size)).alloc hzz _).grown hg6 (by simp only [World.size_alloc]; omega) (fun j hj => (World.ownsRow.lt hrow5 j hj).1)
      have HP2 : Hid ((fl ++ [(⟨r.nm, ba, bc, r.dat, (r.syn : Int)⟩ : Fl)]).Pairwise ApF) := by
        show List.Pairwise _ _
        refine List.pairwise_append.2 ⟨HPW.out, List.pairwise_singleton _ _, fun x hx y hy => ?_⟩
        obtain rfl := List.mem_singleton.1 hy
        intro b hb e
        have q1 := (World.ownsRow.lt (HFI.out.own x hx) b hb).2
        have q2 := (World.ownsRow.lt hO5 b e).1
        have q3 : wr.drew.heap.size = wr.heap.size := rfl
        omega
      clear hrow6 hg6 hl6 m0 m1 k0 k1 hrow5 hO5
      go_wp2
      exact ⟨⟨j + 1, _, by go_num, by omega, HEND.out.1, HEND.out.2.1, HP2.out, HEND.out.2.2.1, HEND.out.2.2.2⟩, by simp [intOf]; omega⟩
    · have HE : Hid (k.rs.take j = k.rs) := List.take_of_length_le (by omega)
      go_wp2
      go_ret
      exact ⟨_, fl, rfl, HFI.out.base hB1.size, by rw [HS.out, HE.out], HPW.out, HB.out⟩

end Go.Proofs.Ytbjnhohfdpdcnaa
