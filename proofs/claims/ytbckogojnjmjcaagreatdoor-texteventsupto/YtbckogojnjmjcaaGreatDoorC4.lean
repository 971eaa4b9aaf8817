/-
  The line of an act.
-/
import Derived.Test.YtbckogojnjmjcaaGreatDoorC1
import Derived.Test.YtbckogojnjmjcaaGreatDoorC2
import Derived.Test.YtbckogojnjmjcaaGreatDoorC3
namespace Go.Proofs.YtbckogojnjmjcaaGreatDoor
open Go.RowKit Go.Shelf

def FmE : Except Nat Bs → Ending
  | .ok s => .returned (.tuple #[str s, .int .i64 0])
  | .error k => .returned (.tuple #[str [], .int .i64 (k : Int)])
theorem word_len20 : ∀ f ∈ formsL, f.word.length ≤ 20 := by
  intro f hf
  simp only [formsL, List.mem_cons, List.not_mem_nil, or_false] at hf
  rcases hf with rfl | rfl | rfl | rfl | rfl | rfl | rfl | rfl | rfl | rfl | rfl | rfl | rfl | rfl | rfl | rfl | rfl | rfl | rfl | rfl <;> decide
theorem formOf_err' {a : Ac} {e : Nat} (h : formOf formsL a 6 = .error e) : e = 6 ∨ e = 20 := formOf_err h
set_option maxRecDepth 100000 in
set_option maxHeartbeats 4000000 in
theorem formatAct_any (a : Ac) (ha : AcOk a) (w : World) (hv : Vars w) : Calls Tryz.prog 16 #[.agg a.cells] w fun e w' => e = FmE (fmtF a) ∧ Below w.heap.size w w' := by
  have HFA := formOfAct_any a (w.alloc (.cells a.cells 34))
  have HB0 : Hid (Below w.heap.size w (w.alloc (.cells a.cells 34))) := (Below.refl _ _).alloc (Nat.le_refl _) _
  have HA0 : Hid (AcAt (w.alloc (.cells a.cells 34)) w.heap.size a) := heap_alloc_new w _
  have hlk := ha.key
  have hlv := ha.val
  have hlo := ha.old
  have HFM : Hid (fmtF a = _) := (by unfold fmtF; rfl)
  unfold Ac.cells str
  unfold Ac.cells str at HFA HB0 HA0
  go_enter Tryz.func16, Tryz.ntmps16
  go_wp2_with fail
  refine HFA.mono ?_
  rintro e w1 ⟨hr, hB1⟩
  have hA1 : AcAt w1 w.heap.size a := HA0.out.below hB1
  have HBW1 : Hid (Below w.heap.size w w1) := HB0.out.trans (hB1.mono (by simp))
  have hs1 : w.heap.size < w1.heap.size := hA1.lt
  unfold FaR at hr
  clear hB1 HFA HB0
  cases hfo : formOf formsL a 6 with
  | error kk =>
    rw [hfo] at hr
    subst hr
    have hkk := formOf_err' hfo
    have hkd : ((kk : Int) != 0) = true := by rw [bne_iff_ne]; omega
    have HR : Hid (fmtF a = .error kk) := by show _ = _; unfold fmtF; rw [hfo]
    unfold fo0
    clear hfo hkk HFM hA1 HA0
    go_wp2
    go_ret2
    exact ⟨by rw [HR.out]; rfl, HBW1.out.alloc (by omega) _⟩
  | ok f =>
    rw [hfo] at hr
    obtain ⟨pb, rfl, hpl⟩ := hr
    have hfm := (formOf_ok hfo).1
    have hl5 := pl_len f hfm
    have hw20 := word_len20 f hfm
    have HCK := fun o => check_any f hl5 pb a (w1.alloc o) (hpl.below ((Below.refl _ _).alloc (Nat.le_refl _) _))
    have HLI := fun W h1 h2 => line_any f hl5 hw20 pb a ha W h1 h2
    have HPL1 : Hid (∀ o, PlAt (w1.alloc o) pb f.pl) := fun o => hpl.below ((Below.refl _ _).alloc (Nat.le_refl _) _)
    have HA1 : Hid (∀ o, AcAt (w1.alloc o) w.heap.size a) := fun o => hA1.below ((Below.refl _ _).alloc (Nat.le_refl _) _)
    have HBA : Hid (∀ o, Below w.heap.size w (w1.alloc o)) := fun o => HBW1.out.alloc (by omega) o
    have HF1 : Hid (∀ t, (w1.alloc (.cells (f.cs pb) t)).heap[w1.heap.size]? = some (.cells (f.cs pb) t (0, 0))) := fun t => heap_alloc_new w1 _
    have HFM2 : Hid (fmtF a = if f.chk a ≠ 0 then .error (f.chk a) else if 4096 < a.key.length + a.val.length + a.old.length then .error 3 else if 4096 < (f.line a).length then .error 3 else .ok (f.line a)) := by show _ = _; unfold fmtF; rw [hfo]
    obtain ⟨a0, a1, a2, a3, a4, a5, a6, a7, a8⟩ := hA1.cells
    obtain ⟨rc1, rf1⟩ := stays (W := w1) (R := w.heap.size) (by omega)
    unfold Fo.cs Ac.cells str at HCK HLI
    unfold Fo.cs at HF1
    unfold Fo.cs
    clear hfo hfm hpl hA1 HFM
    generalize hck : f.chk a = ck at *
    generalize hln : f.line a = ln at *
    go_wp2_with fail
    refine (HCK _).mono ?_
    rintro e w2 ⟨rfl, hB2⟩
    have hA2 : AcAt w2 w.heap.size a := (HA1.out _).below hB2
    have hF2 := (hB2.block w1.heap.size (by simp)).trans (HF1.out _)
    have HP2 : Hid (PlAt w2 pb f.pl) := (HPL1.out _).below hB2
    have HB2 : Hid (Below w.heap.size w w2) := (HBA.out _).trans (hB2.mono (by simp; omega))
    have HV2 : Hid (Vars w2) := hv.below HB2.out
    clear a0 a1 a2 a3 a4 a5 a6 a7 a8 rc1 rf1 hB2 HPL1 HA1 HBA HF1 HCK
    obtain ⟨a0, a1, a2, a3, a4, a5, a6, a7, a8⟩ := hA2.cells
    obtain ⟨⟨b0, b1, b2, b3, b4, b5, b6, b7, b8, b9, b10⟩, -⟩ := cells11 hF2
    clear hA2 hF2
    by_cases hc0 : ck = 0
    case neg =>
      have hcb : ((ck : Int) != 0) = true := by rw [bne_iff_ne]; omega
      have HR : Hid (fmtF a = .error ck) := by show _ = _; rw [HFM2.out, if_pos hc0]
      clear HFM2 hc0 HLI
      go_wp2
      go_ret2
      exact ⟨by rw [HR.out]; rfl, HB2.out⟩
    subst hc0
    have HZ : Hid ((⟨a.key.toArray⟩ : ByteArray).size = a.key.length ∧ (⟨a.val.toArray⟩ : ByteArray).size = a.val.length ∧ (⟨a.old.toArray⟩ : ByteArray).size = a.old.length) := ⟨by show a.key.toArray.size = _; simp, by show a.val.toArray.size = _; simp, by show a.old.toArray.size = _; simp⟩
    by_cases h4 : 4096 < a.key.length + a.val.length + a.old.length
    · have HR : Hid (fmtF a = .error 3) := by show _ = _; rw [HFM2.out, if_neg (by simp), if_pos h4]
      clear HFM2 HLI
      go_wp2
      go_ret2
      exact ⟨by rw [HR.out]; rfl, HB2.out⟩
    have HLL := HLI w2 HV2.out HP2.out
    by_cases h5 : 4096 < ln.length
    · have HR : Hid (fmtF a = .error 3) := by show _ = _; rw [HFM2.out, if_neg (by simp), if_neg h4, if_pos h5]
      clear HFM2 HLI
      go_wp2_with (go_at_call 51; refine HLL.mono ?_; rintro e w3 ⟨rfl, hB3⟩)
      go_ret2
      exact ⟨by rw [HR.out]; rfl, HB2.out.trans (hB3.mono HB2.out.size)⟩
    · have HR : Hid (fmtF a = .ok ln) := by show _ = _; rw [HFM2.out, if_neg (by simp), if_neg h4, if_neg h5]
      clear HFM2 HLI
      go_wp2_with (go_at_call 51; refine HLL.mono ?_; rintro e w3 ⟨rfl, hB3⟩)
      go_ret2
      exact ⟨by rw [HR.out]; rfl, HB2.out.trans (hB3.mono HB2.out.size)⟩
end Go.Proofs.YtbckogojnjmjcaaGreatDoor
