/-
  Crash: what it leaves of a disk.
-/
import Derived.Test.YtbjnhohfdpdcnaaJa
namespace Go.Proofs.Ytbjnhohfdpdcnaa
open Go.RowKit

theorem crash_any {S : Nat → Prop} {w : World} {d : Nat} {k : DS} (h : DkC S w d k) (keep : Int) : Calls Try.prog 28 #[.pointer (some ⟨d, 0, none⟩), .int .i64 keep] w fun r w' => ∃ k', r = .returned (.tuple #[]) ∧ At S w w' d k' ∧ k'.pd = doCrash k.pd keep := by
  cases hl : k.last with
  | none => exact crash_none h keep hl
  | some b =>
    obtain ⟨r, hr, rfl⟩ := h.la b hl
    by_cases hk0 : 0 ≤ keep
    · by_cases hki : keep ≤ (r.dat.length : Int) - (r.syn : Int)
      · exact crash_a h keep hr hl hk0 hki
      · exact crash_b h keep hr hl hk0 (by omega)
    · exact crash_c h keep hr hl hk0

end Go.Proofs.Ytbjnhohfdpdcnaa
