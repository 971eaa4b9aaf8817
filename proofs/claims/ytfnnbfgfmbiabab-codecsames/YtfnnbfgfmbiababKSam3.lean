/-
  Same, as mathematics.
-/
import Derived.Test.YtfnnbfgfmbiababJ46
namespace Go.Proofs.Ytfnnbfgfmbiabab
open Go.RowKit Go.Shelf

theorem bytes_pf2 {t u r s : List UInt8} (ht : t.length ≤ 1000000) (hu : u.length ≤ 1000000) (h : numB t.length ++ (t ++ r) = numB u.length ++ (u ++ s)) : t = u ∧ r = s := by
  obtain ⟨e, h2⟩ := numB_pf (by omega) (by omega) h
  exact List.append_inj h2 e
theorem state_iff {a1 a2 a3 b1 b2 b3 : Int} : (ckState a1 a2 a3 = 0 ∧ ckState b1 b2 b3 = 0 ∧ txState a1 a2 a3 = txState b1 b2 b3) ↔ ((a1 = b1 ∧ a2 = b2 ∧ a3 = b3) ∧ ckState a1 a2 a3 = 0) := by
  constructor
  · rintro ⟨h, h', e⟩
    obtain ⟨k1, k2, k3⟩ := ckState_nums h
    obtain ⟨l1, l2, l3⟩ := ckState_nums h'
    unfold txState at e
    simp only [List.append_assoc] at e
    obtain ⟨e1, e⟩ := numB_pf (num_in k1).2 (num_in l1).2 e
    obtain ⟨e2, e⟩ := numB_pf (num_in k2).2 (num_in l2).2 e
    obtain ⟨e3, -⟩ := numB_pf (r := []) (s := []) (num_in k3).2 (num_in l3).2 (by simpa using e)
    exact ⟨⟨num_eq k1 l1 e1, num_eq k2 l2 e2, num_eq k3 l3 e3⟩, h⟩
  · rintro ⟨⟨rfl, rfl, rfl⟩, h⟩
    exact ⟨h, h, rfl⟩
theorem command_iff {o c s o' c' s' : Int} {k v d k' v' d' : List UInt8} : (ckCommand o c s k v d = 0 ∧ ckCommand o' c' s' k' v' d' = 0 ∧ txCommand o c s k v d = txCommand o' c' s' k' v' d') ↔ ((o = o' ∧ c = c' ∧ s = s' ∧ k = k' ∧ v = v' ∧ d = d') ∧ ckCommand o c s k v d = 0) := by
  constructor
  · rintro ⟨h, h', e⟩
    obtain ⟨k1, k2, k3, k4, k5, k6⟩ := ckCommand_ok h
    obtain ⟨l1, l2, l3, l4, l5, l6⟩ := ckCommand_ok h'
    unfold txCommand at e
    simp only [List.append_assoc] at e
    obtain ⟨e1, e⟩ := numB_pf (num_in k1).2 (num_in l1).2 e
    obtain ⟨e2, e⟩ := numB_pf (num_in k2).2 (num_in l2).2 e
    obtain ⟨e3, e⟩ := numB_pf (num_in k3).2 (num_in l3).2 e
    obtain ⟨e4, e⟩ := bytes_pf2 (t := k) (u := k') (by omega) (by omega) e
    obtain ⟨e5, e⟩ := bytes_pf2 (t := v) (u := v') (by omega) (by omega) e
    obtain ⟨e6, -⟩ := bytes_pf2 (t := d) (u := d') (r := []) (s := []) (by omega) (by omega) (by simpa using e)
    exact ⟨⟨num_eq k1 l1 e1, num_eq k2 l2 e2, num_eq k3 l3 e3, e4, e5, e6⟩, h⟩
  · rintro ⟨⟨rfl, rfl, rfl, rfl, rfl, rfl⟩, h⟩
    exact ⟨h, h, rfl⟩
theorem msg_iff {m n : Msg} : (m.ck = 0 ∧ n.ck = 0 ∧ m.tx = n.tx) ↔ (m.says = n.says ∧ m.ck = 0) := by
  constructor
  · rintro ⟨h, h', e⟩
    exact ⟨(tx_front (r := []) h h' (by simpa using e)).1, h⟩
  · rintro ⟨e, h⟩
    exact ⟨h, (of_says e).1.symm.trans h, (of_says e).2⟩

end Go.Proofs.Ytfnnbfgfmbiabab
