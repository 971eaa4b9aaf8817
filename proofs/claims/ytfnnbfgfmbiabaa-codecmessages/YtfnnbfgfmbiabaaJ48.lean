/-
  Both; Back; Fir; RowIn.
-/
import Derived.Test.YtfnnbfgfmbiabaaJ38
import Derived.Test.YtfnnbfgfmbiabaaJ41
import Derived.Test.YtfnnbfgfmbiabaaJ42
import Derived.Test.YtfnnbfgfmbiabaaJ43
import Derived.Test.YtfnnbfgfmbiabaaJ44
import Derived.Test.YtfnnbfgfmbiabaaJ45
import Derived.Test.YtfnnbfgfmbiabaaJ46
import Derived.Test.YtfnnbfgfmbiabaaJ47
import Derived.Test.YtfnnbfgfmbiabaaJ13
import Derived.Test.YtfnnbfgfmbiabaaJ15
import Derived.Test.YtfnnbfgfmbiabaaJ08
import Derived.Lib.SlBytesConst
import Derived.Test.YtfnnbfgfmbiabaaRows
import Derived.Test.YtfnnbfgfmbiabaaJ04
import Derived.WalkKit
import Derived.ProofKit
import Derived.OpenShut
import Derived.ShutString
import Derived.ChangeOld
import Derived.Below
/-
  The code's Get and the document's GetMessage of any bytes answer one thing.
-/
namespace Go.Proofs.Ytfnnbfgfmbiabaa
open Go.RowKit Go.Shelf

theorem both7 (b : List UInt8) (hb : b.length ≤ 20000) {p0 fr pa ea to pb eb tm pc ec : Nat} (H0 : Hid (rdN b (0, 0) = (7, (p0, 0)))) (Ha : Hid (rdN b (p0, 0) = (fr, (pa, ea)))) (Hb : Hid (rdN b (pa, ea) = (to, (pb, eb)))) (Hc : Hid (rdN b (pb, eb) = (tm, (pc, ec)))) :
    ∃ (G : Said) (E : Nat), Hid (∀ v M w, Sl M w v b → M ≤ w.heap.size → Calls Try.prog 51 #[.agg #[], v] w (GotM w E G)) ∧ Hid (∀ v M w, Sl M w v b → M ≤ w.heap.size → Calls Try.prog 52 #[v] w (GotM w E G)) ∧ Hid (G.2.2.1.length ≤ 1000000) := by
  obtain ⟨t, p1, e1, H1⟩ : ∃ t p e, Hid (rdB b 1048576 (pc, ec) = (t, (p, e))) := ⟨_, _, _, rfl⟩
  obtain ⟨GG, hGG⟩ : ∃ GG : Nat × Nat × List UInt8, GG = if e1 ≠ 0 then (0, 0, []) else goSnap t := ⟨_, rfl⟩
  obtain ⟨G0, G1, G2⟩ := GG
  obtain ⟨E7, hE7⟩ : ∃ E7, E7 = if e1 ≠ 0 then e1 else geSnap t := ⟨_, rfl⟩
  obtain ⟨E, hE⟩ : ∃ E, E = if E7 ≠ 0 then E7 else if doneE b p1 e1 = 0 then ckM7 (fr : Int) (to : Int) (tm : Int) 0 0 0 0 0 false 0 (G0 : Int) (G1 : Int) G2.length else doneE b p1 e1 := ⟨_, rfl⟩
  refine ⟨_, E, fun v M w hv hM => (getM7_any b v M w hv hM (by omega) H0 Ha Hb Hc H1 hGG E7 E hE7 hE).mono fun r w' h => gotM_7 h.1 h.2, fun v M w hv hM => (refGetM7_any b v M w hv hM hb H0 Ha Hb Hc H1 hGG E7 E hE7 hE).mono fun r w' h => gotM_7 h.1 h.2, ?_⟩
  show List.length (ite (E = 0) _ _ : Said).2.2.1 ≤ 1000000
  split
  · simp
  · simp [zeroM, Msg.says, saysOf]

theorem both3 (b : List UInt8) (hb : b.length ≤ 20000) {p0 fr pa ea to pb eb tm pc ec : Nat} (H0 : Hid (rdN b (0, 0) = (3, (p0, 0)))) (Ha : Hid (rdN b (p0, 0) = (fr, (pa, ea)))) (Hb : Hid (rdN b (pa, ea) = (to, (pb, eb)))) (Hc : Hid (rdN b (pb, eb) = (tm, (pc, ec)))) :
    ∃ (G : Said) (E : Nat), Hid (∀ v M w, Sl M w v b → M ≤ w.heap.size → Calls Try.prog 51 #[.agg #[], v] w (GotM w E G)) ∧ Hid (∀ v M w, Sl M w v b → M ≤ w.heap.size → Calls Try.prog 52 #[v] w (GotM w E G)) ∧ Hid (G.2.2.1.length ≤ 1000000) := by
  obtain ⟨n1, p1, e1, H1⟩ : ∃ t p e, Hid (rdN b (pc, ec) = (t, (p, e))) := ⟨_, _, _, rfl⟩
  obtain ⟨n2, p2, e2, H2⟩ : ∃ t p e, Hid (rdN b (p1, e1) = (t, (p, e))) := ⟨_, _, _, rfl⟩
  obtain ⟨n3, p3, e3, H3⟩ : ∃ t p e, Hid (rdN b (p2, e2) = (t, (p, e))) := ⟨_, _, _, rfl⟩
  obtain ⟨n4, p4, e4, H4⟩ : ∃ t p e, Hid (rdN b (p3, e3) = (t, (p, e))) := ⟨_, _, _, rfl⟩
  obtain ⟨E3, hE3⟩ : ∃ E3, E3 = (if e4 ≠ 0 then e4 else if (64 : Int) < (n4 : Int) then 3 else (rdEs b 8192 n4 (p4, e4)).1 : Nat) := ⟨_, rfl⟩
  obtain ⟨E, hE⟩ : ∃ E, E = if E3 ≠ 0 then E3 else if doneE b (rdEs b 8192 n4 (p4, e4)).2.2.1 (rdEs b 8192 n4 (p4, e4)).2.2.2 = 0 then ckM3 (fr : Int) (to : Int) (tm : Int) (n1 : Int) (n2 : Int) (n3 : Int) 0 0 false (entsOf (rdEs b 8192 n4 (p4, e4)).2.1) 0 0 0 else doneE b (rdEs b 8192 n4 (p4, e4)).2.2.1 (rdEs b 8192 n4 (p4, e4)).2.2.2 := ⟨_, rfl⟩
  refine ⟨_, E, fun v M w hv hM => (getM3_any b v M w hv hM (by omega) H0 Ha Hb Hc H1 H2 H3 H4 E3 E hE3 hE).mono fun r w' h => gotM_3 h.1 h.2, fun v M w hv hM => (refGetM3_any b v M w hv hM hb H0 Ha Hb Hc H1 H2 H3 H4 E3 E hE3 hE).mono fun r w' h => gotM_3 h.1 h.2, ?_⟩
  show List.length (ite (E = 0) _ _ : Said).2.2.1 ≤ 1000000
  split
  · rename_i h0
    have h3 : E3 = 0 := by
      by_cases h3 : E3 = 0
      · exact h3
      · rw [if_pos h3] at hE; omega
    have h64 : n4 ≤ 64 := by
      rw [hE3] at h3
      by_cases h4 : e4 = 0
      · rw [if_neg (by simp [h4])] at h3
        by_cases h5 : (64 : Int) < (n4 : Int)
        · rw [if_pos h5] at h3; simp at h3
        · omega
      · rw [if_pos h4] at h3; exact absurd h3 h4
    have := rdEs_len b 8192 n4 (p4, e4)
    simp [saysN]; omega
  · simp [zeroM, Msg.says, saysOf]

theorem says_len {m n : Msg} (h : m.says = n.says) : m.es.length = n.es.length := by
  have := congrArg (fun x => x.2.2.1.length) h
  simpa [Msg.says, saysOf] using this
theorem got_few {m : Msg} {G : Said} (hG : G.2.2.1.length ≤ 1000000) (h : m.says = G) : m.es.length ≤ 1000000 := by
  have := congrArg (fun x => x.2.2.1.length) h
  simp [Msg.says, saysOf] at this
  omega

/-- Get and GetMessage of any bytes answer one thing. -/
theorem get_both (b : List UInt8) (hb : b.length ≤ 20000) : ∃ (G : Said) (E : Nat), Hid (∀ v M w, Sl M w v b → M ≤ w.heap.size → Calls Try.prog 51 #[.agg #[], v] w (GotM w E G)) ∧ Hid (∀ v M w, Sl M w v b → M ≤ w.heap.size → Calls Try.prog 52 #[v] w (GotM w E G)) ∧ Hid (G.2.2.1.length ≤ 1000000) := by
  have hz : Hid ((zeroM.says).2.2.1.length ≤ 1000000) := by show (zeroM.says).2.2.1.length ≤ 1000000; simp [zeroM, Msg.says, saysOf]
  obtain ⟨n, p0, e0, H0⟩ : ∃ n p0 e0, Hid (rdN b (0, 0) = (n, (p0, e0))) := ⟨_, _, _, rfl⟩
  by_cases he0 : e0 = 0
  case neg =>
    have hn : n = 0 := ((fail_num b 0 0 n p0 e0 H0.out).2 he0).1
    exact ⟨zeroM.says, e0, fun v M w hv hM => (getErr_any b v M w hv hM (by omega) H0 he0).mono fun r w' h => gotM_zero h.1 h.2, fun v M w hv hM => (refGetNo_any b v M w hv hM hb H0 (by subst hn; decide) e0 (by rw [if_neg he0])).mono fun r w' h => gotM_zero h.1 h.2, hz⟩
  subst he0
  obtain ⟨fr, pa, ea, Ha⟩ : ∃ n p e, Hid (rdN b (p0, 0) = (n, (p, e))) := ⟨_, _, _, rfl⟩
  obtain ⟨to, pb, eb, Hb⟩ : ∃ n p e, Hid (rdN b (pa, ea) = (n, (p, e))) := ⟨_, _, _, rfl⟩
  obtain ⟨tm, pc, ec, Hc⟩ : ∃ n p e, Hid (rdN b (pb, eb) = (n, (p, e))) := ⟨_, _, _, rfl⟩
  rcases kinds (n : Int) with hk | hk | hk | hk | hk | hk | hk | hk
  · exact ⟨zeroM.says, 6, fun v M w hv hM => (getKind_any b v M w hv hM (by omega) H0 rfl hk).mono fun r w' h => gotM_zero h.1 h.2, fun v M w hv hM => (refGetNo_any b v M w hv hM hb H0 hk 6 (by simp)).mono fun r w' h => gotM_zero h.1 h.2, hz⟩
  · obtain rfl : n = 1 := by omega
    obtain ⟨n1, p1, e1, H1⟩ : ∃ n p e, Hid (rdN b (pc, ec) = (n, (p, e))) := ⟨_, _, _, rfl⟩
    obtain ⟨n2, p2, e2, H2⟩ : ∃ n p e, Hid (rdN b (p1, e1) = (n, (p, e))) := ⟨_, _, _, rfl⟩
    obtain ⟨E, hE⟩ : ∃ E, E = if doneE b p2 e2 = 0 then ckM1 (fr : Int) (to : Int) (tm : Int) (n1 : Int) (n2 : Int) 0 0 0 false 0 0 0 0 else doneE b p2 e2 := ⟨_, rfl⟩
    refine ⟨if E = 0 then Msg.says ⟨1, (fr : Int), (to : Int), (tm : Int), (n1 : Int), (n2 : Int), 0, 0, 0, false, none, 0, [], 0, 0, none, 0, []⟩ else zeroM.says, E, fun v M w hv hM => (getM1_any b v M w hv hM (by omega) H0 Ha Hb Hc H1 H2 E hE).mono fun r w' h => gotM_of ⟨1, (fr : Int), (to : Int), (tm : Int), (n1 : Int), (n2 : Int), 0, 0, 0, false, none, 0, [], 0, 0, none, 0, []⟩ h.1 ⟨EntsOw.nil _ _, Ow.nil _ _⟩ h.2, fun v M w hv hM => (refGetM1_any b v M w hv hM hb H0 Ha Hb Hc H1 H2 E hE).mono fun r w' h => gotM_of ⟨1, (fr : Int), (to : Int), (tm : Int), (n1 : Int), (n2 : Int), 0, 0, 0, false, none, 0, [], 0, 0, none, 0, []⟩ h.1 ⟨EntsOw.nil _ _, Ow.nil _ _⟩ h.2, ?_⟩
    show (if E = 0 then Msg.says ⟨1, (fr : Int), (to : Int), (tm : Int), (n1 : Int), (n2 : Int), 0, 0, 0, false, none, 0, [], 0, 0, none, 0, []⟩ else zeroM.says).2.2.1.length ≤ 1000000
    split
    · simp [Msg.says, saysOf]
    · exact hz.out
  · obtain rfl : n = 2 := by omega
    obtain ⟨n1, p1, e1, H1⟩ : ∃ n p e, Hid (rdT b (pc, ec) = (n, (p, e))) := ⟨_, _, _, rfl⟩
    obtain ⟨E, hE⟩ : ∃ E, E = if doneE b p1 e1 = 0 then ckM2 (fr : Int) (to : Int) (tm : Int) 0 0 0 0 0 n1 0 0 0 0 else doneE b p1 e1 := ⟨_, rfl⟩
    refine ⟨if E = 0 then Msg.says ⟨2, (fr : Int), (to : Int), (tm : Int), 0, 0, 0, 0, 0, n1, none, 0, [], 0, 0, none, 0, []⟩ else zeroM.says, E, fun v M w hv hM => (getM2_any b v M w hv hM (by omega) H0 Ha Hb Hc H1 E hE).mono fun r w' h => gotM_of ⟨2, (fr : Int), (to : Int), (tm : Int), 0, 0, 0, 0, 0, n1, none, 0, [], 0, 0, none, 0, []⟩ h.1 ⟨EntsOw.nil _ _, Ow.nil _ _⟩ h.2, fun v M w hv hM => (refGetM2_any b v M w hv hM hb H0 Ha Hb Hc H1 E hE).mono fun r w' h => gotM_of ⟨2, (fr : Int), (to : Int), (tm : Int), 0, 0, 0, 0, 0, n1, none, 0, [], 0, 0, none, 0, []⟩ h.1 ⟨EntsOw.nil _ _, Ow.nil _ _⟩ h.2, ?_⟩
    show (if E = 0 then Msg.says ⟨2, (fr : Int), (to : Int), (tm : Int), 0, 0, 0, 0, 0, n1, none, 0, [], 0, 0, none, 0, []⟩ else zeroM.says).2.2.1.length ≤ 1000000
    split
    · simp [Msg.says, saysOf]
    · exact hz.out
  · obtain rfl : n = 3 := by omega
    exact both3 b hb H0 Ha Hb Hc
  · obtain rfl : n = 4 := by omega
    obtain ⟨n1, p1, e1, H1⟩ : ∃ n p e, Hid (rdN b (pc, ec) = (n, (p, e))) := ⟨_, _, _, rfl⟩
    obtain ⟨n2, p2, e2, H2⟩ : ∃ n p e, Hid (rdT b (p1, e1) = (n, (p, e))) := ⟨_, _, _, rfl⟩
    obtain ⟨n3, p3, e3, H3⟩ : ∃ n p e, Hid (rdN b (p2, e2) = (n, (p, e))) := ⟨_, _, _, rfl⟩
    obtain ⟨E, hE⟩ : ∃ E, E = if doneE b p3 e3 = 0 then ckM4 (fr : Int) (to : Int) (tm : Int) (n1 : Int) 0 0 (n3 : Int) 0 n2 0 0 0 0 else doneE b p3 e3 := ⟨_, rfl⟩
    refine ⟨if E = 0 then Msg.says ⟨4, (fr : Int), (to : Int), (tm : Int), (n1 : Int), 0, 0, (n3 : Int), 0, n2, none, 0, [], 0, 0, none, 0, []⟩ else zeroM.says, E, fun v M w hv hM => (getM4_any b v M w hv hM (by omega) H0 Ha Hb Hc H1 H2 H3 E hE).mono fun r w' h => gotM_of ⟨4, (fr : Int), (to : Int), (tm : Int), (n1 : Int), 0, 0, (n3 : Int), 0, n2, none, 0, [], 0, 0, none, 0, []⟩ h.1 ⟨EntsOw.nil _ _, Ow.nil _ _⟩ h.2, fun v M w hv hM => (refGetM4_any b v M w hv hM hb H0 Ha Hb Hc H1 H2 H3 E hE).mono fun r w' h => gotM_of ⟨4, (fr : Int), (to : Int), (tm : Int), (n1 : Int), 0, 0, (n3 : Int), 0, n2, none, 0, [], 0, 0, none, 0, []⟩ h.1 ⟨EntsOw.nil _ _, Ow.nil _ _⟩ h.2, ?_⟩
    show (if E = 0 then Msg.says ⟨4, (fr : Int), (to : Int), (tm : Int), (n1 : Int), 0, 0, (n3 : Int), 0, n2, none, 0, [], 0, 0, none, 0, []⟩ else zeroM.says).2.2.1.length ≤ 1000000
    split
    · simp [Msg.says, saysOf]
    · exact hz.out
  · obtain rfl : n = 5 := by omega
    obtain ⟨n1, p1, e1, H1⟩ : ∃ n p e, Hid (rdN b (pc, ec) = (n, (p, e))) := ⟨_, _, _, rfl⟩
    obtain ⟨n2, p2, e2, H2⟩ : ∃ n p e, Hid (rdN b (p1, e1) = (n, (p, e))) := ⟨_, _, _, rfl⟩
    obtain ⟨E, hE⟩ : ∃ E, E = if doneE b p2 e2 = 0 then ckM5 (fr : Int) (to : Int) (tm : Int) 0 0 (n1 : Int) 0 (n2 : Int) false 0 0 0 0 else doneE b p2 e2 := ⟨_, rfl⟩
    refine ⟨if E = 0 then Msg.says ⟨5, (fr : Int), (to : Int), (tm : Int), 0, 0, (n1 : Int), 0, (n2 : Int), false, none, 0, [], 0, 0, none, 0, []⟩ else zeroM.says, E, fun v M w hv hM => (getM5_any b v M w hv hM (by omega) H0 Ha Hb Hc H1 H2 E hE).mono fun r w' h => gotM_of ⟨5, (fr : Int), (to : Int), (tm : Int), 0, 0, (n1 : Int), 0, (n2 : Int), false, none, 0, [], 0, 0, none, 0, []⟩ h.1 ⟨EntsOw.nil _ _, Ow.nil _ _⟩ h.2, fun v M w hv hM => (refGetM5_any b v M w hv hM hb H0 Ha Hb Hc H1 H2 E hE).mono fun r w' h => gotM_of ⟨5, (fr : Int), (to : Int), (tm : Int), 0, 0, (n1 : Int), 0, (n2 : Int), false, none, 0, [], 0, 0, none, 0, []⟩ h.1 ⟨EntsOw.nil _ _, Ow.nil _ _⟩ h.2, ?_⟩
    show (if E = 0 then Msg.says ⟨5, (fr : Int), (to : Int), (tm : Int), 0, 0, (n1 : Int), 0, (n2 : Int), false, none, 0, [], 0, 0, none, 0, []⟩ else zeroM.says).2.2.1.length ≤ 1000000
    split
    · simp [Msg.says, saysOf]
    · exact hz.out
  · obtain rfl : n = 6 := by omega
    obtain ⟨n1, p1, e1, H1⟩ : ∃ n p e, Hid (rdN b (pc, ec) = (n, (p, e))) := ⟨_, _, _, rfl⟩
    obtain ⟨E, hE⟩ : ∃ E, E = if doneE b p1 e1 = 0 then ckM6 (fr : Int) (to : Int) (tm : Int) 0 0 0 0 (n1 : Int) false 0 0 0 0 else doneE b p1 e1 := ⟨_, rfl⟩
    refine ⟨if E = 0 then Msg.says ⟨6, (fr : Int), (to : Int), (tm : Int), 0, 0, 0, 0, (n1 : Int), false, none, 0, [], 0, 0, none, 0, []⟩ else zeroM.says, E, fun v M w hv hM => (getM6_any b v M w hv hM (by omega) H0 Ha Hb Hc H1 E hE).mono fun r w' h => gotM_of ⟨6, (fr : Int), (to : Int), (tm : Int), 0, 0, 0, 0, (n1 : Int), false, none, 0, [], 0, 0, none, 0, []⟩ h.1 ⟨EntsOw.nil _ _, Ow.nil _ _⟩ h.2, fun v M w hv hM => (refGetM6_any b v M w hv hM hb H0 Ha Hb Hc H1 E hE).mono fun r w' h => gotM_of ⟨6, (fr : Int), (to : Int), (tm : Int), 0, 0, 0, 0, (n1 : Int), false, none, 0, [], 0, 0, none, 0, []⟩ h.1 ⟨EntsOw.nil _ _, Ow.nil _ _⟩ h.2, ?_⟩
    show (if E = 0 then Msg.says ⟨6, (fr : Int), (to : Int), (tm : Int), 0, 0, 0, 0, (n1 : Int), false, none, 0, [], 0, 0, none, 0, []⟩ else zeroM.says).2.2.1.length ≤ 1000000
    split
    · simp [Msg.says, saysOf]
    · exact hz.out
  · obtain rfl : n = 7 := by omega
    exact both7 b hb H0 Ha Hb Hc
end Go.Proofs.Ytfnnbfgfmbiabaa

/-
  What was put is read back: messages.
-/
namespace Go.Proofs.Ytfnnbfgfmbiabaa
open Go.RowKit Go.Shelf

theorem rdT_mid (pre : List UInt8) (b : Bool) (t : List UInt8) : rdT (pre ++ (numB (bN b) ++ t)) (pre.length, 0) = (b, ((pre ++ numB (bN b)).length, 0)) := by
  have := boolAt_mid pre b t
  unfold rdT bN; simp only; rw [this]; simp
theorem blank_out {ix lt cm hi cx : Int} {rj : Bool} {en : Nat} {si st : Int} {sn : Nat} (h : blank ix lt cm hi cx rj en si st sn = true) : ix = 0 ∧ lt = 0 ∧ cm = 0 ∧ hi = 0 ∧ cx = 0 ∧ rj = false ∧ en = 0 ∧ si = 0 ∧ st = 0 ∧ sn = 0 := by
  simp [blank] at h
  obtain ⟨⟨⟨⟨⟨⟨⟨h1, h2⟩, h3⟩, h4⟩, h5⟩, h6⟩, h7⟩, ⟨h8, h9⟩, h10⟩ := h
  exact ⟨h1, h2, h3, h4, h5, h6, by simpa using h7, h8, h9, by simpa using h10⟩
theorem num_in {n : Int} (h : isNumB n = true) : ((n.toNat : Nat) : Int) = n ∧ n.toNat ≤ 4611686018427387904 := by
  simp [isNumB] at h; omega

theorem ckM1_blank {fr to tm ix lt cm hi cx : Int} {rj : Bool} {en : Nat} {si st : Int} {sn : Nat} (h : ckM1 fr to tm ix lt cm hi cx rj en si st sn = 0) : blank 0 0 cm hi cx rj en si st sn = true := by
  cases hb : blank 0 0 cm hi cx rj en si st sn with
  | true => rfl
  | false =>
    exfalso
    unfold ckM1 at h
    rw [hb] at h
    revert h
    split
    · simp
    · split <;> simp

theorem ckM2_blank {fr to tm ix lt cm hi cx : Int} {rj : Bool} {en : Nat} {si st : Int} {sn : Nat} (h : ckM2 fr to tm ix lt cm hi cx rj en si st sn = 0) : blank ix lt cm hi cx false en si st sn = true := by
  cases hb : blank ix lt cm hi cx false en si st sn with
  | true => rfl
  | false =>
    exfalso
    unfold ckM2 at h
    rw [hb] at h
    revert h
    split
    · simp
    · split <;> simp

theorem ckM3_blank {fr to tm ix lt cm hi cx : Int} {rj : Bool} {es : List Ent} {si st : Int} {sn : Nat} (h : ckM3 fr to tm ix lt cm hi cx rj es si st sn = 0) : blank 0 0 0 hi cx rj 0 si st sn = true := by
  cases hb : blank 0 0 0 hi cx rj 0 si st sn with
  | true => rfl
  | false =>
    exfalso
    unfold ckM3 at h
    rw [hb] at h
    revert h
    split
    · simp
    · split <;> simp

theorem ckM4_blank {fr to tm ix lt cm hi cx : Int} {rj : Bool} {en : Nat} {si st : Int} {sn : Nat} (h : ckM4 fr to tm ix lt cm hi cx rj en si st sn = 0) : blank 0 lt cm 0 cx false en si st sn = true := by
  cases hb : blank 0 lt cm 0 cx false en si st sn with
  | true => rfl
  | false =>
    exfalso
    unfold ckM4 at h
    rw [hb] at h
    revert h
    split
    · simp
    · split <;> simp

theorem ckM5_blank {fr to tm ix lt cm hi cx : Int} {rj : Bool} {en : Nat} {si st : Int} {sn : Nat} (h : ckM5 fr to tm ix lt cm hi cx rj en si st sn = 0) : blank ix lt 0 hi 0 rj en si st sn = true := by
  cases hb : blank ix lt 0 hi 0 rj en si st sn with
  | true => rfl
  | false =>
    exfalso
    unfold ckM5 at h
    rw [hb] at h
    revert h
    split
    · simp
    · split <;> simp

theorem ckM6_blank {fr to tm ix lt cm hi cx : Int} {rj : Bool} {en : Nat} {si st : Int} {sn : Nat} (h : ckM6 fr to tm ix lt cm hi cx rj en si st sn = 0) : blank ix lt cm hi 0 rj en si st sn = true := by
  cases hb : blank ix lt cm hi 0 rj en si st sn with
  | true => rfl
  | false =>
    exfalso
    unfold ckM6 at h
    rw [hb] at h
    revert h
    split
    · simp
    · split <;> simp

theorem ckM7_blank {fr to tm ix lt cm hi cx : Int} {rj : Bool} {en : Nat} {si st : Int} {sn : Nat} (h : ckM7 fr to tm ix lt cm hi cx rj en si st sn = 0) : blank ix lt cm hi cx rj en 0 0 0 = true := by
  cases hb : blank ix lt cm hi cx rj en 0 0 0 with
  | true => rfl
  | false =>
    exfalso
    unfold ckM7 at h
    rw [hb] at h
    revert h
    split
    · simp
    · split <;> simp

set_option maxRecDepth 100000 in
set_option maxHeartbeats 8000000 in
theorem back1 {fr to tm ix lt cm hi cx : Int} {rj : Bool} {ea : Option Addr} {ec : Nat} {es : List Ent} {si st : Int} {sa : Option Addr} {sc : Nat} {sd : List UInt8} (h : ckM1 fr to tm ix lt cm hi cx rj es.length si st sd.length = 0) (v : Value) (M : Nat) (w : World) (hv : Sl M w v (txM1 fr to tm ix lt)) (hM : M ≤ w.heap.size) :
    Calls Try.prog 51 #[.agg #[], v] w (GotM w 0 (Msg.says ⟨1, fr, to, tm, ix, lt, cm, hi, cx, rj, ea, ec, es, si, st, sa, sc, sd⟩)) := by
  have hbl := blank_out (ckM1_blank h)
  obtain ⟨kfr, kto, ktm, kix, klt, kcm, khi, kcx⟩ := ckM1_ok h
  obtain ⟨-, -, z2, z3, z4, z5, hes, hsi, hst, hsd⟩ := hbl
  obtain rfl : es = [] := List.length_eq_zero_iff.1 hes
  obtain rfl : sd = [] := List.length_eq_zero_iff.1 hsd
  subst z2 z3 z4 z5 hsi hst
  obtain ⟨cfr, rfr⟩ := num_in kfr
  obtain ⟨cto, rto⟩ := num_in kto
  obtain ⟨ctm, rtm⟩ := num_in ktm
  obtain ⟨cix, rix⟩ := num_in kix
  obtain ⟨clt, rlt⟩ := num_in klt
  have e0 := rdN_mid ([]) 1 ((numB fr.toNat ++ (numB to.toNat ++ (numB tm.toNat ++ (numB ix.toNat ++ numB lt.toNat))))) (by decide)
  have e1 := rdN_mid (numB 1) fr.toNat ((numB to.toNat ++ (numB tm.toNat ++ (numB ix.toNat ++ numB lt.toNat)))) rfr
  have e2 := rdN_mid (numB 1 ++ numB fr.toNat) to.toNat ((numB tm.toNat ++ (numB ix.toNat ++ numB lt.toNat))) rto
  have e3 := rdN_mid (numB 1 ++ numB fr.toNat ++ numB to.toNat) tm.toNat ((numB ix.toNat ++ numB lt.toNat)) rtm
  have e4 := rdN_mid (numB 1 ++ numB fr.toNat ++ numB to.toNat ++ numB tm.toNat) ix.toNat (numB lt.toNat) rix
  have e5 := rdN_mid (numB 1 ++ numB fr.toNat ++ numB to.toNat ++ numB tm.toNat ++ numB ix.toNat) lt.toNat ([]) rlt
  simp only [List.nil_append, List.append_nil, List.append_assoc, List.length_nil] at e0 e1 e2 e3 e4 e5
  have hT : txM1 fr to tm ix lt = (numB 1 ++ (numB fr.toNat ++ (numB to.toNat ++ (numB tm.toNat ++ (numB ix.toNat ++ numB lt.toNat))))) := by simp [txM1]
  rw [hT] at hv
  have hl : (numB 1 ++ (numB fr.toNat ++ (numB to.toNat ++ (numB tm.toNat ++ (numB ix.toNat ++ numB lt.toNat))))).length ≤ 1000 := by
    have q0 := numB_len 1
    have q1 := numB_len fr.toNat
    have q2 := numB_len to.toNat
    have q3 := numB_len tm.toNat
    have q4 := numB_len ix.toNat
    have q5 := numB_len lt.toNat
    simp only [List.length_append]; omega
  have hE : 0 = if doneE (numB 1 ++ (numB fr.toNat ++ (numB to.toNat ++ (numB tm.toNat ++ (numB ix.toNat ++ numB lt.toNat))))) (numB 1 ++ (numB fr.toNat ++ (numB to.toNat ++ (numB tm.toNat ++ (numB ix.toNat ++ numB lt.toNat))))).length 0 = 0 then ckM1 (fr.toNat : Int) (to.toNat : Int) (tm.toNat : Int) (ix.toNat : Int) (lt.toNat : Int) 0 0 0 false 0 0 0 0 else doneE (numB 1 ++ (numB fr.toNat ++ (numB to.toNat ++ (numB tm.toNat ++ (numB ix.toNat ++ numB lt.toNat))))) (numB 1 ++ (numB fr.toNat ++ (numB to.toNat ++ (numB tm.toNat ++ (numB ix.toNat ++ numB lt.toNat))))).length 0 := by
    rw [if_pos (doneE_end _), cfr, cto, ctm, cix, clt]; exact h.symm
  refine (getM1_any _ v M w hv hM (by omega) e0 e1 e2 e3 e4 e5 0 hE).mono ?_
  rintro r w' ⟨rfl, hB⟩
  rw [cfr, cto, ctm, cix, clt]
  exact gotM_of ⟨1, fr, to, tm, ix, lt, 0, 0, 0, false, none, 0, [], 0, 0, none, 0, []⟩ rfl ⟨EntsOw.nil _ _, Ow.nil _ _⟩ hB

set_option maxRecDepth 100000 in
set_option maxHeartbeats 8000000 in
theorem back2 {fr to tm ix lt cm hi cx : Int} {rj : Bool} {ea : Option Addr} {ec : Nat} {es : List Ent} {si st : Int} {sa : Option Addr} {sc : Nat} {sd : List UInt8} (h : ckM2 fr to tm ix lt cm hi cx rj es.length si st sd.length = 0) (v : Value) (M : Nat) (w : World) (hv : Sl M w v (txM2 fr to tm rj)) (hM : M ≤ w.heap.size) :
    Calls Try.prog 51 #[.agg #[], v] w (GotM w 0 (Msg.says ⟨2, fr, to, tm, ix, lt, cm, hi, cx, rj, ea, ec, es, si, st, sa, sc, sd⟩)) := by
  have hbl := blank_out (ckM2_blank h)
  obtain ⟨kfr, kto, ktm, kix, klt, kcm, khi, kcx⟩ := ckM2_ok h
  obtain ⟨z0, z1, z2, z3, z4, -, hes, hsi, hst, hsd⟩ := hbl
  obtain rfl : es = [] := List.length_eq_zero_iff.1 hes
  obtain rfl : sd = [] := List.length_eq_zero_iff.1 hsd
  subst z0 z1 z2 z3 z4 hsi hst
  obtain ⟨cfr, rfr⟩ := num_in kfr
  obtain ⟨cto, rto⟩ := num_in kto
  obtain ⟨ctm, rtm⟩ := num_in ktm
  have e0 := rdN_mid ([]) 2 ((numB fr.toNat ++ (numB to.toNat ++ (numB tm.toNat ++ numB (bN rj))))) (by decide)
  have e1 := rdN_mid (numB 2) fr.toNat ((numB to.toNat ++ (numB tm.toNat ++ numB (bN rj)))) rfr
  have e2 := rdN_mid (numB 2 ++ numB fr.toNat) to.toNat ((numB tm.toNat ++ numB (bN rj))) rto
  have e3 := rdN_mid (numB 2 ++ numB fr.toNat ++ numB to.toNat) tm.toNat (numB (bN rj)) rtm
  have e4 := rdT_mid (numB 2 ++ numB fr.toNat ++ numB to.toNat ++ numB tm.toNat) rj ([])
  simp only [List.nil_append, List.append_nil, List.append_assoc, List.length_nil] at e0 e1 e2 e3 e4
  have hT : txM2 fr to tm rj = (numB 2 ++ (numB fr.toNat ++ (numB to.toNat ++ (numB tm.toNat ++ numB (bN rj))))) := by simp [txM2]
  rw [hT] at hv
  have hl : (numB 2 ++ (numB fr.toNat ++ (numB to.toNat ++ (numB tm.toNat ++ numB (bN rj))))).length ≤ 1000 := by
    have q0 := numB_len 2
    have q1 := numB_len fr.toNat
    have q2 := numB_len to.toNat
    have q3 := numB_len tm.toNat
    have q4 := numB_len (bN rj)
    simp only [List.length_append]; omega
  have hE : 0 = if doneE (numB 2 ++ (numB fr.toNat ++ (numB to.toNat ++ (numB tm.toNat ++ numB (bN rj))))) (numB 2 ++ (numB fr.toNat ++ (numB to.toNat ++ (numB tm.toNat ++ numB (bN rj))))).length 0 = 0 then ckM2 (fr.toNat : Int) (to.toNat : Int) (tm.toNat : Int) 0 0 0 0 0 rj 0 0 0 0 else doneE (numB 2 ++ (numB fr.toNat ++ (numB to.toNat ++ (numB tm.toNat ++ numB (bN rj))))) (numB 2 ++ (numB fr.toNat ++ (numB to.toNat ++ (numB tm.toNat ++ numB (bN rj))))).length 0 := by
    rw [if_pos (doneE_end _), cfr, cto, ctm]; exact h.symm
  refine (getM2_any _ v M w hv hM (by omega) e0 e1 e2 e3 e4 0 hE).mono ?_
  rintro r w' ⟨rfl, hB⟩
  rw [cfr, cto, ctm]
  exact gotM_of ⟨2, fr, to, tm, 0, 0, 0, 0, 0, rj, none, 0, [], 0, 0, none, 0, []⟩ rfl ⟨EntsOw.nil _ _, Ow.nil _ _⟩ hB

set_option maxRecDepth 100000 in
set_option maxHeartbeats 8000000 in
theorem back4 {fr to tm ix lt cm hi cx : Int} {rj : Bool} {ea : Option Addr} {ec : Nat} {es : List Ent} {si st : Int} {sa : Option Addr} {sc : Nat} {sd : List UInt8} (h : ckM4 fr to tm ix lt cm hi cx rj es.length si st sd.length = 0) (v : Value) (M : Nat) (w : World) (hv : Sl M w v (txM4 fr to tm ix hi rj)) (hM : M ≤ w.heap.size) :
    Calls Try.prog 51 #[.agg #[], v] w (GotM w 0 (Msg.says ⟨4, fr, to, tm, ix, lt, cm, hi, cx, rj, ea, ec, es, si, st, sa, sc, sd⟩)) := by
  have hbl := blank_out (ckM4_blank h)
  obtain ⟨kfr, kto, ktm, kix, klt, kcm, khi, kcx⟩ := ckM4_ok h
  obtain ⟨-, z1, z2, -, z4, -, hes, hsi, hst, hsd⟩ := hbl
  obtain rfl : es = [] := List.length_eq_zero_iff.1 hes
  obtain rfl : sd = [] := List.length_eq_zero_iff.1 hsd
  subst z1 z2 z4 hsi hst
  obtain ⟨cfr, rfr⟩ := num_in kfr
  obtain ⟨cto, rto⟩ := num_in kto
  obtain ⟨ctm, rtm⟩ := num_in ktm
  obtain ⟨cix, rix⟩ := num_in kix
  obtain ⟨chi, rhi⟩ := num_in khi
  have e0 := rdN_mid ([]) 4 ((numB fr.toNat ++ (numB to.toNat ++ (numB tm.toNat ++ (numB ix.toNat ++ (numB (bN rj) ++ numB hi.toNat)))))) (by decide)
  have e1 := rdN_mid (numB 4) fr.toNat ((numB to.toNat ++ (numB tm.toNat ++ (numB ix.toNat ++ (numB (bN rj) ++ numB hi.toNat))))) rfr
  have e2 := rdN_mid (numB 4 ++ numB fr.toNat) to.toNat ((numB tm.toNat ++ (numB ix.toNat ++ (numB (bN rj) ++ numB hi.toNat)))) rto
  have e3 := rdN_mid (numB 4 ++ numB fr.toNat ++ numB to.toNat) tm.toNat ((numB ix.toNat ++ (numB (bN rj) ++ numB hi.toNat))) rtm
  have e4 := rdN_mid (numB 4 ++ numB fr.toNat ++ numB to.toNat ++ numB tm.toNat) ix.toNat ((numB (bN rj) ++ numB hi.toNat)) rix
  have e5 := rdT_mid (numB 4 ++ numB fr.toNat ++ numB to.toNat ++ numB tm.toNat ++ numB ix.toNat) rj (numB hi.toNat)
  have e6 := rdN_mid (numB 4 ++ numB fr.toNat ++ numB to.toNat ++ numB tm.toNat ++ numB ix.toNat ++ numB (bN rj)) hi.toNat ([]) rhi
  simp only [List.nil_append, List.append_nil, List.append_assoc, List.length_nil] at e0 e1 e2 e3 e4 e5 e6
  have hT : txM4 fr to tm ix hi rj = (numB 4 ++ (numB fr.toNat ++ (numB to.toNat ++ (numB tm.toNat ++ (numB ix.toNat ++ (numB (bN rj) ++ numB hi.toNat)))))) := by simp [txM4]
  rw [hT] at hv
  have hl : (numB 4 ++ (numB fr.toNat ++ (numB to.toNat ++ (numB tm.toNat ++ (numB ix.toNat ++ (numB (bN rj) ++ numB hi.toNat)))))).length ≤ 1000 := by
    have q0 := numB_len 4
    have q1 := numB_len fr.toNat
    have q2 := numB_len to.toNat
    have q3 := numB_len tm.toNat
    have q4 := numB_len ix.toNat
    have q5 := numB_len (bN rj)
    have q6 := numB_len hi.toNat
    simp only [List.length_append]; omega
  have hE : 0 = if doneE (numB 4 ++ (numB fr.toNat ++ (numB to.toNat ++ (numB tm.toNat ++ (numB ix.toNat ++ (numB (bN rj) ++ numB hi.toNat)))))) (numB 4 ++ (numB fr.toNat ++ (numB to.toNat ++ (numB tm.toNat ++ (numB ix.toNat ++ (numB (bN rj) ++ numB hi.toNat)))))).length 0 = 0 then ckM4 (fr.toNat : Int) (to.toNat : Int) (tm.toNat : Int) (ix.toNat : Int) 0 0 (hi.toNat : Int) 0 rj 0 0 0 0 else doneE (numB 4 ++ (numB fr.toNat ++ (numB to.toNat ++ (numB tm.toNat ++ (numB ix.toNat ++ (numB (bN rj) ++ numB hi.toNat)))))) (numB 4 ++ (numB fr.toNat ++ (numB to.toNat ++ (numB tm.toNat ++ (numB ix.toNat ++ (numB (bN rj) ++ numB hi.toNat)))))).length 0 := by
    rw [if_pos (doneE_end _), cfr, cto, ctm, cix, chi]; exact h.symm
  refine (getM4_any _ v M w hv hM (by omega) e0 e1 e2 e3 e4 e5 e6 0 hE).mono ?_
  rintro r w' ⟨rfl, hB⟩
  rw [cfr, cto, ctm, cix, chi]
  exact gotM_of ⟨4, fr, to, tm, ix, 0, 0, hi, 0, rj, none, 0, [], 0, 0, none, 0, []⟩ rfl ⟨EntsOw.nil _ _, Ow.nil _ _⟩ hB

set_option maxRecDepth 100000 in
set_option maxHeartbeats 8000000 in
theorem back5 {fr to tm ix lt cm hi cx : Int} {rj : Bool} {ea : Option Addr} {ec : Nat} {es : List Ent} {si st : Int} {sa : Option Addr} {sc : Nat} {sd : List UInt8} (h : ckM5 fr to tm ix lt cm hi cx rj es.length si st sd.length = 0) (v : Value) (M : Nat) (w : World) (hv : Sl M w v (txM5 fr to tm cm cx)) (hM : M ≤ w.heap.size) :
    Calls Try.prog 51 #[.agg #[], v] w (GotM w 0 (Msg.says ⟨5, fr, to, tm, ix, lt, cm, hi, cx, rj, ea, ec, es, si, st, sa, sc, sd⟩)) := by
  have hbl := blank_out (ckM5_blank h)
  obtain ⟨kfr, kto, ktm, kix, klt, kcm, khi, kcx⟩ := ckM5_ok h
  obtain ⟨z0, z1, -, z3, -, z5, hes, hsi, hst, hsd⟩ := hbl
  obtain rfl : es = [] := List.length_eq_zero_iff.1 hes
  obtain rfl : sd = [] := List.length_eq_zero_iff.1 hsd
  subst z0 z1 z3 z5 hsi hst
  obtain ⟨cfr, rfr⟩ := num_in kfr
  obtain ⟨cto, rto⟩ := num_in kto
  obtain ⟨ctm, rtm⟩ := num_in ktm
  obtain ⟨ccm, rcm⟩ := num_in kcm
  obtain ⟨ccx, rcx⟩ := num_in kcx
  have e0 := rdN_mid ([]) 5 ((numB fr.toNat ++ (numB to.toNat ++ (numB tm.toNat ++ (numB cm.toNat ++ numB cx.toNat))))) (by decide)
  have e1 := rdN_mid (numB 5) fr.toNat ((numB to.toNat ++ (numB tm.toNat ++ (numB cm.toNat ++ numB cx.toNat)))) rfr
  have e2 := rdN_mid (numB 5 ++ numB fr.toNat) to.toNat ((numB tm.toNat ++ (numB cm.toNat ++ numB cx.toNat))) rto
  have e3 := rdN_mid (numB 5 ++ numB fr.toNat ++ numB to.toNat) tm.toNat ((numB cm.toNat ++ numB cx.toNat)) rtm
  have e4 := rdN_mid (numB 5 ++ numB fr.toNat ++ numB to.toNat ++ numB tm.toNat) cm.toNat (numB cx.toNat) rcm
  have e5 := rdN_mid (numB 5 ++ numB fr.toNat ++ numB to.toNat ++ numB tm.toNat ++ numB cm.toNat) cx.toNat ([]) rcx
  simp only [List.nil_append, List.append_nil, List.append_assoc, List.length_nil] at e0 e1 e2 e3 e4 e5
  have hT : txM5 fr to tm cm cx = (numB 5 ++ (numB fr.toNat ++ (numB to.toNat ++ (numB tm.toNat ++ (numB cm.toNat ++ numB cx.toNat))))) := by simp [txM5]
  rw [hT] at hv
  have hl : (numB 5 ++ (numB fr.toNat ++ (numB to.toNat ++ (numB tm.toNat ++ (numB cm.toNat ++ numB cx.toNat))))).length ≤ 1000 := by
    have q0 := numB_len 5
    have q1 := numB_len fr.toNat
    have q2 := numB_len to.toNat
    have q3 := numB_len tm.toNat
    have q4 := numB_len cm.toNat
    have q5 := numB_len cx.toNat
    simp only [List.length_append]; omega
  have hE : 0 = if doneE (numB 5 ++ (numB fr.toNat ++ (numB to.toNat ++ (numB tm.toNat ++ (numB cm.toNat ++ numB cx.toNat))))) (numB 5 ++ (numB fr.toNat ++ (numB to.toNat ++ (numB tm.toNat ++ (numB cm.toNat ++ numB cx.toNat))))).length 0 = 0 then ckM5 (fr.toNat : Int) (to.toNat : Int) (tm.toNat : Int) 0 0 (cm.toNat : Int) 0 (cx.toNat : Int) false 0 0 0 0 else doneE (numB 5 ++ (numB fr.toNat ++ (numB to.toNat ++ (numB tm.toNat ++ (numB cm.toNat ++ numB cx.toNat))))) (numB 5 ++ (numB fr.toNat ++ (numB to.toNat ++ (numB tm.toNat ++ (numB cm.toNat ++ numB cx.toNat))))).length 0 := by
    rw [if_pos (doneE_end _), cfr, cto, ctm, ccm, ccx]; exact h.symm
  refine (getM5_any _ v M w hv hM (by omega) e0 e1 e2 e3 e4 e5 0 hE).mono ?_
  rintro r w' ⟨rfl, hB⟩
  rw [cfr, cto, ctm, ccm, ccx]
  exact gotM_of ⟨5, fr, to, tm, 0, 0, cm, 0, cx, false, none, 0, [], 0, 0, none, 0, []⟩ rfl ⟨EntsOw.nil _ _, Ow.nil _ _⟩ hB

set_option maxRecDepth 100000 in
set_option maxHeartbeats 8000000 in
theorem back6 {fr to tm ix lt cm hi cx : Int} {rj : Bool} {ea : Option Addr} {ec : Nat} {es : List Ent} {si st : Int} {sa : Option Addr} {sc : Nat} {sd : List UInt8} (h : ckM6 fr to tm ix lt cm hi cx rj es.length si st sd.length = 0) (v : Value) (M : Nat) (w : World) (hv : Sl M w v (txM6 fr to tm cx)) (hM : M ≤ w.heap.size) :
    Calls Try.prog 51 #[.agg #[], v] w (GotM w 0 (Msg.says ⟨6, fr, to, tm, ix, lt, cm, hi, cx, rj, ea, ec, es, si, st, sa, sc, sd⟩)) := by
  have hbl := blank_out (ckM6_blank h)
  obtain ⟨kfr, kto, ktm, kix, klt, kcm, khi, kcx⟩ := ckM6_ok h
  obtain ⟨z0, z1, z2, z3, -, z5, hes, hsi, hst, hsd⟩ := hbl
  obtain rfl : es = [] := List.length_eq_zero_iff.1 hes
  obtain rfl : sd = [] := List.length_eq_zero_iff.1 hsd
  subst z0 z1 z2 z3 z5 hsi hst
  obtain ⟨cfr, rfr⟩ := num_in kfr
  obtain ⟨cto, rto⟩ := num_in kto
  obtain ⟨ctm, rtm⟩ := num_in ktm
  obtain ⟨ccx, rcx⟩ := num_in kcx
  have e0 := rdN_mid ([]) 6 ((numB fr.toNat ++ (numB to.toNat ++ (numB tm.toNat ++ numB cx.toNat)))) (by decide)
  have e1 := rdN_mid (numB 6) fr.toNat ((numB to.toNat ++ (numB tm.toNat ++ numB cx.toNat))) rfr
  have e2 := rdN_mid (numB 6 ++ numB fr.toNat) to.toNat ((numB tm.toNat ++ numB cx.toNat)) rto
  have e3 := rdN_mid (numB 6 ++ numB fr.toNat ++ numB to.toNat) tm.toNat (numB cx.toNat) rtm
  have e4 := rdN_mid (numB 6 ++ numB fr.toNat ++ numB to.toNat ++ numB tm.toNat) cx.toNat ([]) rcx
  simp only [List.nil_append, List.append_nil, List.append_assoc, List.length_nil] at e0 e1 e2 e3 e4
  have hT : txM6 fr to tm cx = (numB 6 ++ (numB fr.toNat ++ (numB to.toNat ++ (numB tm.toNat ++ numB cx.toNat)))) := by simp [txM6]
  rw [hT] at hv
  have hl : (numB 6 ++ (numB fr.toNat ++ (numB to.toNat ++ (numB tm.toNat ++ numB cx.toNat)))).length ≤ 1000 := by
    have q0 := numB_len 6
    have q1 := numB_len fr.toNat
    have q2 := numB_len to.toNat
    have q3 := numB_len tm.toNat
    have q4 := numB_len cx.toNat
    simp only [List.length_append]; omega
  have hE : 0 = if doneE (numB 6 ++ (numB fr.toNat ++ (numB to.toNat ++ (numB tm.toNat ++ numB cx.toNat)))) (numB 6 ++ (numB fr.toNat ++ (numB to.toNat ++ (numB tm.toNat ++ numB cx.toNat)))).length 0 = 0 then ckM6 (fr.toNat : Int) (to.toNat : Int) (tm.toNat : Int) 0 0 0 0 (cx.toNat : Int) false 0 0 0 0 else doneE (numB 6 ++ (numB fr.toNat ++ (numB to.toNat ++ (numB tm.toNat ++ numB cx.toNat)))) (numB 6 ++ (numB fr.toNat ++ (numB to.toNat ++ (numB tm.toNat ++ numB cx.toNat)))).length 0 := by
    rw [if_pos (doneE_end _), cfr, cto, ctm, ccx]; exact h.symm
  refine (getM6_any _ v M w hv hM (by omega) e0 e1 e2 e3 e4 0 hE).mono ?_
  rintro r w' ⟨rfl, hB⟩
  rw [cfr, cto, ctm, ccx]
  exact gotM_of ⟨6, fr, to, tm, 0, 0, 0, 0, cx, false, none, 0, [], 0, 0, none, 0, []⟩ rfl ⟨EntsOw.nil _ _, Ow.nil _ _⟩ hB

theorem ckM7_sn {fr to tm ix lt cm hi cx : Int} {rj : Bool} {en : Nat} {si st : Int} {sn : Nat} (h : ckM7 fr to tm ix lt cm hi cx rj en si st sn = 0) : ckSnap si st sn = 0 := by
  have h2 : ckSnapM tm si st sn = 0 := by
    unfold ckM7 at h
    revert h
    split
    · simp
    · split
      · simp
      · split
        · simp
        · exact id
  unfold ckSnapM at h2
  by_cases h3 : ckSnap si st sn = 0
  · exact h3
  · rw [if_pos h3] at h2; exact h2

set_option maxRecDepth 100000 in
set_option maxHeartbeats 8000000 in
theorem back7 {fr to tm ix lt cm hi cx : Int} {rj : Bool} {ea : Option Addr} {ec : Nat} {es : List Ent} {si st : Int} {sa : Option Addr} {sc : Nat} {sd : List UInt8} (h : ckM7 fr to tm ix lt cm hi cx rj es.length si st sd.length = 0) (v : Value) (M : Nat) (w : World) (hv : Sl M w v (numB 7 ++ numB fr.toNat ++ numB to.toNat ++ numB tm.toNat ++ (numB (txSnap si st sd).length ++ txSnap si st sd))) (hM : M ≤ w.heap.size) :
    Calls Try.prog 51 #[.agg #[], v] w (GotM w 0 (Msg.says ⟨7, fr, to, tm, ix, lt, cm, hi, cx, rj, ea, ec, es, si, st, sa, sc, sd⟩)) := by
  obtain ⟨z0, z1, z2, z3, z4, z5, hes, -, -, -⟩ := blank_out (ckM7_blank h)
  obtain ⟨kfr, kto, ktm, -, -, -, -, -⟩ := ckM7_ok h
  obtain rfl : es = [] := List.length_eq_zero_iff.1 hes
  subst z0 z1 z2 z3 z4 z5
  have hs := ckM7_sn h
  obtain ⟨g0, g1⟩ := geSnap_tx hs
  obtain ⟨ksi, kst, ksd⟩ := ckSnap_ok hs
  have hsl := txSnap_len si st sd
  obtain ⟨cfr, rfr⟩ := num_in kfr
  obtain ⟨cto, rto⟩ := num_in kto
  obtain ⟨ctm, rtm⟩ := num_in ktm
  obtain ⟨csi, rsi⟩ := num_in ksi
  obtain ⟨cst, rst⟩ := num_in kst
  obtain ⟨S, hS⟩ : ∃ S, txSnap si st sd = S := ⟨_, rfl⟩
  rw [hS] at hv g0 g1 hsl
  have e0 := rdN_mid ([]) 7 (numB fr.toNat ++ (numB to.toNat ++ (numB tm.toNat ++ (numB S.length ++ S)))) (by decide)
  have e1 := rdN_mid (numB 7) fr.toNat (numB to.toNat ++ (numB tm.toNat ++ (numB S.length ++ S))) rfr
  have e2 := rdN_mid (numB 7 ++ numB fr.toNat) to.toNat (numB tm.toNat ++ (numB S.length ++ S)) rto
  have e3 := rdN_mid (numB 7 ++ numB fr.toNat ++ numB to.toNat) tm.toNat (numB S.length ++ S) rtm
  have e4 := rdB_mid (numB 7 ++ numB fr.toNat ++ numB to.toNat ++ numB tm.toNat) S ([]) 1048576 (by omega) (by omega)
  simp only [List.nil_append, List.append_nil, List.append_assoc, List.length_nil] at e0 e1 e2 e3 e4 hv
  have hl : (numB 7 ++ (numB fr.toNat ++ (numB to.toNat ++ (numB tm.toNat ++ (numB S.length ++ S))))).length ≤ 1000000 := by
    have q0 := numB_len 7
    have q1 := numB_len fr.toNat
    have q2 := numB_len to.toNat
    have q3 := numB_len tm.toNat
    have q4 := numB_len S.length
    simp only [List.length_append]; omega
  have hG : (si.toNat, st.toNat, sd) = if (0 : Nat) ≠ 0 then (0, 0, []) else goSnap S := by simp [g1]
  have hE7 : 0 = if (0 : Nat) ≠ 0 then 0 else geSnap S := by simp [g0]
  have hE : 0 = if (0 : Nat) ≠ 0 then 0 else if doneE (numB 7 ++ (numB fr.toNat ++ (numB to.toNat ++ (numB tm.toNat ++ (numB S.length ++ S))))) (numB 7 ++ (numB fr.toNat ++ (numB to.toNat ++ (numB tm.toNat ++ (numB S.length ++ S))))).length 0 = 0 then ckM7 (fr.toNat : Int) (to.toNat : Int) (tm.toNat : Int) 0 0 0 0 0 false 0 (si.toNat : Int) (st.toNat : Int) sd.length else doneE (numB 7 ++ (numB fr.toNat ++ (numB to.toNat ++ (numB tm.toNat ++ (numB S.length ++ S))))) (numB 7 ++ (numB fr.toNat ++ (numB to.toNat ++ (numB tm.toNat ++ (numB S.length ++ S))))).length 0 := by
    rw [if_neg (by simp), if_pos (doneE_end _), cfr, cto, ctm, csi, cst]; exact h.symm
  refine (getM7_any _ v M w hv hM (by omega) e0 e1 e2 e3 e4 hG 0 0 hE7 hE).mono ?_
  rintro r w' ⟨hg, hB⟩
  have := gotM_7 hg hB
  rw [if_pos rfl, cfr, cto, ctm, csi, cst] at this
  exact this

theorem rdEs_packs (es : List Ent) (h : ∀ e ∈ es, e.ck = 0) : ∀ pre : List UInt8, rdEs (pre ++ packs es) 8192 es.length (pre.length, 0) = (0, es.map (fun e => (e.t.toNat, e.i.toNat, e.k.toNat, e.d)), ((pre ++ packs es).length, 0)) := by
  induction es with
  | nil => intro pre; simp [rdEs, packs]
  | cons e r ih =>
    intro pre
    have he := h e (by simp)
    unfold Ent.ck at he
    obtain ⟨-, -, -, kd⟩ := ckEntry_ok he
    have hl := txEntry_len e.t e.i e.k e.d
    have hb : rdB (pre ++ packs (e :: r)) 8192 (pre.length, 0) = (e.tx, ((pre ++ (numB e.tx.length ++ e.tx)).length, 0)) := by
      have := rdB_mid pre e.tx (packs r) 8192 (by unfold Ent.tx; omega) (by unfold Ent.tx; omega)
      simpa [packs] using this
    obtain ⟨g0, g1⟩ := geEntry_tx he
    have ih2 := ih (fun x hx => h x (by simp [hx])) (pre ++ (numB e.tx.length ++ e.tx))
    have hc : pre ++ packs (e :: r) = (pre ++ (numB e.tx.length ++ e.tx)) ++ packs r := by simp [packs]
    simp only [List.length_cons, rdEs, hb]
    rw [if_neg (by simp), show e.tx = txEntry e.t e.i e.k e.d from rfl, g0, g1, if_neg (by simp)]
    rw [show txEntry e.t e.i e.k e.d = e.tx from rfl, hc, ih2]
    simp

theorem entries_nat {es : List Ent} (h : ∀ e ∈ es, e.ck = 0) : saysN (es.map (fun e => (e.t.toNat, e.i.toNat, e.k.toNat, e.d))) = es.map Ent.says := by
  unfold saysN
  rw [List.map_map]
  refine List.map_congr_left fun e he => ?_
  have hk := h e he
  unfold Ent.ck at hk
  obtain ⟨k1, k2, k3, -⟩ := ckEntry_ok hk
  simp only [Function.comp_apply, Ent.says, (num_in k1).1, (num_in k2).1, (num_in k3).1]

theorem ckM3_es {fr to tm ix lt cm hi cx : Int} {rj : Bool} {es : List Ent} {si st : Int} {sn : Nat} (h : ckM3 fr to tm ix lt cm hi cx rj es si st sn = 0) : es.length ≤ 64 ∧ firstErr es = 0 := by
  have h2 : ckApp tm ix lt es = 0 := by
    unfold ckM3 at h
    revert h
    split
    · simp
    · split
      · simp
      · split
        · simp
        · exact id
  unfold ckApp at h2
  by_cases h3 : 64 < es.length
  · rw [if_pos h3] at h2; simp at h2
  · rw [if_neg h3] at h2
    by_cases h4 : firstErr es = 0
    · exact ⟨by omega, h4⟩
    · rw [if_pos h4] at h2; exact absurd h2 h4

set_option maxRecDepth 100000 in
set_option maxHeartbeats 8000000 in
theorem back3 {fr to tm ix lt cm hi cx : Int} {rj : Bool} {ea : Option Addr} {ec : Nat} {es : List Ent} {si st : Int} {sa : Option Addr} {sc : Nat} {sd : List UInt8} (h : ckM3 fr to tm ix lt cm hi cx rj es si st sd.length = 0) (v : Value) (M : Nat) (w : World) (hv : Sl M w v (numB 3 ++ numB fr.toNat ++ numB to.toNat ++ numB tm.toNat ++ (numB ix.toNat ++ (numB lt.toNat ++ (numB cm.toNat ++ (numB es.length ++ packs es)))))) (hM : M ≤ w.heap.size) :
    Calls Try.prog 51 #[.agg #[], v] w (GotM w 0 (Msg.says ⟨3, fr, to, tm, ix, lt, cm, hi, cx, rj, ea, ec, es, si, st, sa, sc, sd⟩)) := by
  obtain ⟨-, -, -, z3, z4, z5, -, hsi, hst, hsd⟩ := blank_out (ckM3_blank h)
  obtain ⟨kfr, kto, ktm, kix, klt, kcm, -, -⟩ := ckM3_ok h
  obtain rfl : sd = [] := List.length_eq_zero_iff.1 hsd
  subst z3 z4 z5 hsi hst
  obtain ⟨h64, hfe⟩ := ckM3_es h
  have hall := firstErr_all hfe
  have hpl := packs_len hall
  obtain ⟨cfr, rfr⟩ := num_in kfr
  obtain ⟨cto, rto⟩ := num_in kto
  obtain ⟨ctm, rtm⟩ := num_in ktm
  obtain ⟨cix, rix⟩ := num_in kix
  obtain ⟨clt, rlt⟩ := num_in klt
  obtain ⟨ccm, rcm⟩ := num_in kcm
  have e0 := rdN_mid ([]) 3 ((numB fr.toNat ++ (numB to.toNat ++ (numB tm.toNat ++ (numB ix.toNat ++ (numB lt.toNat ++ (numB cm.toNat ++ (numB es.length ++ packs es)))))))) (by decide)
  have e1 := rdN_mid (numB 3) fr.toNat ((numB to.toNat ++ (numB tm.toNat ++ (numB ix.toNat ++ (numB lt.toNat ++ (numB cm.toNat ++ (numB es.length ++ packs es))))))) rfr
  have e2 := rdN_mid (numB 3 ++ numB fr.toNat) to.toNat ((numB tm.toNat ++ (numB ix.toNat ++ (numB lt.toNat ++ (numB cm.toNat ++ (numB es.length ++ packs es)))))) rto
  have e3 := rdN_mid (numB 3 ++ numB fr.toNat ++ numB to.toNat) tm.toNat ((numB ix.toNat ++ (numB lt.toNat ++ (numB cm.toNat ++ (numB es.length ++ packs es))))) rtm
  have e4 := rdN_mid (numB 3 ++ numB fr.toNat ++ numB to.toNat ++ numB tm.toNat) ix.toNat ((numB lt.toNat ++ (numB cm.toNat ++ (numB es.length ++ packs es)))) rix
  have e5 := rdN_mid (numB 3 ++ numB fr.toNat ++ numB to.toNat ++ numB tm.toNat ++ numB ix.toNat) lt.toNat ((numB cm.toNat ++ (numB es.length ++ packs es))) rlt
  have e6 := rdN_mid (numB 3 ++ numB fr.toNat ++ numB to.toNat ++ numB tm.toNat ++ numB ix.toNat ++ numB lt.toNat) cm.toNat ((numB es.length ++ packs es)) rcm
  have e7 := rdN_mid (numB 3 ++ numB fr.toNat ++ numB to.toNat ++ numB tm.toNat ++ numB ix.toNat ++ numB lt.toNat ++ numB cm.toNat) es.length (packs es) (by omega)
  have e8 := rdEs_packs es hall (numB 3 ++ numB fr.toNat ++ numB to.toNat ++ numB tm.toNat ++ numB ix.toNat ++ numB lt.toNat ++ numB cm.toNat ++ numB es.length)
  simp only [List.nil_append, List.append_assoc, List.length_nil] at e0 e1 e2 e3 e4 e5 e6 e7 e8 hv
  have hl : (numB 3 ++ (numB fr.toNat ++ (numB to.toNat ++ (numB tm.toNat ++ (numB ix.toNat ++ (numB lt.toNat ++ (numB cm.toNat ++ (numB es.length ++ packs es)))))))).length ≤ 1000000 := by
    have q0 := numB_len 3
    have q1 := numB_len fr.toNat
    have q2 := numB_len to.toNat
    have q3 := numB_len tm.toNat
    have q4 := numB_len ix.toNat
    have q5 := numB_len lt.toNat
    have q6 := numB_len cm.toNat
    have q7 := numB_len es.length
    simp only [List.length_append]; omega
  have hck : ckM3 (fr.toNat : Int) (to.toNat : Int) (tm.toNat : Int) (ix.toNat : Int) (lt.toNat : Int) (cm.toNat : Int) 0 0 false (entsOf (es.map (fun e => (e.t.toNat, e.i.toNat, e.k.toNat, e.d)))) 0 0 0 = 0 := by
    rw [cfr, cto, ctm, cix, clt, ccm]
    exact (ckM3_says ((entsOf_says _).trans (entries_nat hall))).trans h
  have hg := getM3_any _ v M w hv hM (by omega) e0 e1 e2 e3 e4 e5 e6 e7 0 0 (by simp only [e8]; simp; omega) (by simp only [e8]; rw [if_neg (by simp), if_pos (doneE_end _)]; exact hck.symm)
  refine hg.mono ?_
  rintro r w' ⟨hg, hB⟩
  have := gotM_3 hg hB
  rw [if_pos rfl, cfr, cto, ctm, cix, clt, ccm] at this
  simp only [e8, entries_nat hall] at this
  exact this

/-- What was put is read back. -/
theorem back_any (m : Msg) (h : m.ck = 0) (v : Value) (M : Nat) (w : World) (hv : Sl M w v m.tx) (hM : M ≤ w.heap.size) : Calls Try.prog 51 #[.agg #[], v] w (GotM w 0 m.says) := by
  obtain ⟨kd, fr, to, tm, ix, lt, cm, hi, cx, rj, ea, ec, es, si, st, sa, sc, sd⟩ := m
  rcases kinds kd with hk | rfl | rfl | rfl | rfl | rfl | rfl | rfl
  · exfalso
    have := ck_no (m := ⟨kd, fr, to, tm, ix, lt, cm, hi, cx, rj, ea, ec, es, si, st, sa, sc, sd⟩) hk
    rw [this] at h; simp at h
  · exact back1 h v M w hv hM
  · exact back2 h v M w hv hM
  · exact back3 h v M w hv hM
  · exact back4 h v M w hv hM
  · exact back5 h v M w hv hM
  · exact back6 h v M w hv hM
  · exact back7 h v M w hv hM

theorem tx_len (m : Msg) (h : m.ck = 0) : m.tx.length ≤ 1000000 := by
  obtain ⟨kd, fr, to, tm, ix, lt, cm, hi, cx, rj, ea, ec, es, si, st, sa, sc, sd⟩ := m
  rcases kinds kd with hk | rfl | rfl | rfl | rfl | rfl | rfl | rfl
  · exfalso
    have := ck_no (m := ⟨kd, fr, to, tm, ix, lt, cm, hi, cx, rj, ea, ec, es, si, st, sa, sc, sd⟩) hk
    rw [this] at h; simp at h
  · have q0 := numB_len 1
    have q1 := numB_len fr.toNat
    have q2 := numB_len to.toNat
    have q3 := numB_len tm.toNat
    have q4 := numB_len ix.toNat
    have q5 := numB_len lt.toNat
    show (txM1 fr to tm ix lt).length ≤ 1000000
    simp only [txM1, List.length_append]; omega
  · have q0 := numB_len 2
    have q1 := numB_len fr.toNat
    have q2 := numB_len to.toNat
    have q3 := numB_len tm.toNat
    have q4 := numB_len (bN rj)
    show (txM2 fr to tm rj).length ≤ 1000000
    simp only [txM2, List.length_append]; omega
  · have h' : ckM3 fr to tm ix lt cm hi cx rj es si st sd.length = 0 := h
    obtain ⟨h64, hfe⟩ := ckM3_es h'
    have hpl := packs_len (firstErr_all hfe)
    have q0 := numB_len 3
    have q1 := numB_len fr.toNat
    have q2 := numB_len to.toNat
    have q3 := numB_len tm.toNat
    have q4 := numB_len ix.toNat
    have q5 := numB_len lt.toNat
    have q6 := numB_len cm.toNat
    have q7 := numB_len es.length
    show (numB 3 ++ numB fr.toNat ++ numB to.toNat ++ numB tm.toNat ++ (numB ix.toNat ++ (numB lt.toNat ++ (numB cm.toNat ++ (numB es.length ++ packs es))))).length ≤ 1000000
    simp only [List.length_append]; omega
  · have q0 := numB_len 4
    have q1 := numB_len fr.toNat
    have q2 := numB_len to.toNat
    have q3 := numB_len tm.toNat
    have q4 := numB_len ix.toNat
    have q5 := numB_len (bN rj)
    have q6 := numB_len hi.toNat
    show (txM4 fr to tm ix hi rj).length ≤ 1000000
    simp only [txM4, List.length_append]; omega
  · have q0 := numB_len 5
    have q1 := numB_len fr.toNat
    have q2 := numB_len to.toNat
    have q3 := numB_len tm.toNat
    have q4 := numB_len cm.toNat
    have q5 := numB_len cx.toNat
    show (txM5 fr to tm cm cx).length ≤ 1000000
    simp only [txM5, List.length_append]; omega
  · have q0 := numB_len 6
    have q1 := numB_len fr.toNat
    have q2 := numB_len to.toNat
    have q3 := numB_len tm.toNat
    have q4 := numB_len cx.toNat
    show (txM6 fr to tm cx).length ≤ 1000000
    simp only [txM6, List.length_append]; omega
  · have h' : ckM7 fr to tm ix lt cm hi cx rj es.length si st sd.length = 0 := h
    obtain ⟨-, -, ksd⟩ := ckSnap_ok (ckM7_sn h')
    have hsl := txSnap_len si st sd
    have q0 := numB_len 7
    have q1 := numB_len fr.toNat
    have q2 := numB_len to.toNat
    have q3 := numB_len tm.toNat
    have q4 := numB_len (txSnap si st sd).length
    show (numB 7 ++ numB fr.toNat ++ numB to.toNat ++ numB tm.toNat ++ (numB (txSnap si st sd).length ++ txSnap si st sd)).length ≤ 1000000
    simp only [List.length_append]; omega
end Go.Proofs.Ytfnnbfgfmbiabaa

/-
  The texts of which the document fixes all: 'first' is true.
-/
namespace Go.Proofs.Ytfnnbfgfmbiabaa
open Go.RowKit Go.Shelf

theorem tx1 : txEntry 3 300 1 [97, 98] = [3, 172, 2, 1, 2, 97, 98] := by decide +kernel
theorem tx2 : txState 5 2 9 = [5, 2, 9] := by decide +kernel
theorem tx3 : txM1 1 2 4 7 3 = [1, 1, 2, 4, 7, 3] := by decide +kernel
theorem ck1 : ckEntry 3 300 1 2 = 0 := by decide +kernel
theorem ck2 : ckState 5 2 9 = 0 := by decide +kernel
theorem ck3 : ckM1 1 2 4 7 3 0 0 0 false 0 0 0 0 = 0 := by decide +kernel
theorem ck4 : ckState 0 1 0 = 4 := by decide +kernel

theorem sl_marked (w : World) (l : List UInt8) (c : Array Value) (z : Nat × Nat) (hm : l.length ≤ 1000) (hc : c.toList = l.map encB) : Sl (w.heap.size + 1) (w.alloc (.cells c 5 z)) (.slice (some ⟨w.heap.size, 0, none⟩) l.length l.length) l := by
  refine ⟨_, _, rfl, Nat.le_refl _, by unfold maxLen; omega, .inr ⟨_, _, rfl, by omega, fun i hi => ?_⟩⟩
  have h : (w.alloc (.cells c 5 z)).heap[w.heap.size]? = some (.cells c 5 z) := World.alloc_heap_new w _
  simp only [World.cell?, h, Nat.zero_add]
  have : c.toList[i]? = (l.map encB)[i]? := by rw [hc]
  rw [List.getElem?_map, List.getElem?_eq_getElem hi] at this
  simpa [hi] using this
theorem below_drewN {N : Nat} {w w1 : World} (h : Below N w w1) (n : Nat) : Below N w (w1.drewN n) := h.trans ⟨rfl, rfl, rfl, Nat.le_refl _, fun _ _ => rfl⟩

set_option maxRecDepth 100000 in
set_option maxHeartbeats 8000000 in
theorem first_any (w : World) : Calls Try.prog 9 #[] w fun e w' => e = .returned (.bool true) ∧ Below w.heap.size w w' := by
  go_enter Try.func9, Try.ntmps9
  have hcv := fun (w : World) (C : Array Value) (n c : Nat) => Lib.run_convert_bytes_const (P := Try.prog) w 22 5 C n c Try.underlying22 Try.underlying5
  go_wp2_with fail
  clear hcv
  have hs1 := sl_marked w [97, 98] #[.int .u8 97, .int .u8 98] (2, 3) (by simp) (by rfl)
  refine (putEntry_any 3 300 1 [97, 98] _ _ _ _ hs1 (by simp)).mono ?_
  rintro e w1 ⟨v1, rfl, hO1, hB1⟩
  rw [show ([97, 98] : List UInt8).length = 2 from rfl, ck1] at *
  rw [if_pos rfl, tx1] at hO1
  obtain ⟨a1, c1, rfl, -, -⟩ := hO1.shape
  have hz1 := hB1.size
  simp only [World.size_alloc] at hz1
  have HB1 : Hid (Below w.heap.size w w1) := ((Below.refl _ w).alloc (Nat.le_refl _) _).trans (hB1.mono (by simp))
  have HO1 : Hid (Ow w.heap.size w1 (.slice a1 7 c1) [3, 172, 2, 1, 2, 97, 98]) := hO1.base (by simp)
  clear hB1 hs1 hO1
  go_wp2_with fail
  refine (putState_any 5 2 9 w1).mono ?_
  rintro e w2 ⟨v2, rfl, hO2, hB2⟩
  rw [ck2]
  rw [ck2, if_pos rfl, tx2] at hO2
  obtain ⟨a2, c2, rfl, -, -⟩ := hO2.shape
  have hz2 := hB2.size
  have HB2 : Hid (Below w.heap.size w w2) := HB1.out.trans (hB2.mono (by omega))
  have HO12 : Hid (Ow w.heap.size w2 (.slice a1 7 c1) [3, 172, 2, 1, 2, 97, 98]) := HO1.out.below hB2 (Nat.le_refl _)
  have HO2 : Hid (Ow w.heap.size w2 (.slice a2 3 c2) [5, 2, 9]) := hO2.base (by omega)
  clear hB2 hO2 HO1
  go_wp2_with fail
  refine (ckState_any 0 1 0 w2).mono ?_
  rintro e w3 ⟨rfl, hB3⟩
  rw [ck4]
  have hz3 := hB3.size
  have HB3 : Hid (Below w.heap.size w w3) := HB2.out.trans (hB3.mono (by omega))
  have HO13 : Hid (Ow w.heap.size w3 (.slice a1 7 c1) [3, 172, 2, 1, 2, 97, 98]) := HO12.out.below hB3 (Nat.le_refl _)
  have HO23 : Hid (Ow w.heap.size w3 (.slice a2 3 c2) [5, 2, 9]) := HO2.out.below hB3 (Nat.le_refl _)
  clear hB3 HO12 HO2
  go_wp2_with fail
  refine (putM1_any 1 2 4 7 3 0 0 0 false none 0 0 0 0 none 0 0 w3).mono ?_
  rintro e w4 ⟨v4, rfl, hO4, hB4⟩
  rw [ck3]
  rw [ck3, if_pos rfl, tx3] at hO4
  obtain ⟨a4, c4, rfl, -, -⟩ := hO4.shape
  have hz4 := hB4.size
  have HB4 : Hid (Below w.heap.size w w4) := HB3.out.trans (hB4.mono (by omega))
  have HO14 : Hid (Ow w.heap.size w4 (.slice a1 7 c1) [3, 172, 2, 1, 2, 97, 98]) := HO13.out.below hB4 (Nat.le_refl _)
  have HO24 : Hid (Ow w.heap.size w4 (.slice a2 3 c2) [5, 2, 9]) := HO23.out.below hB4 (Nat.le_refl _)
  have HO4 : Hid (Ow w.heap.size w4 (.slice a4 6 c4) [1, 1, 2, 4, 7, 3]) := hO4.base (by omega)
  clear hB4 hO4 HO13 HO23
  go_wp2_with fail
  have hn5 := sl_new w4 [3, 172, 2, 1, 2, 97, 98] #[.int .u8 3, .int .u8 172, .int .u8 2, .int .u8 1, .int .u8 2, .int .u8 97, .int .u8 98] (by simp) (by simp) (by rfl)
  have ha5 := (HO14.out.alloc (.cells #[.int .u8 3, .int .u8 172, .int .u8 2, .int .u8 1, .int .u8 2, .int .u8 97, .int .u8 98] 5)).sl (M := w4.heap.size + 1) (by simp)
  have HB5 : Hid (Below w.heap.size w (w4.alloc (.cells #[.int .u8 3, .int .u8 172, .int .u8 2, .int .u8 1, .int .u8 2, .int .u8 97, .int .u8 98] 5))) := HB4.out.alloc (by omega) _
  have HO25 : Hid (Ow w.heap.size (w4.alloc (.cells #[.int .u8 3, .int .u8 172, .int .u8 2, .int .u8 1, .int .u8 2, .int .u8 97, .int .u8 98] 5)) (.slice a2 3 c2) [5, 2, 9]) := HO24.out.alloc _
  have HO5 : Hid (Ow w.heap.size (w4.alloc (.cells #[.int .u8 3, .int .u8 172, .int .u8 2, .int .u8 1, .int .u8 2, .int .u8 97, .int .u8 98] 5)) (.slice a4 6 c4) [1, 1, 2, 4, 7, 3]) := HO4.out.alloc _
  refine (same_any _ _ _ _ _ _ ha5 hn5).mono ?_
  rintro e w5 ⟨rfl, n5, hw5⟩
  have hB5 : Below w4.heap.size (w4.alloc (.cells #[.int .u8 3, .int .u8 172, .int .u8 2, .int .u8 1, .int .u8 2, .int .u8 97, .int .u8 98] 5)) w5 := by rw [hw5]; exact below_drewN (Below.refl _ _) n5
  have hz5 : w4.heap.size + 1 = w5.heap.size := by rw [hw5]; simp
  have HB6 : Hid (Below w.heap.size w w5) := HB5.out.trans (hB5.mono (by omega))
  have HO26 : Hid (Ow w.heap.size w5 (.slice a2 3 c2) [5, 2, 9]) := by show Ow _ _ _ _; rw [hw5]; exact HO25.out.below (below_drewN (Below.refl _ _) n5) (Nat.le_refl _)
  have HO6 : Hid (Ow w.heap.size w5 (.slice a4 6 c4) [1, 1, 2, 4, 7, 3]) := by show Ow _ _ _ _; rw [hw5]; exact HO5.out.below (below_drewN (Below.refl _ _) n5) (Nat.le_refl _)
  have hzz5 : w.heap.size ≤ w5.heap.size := by omega
  clear hw5 hB5 hz5 HO25 HO5 hn5 ha5 HB5
  simp only [decide_true]
  go_wp2_with fail
  have hn7 := sl_new w5 [5, 2, 9] #[.int .u8 5, .int .u8 2, .int .u8 9] (by simp) (by simp) (by rfl)
  have ha7 := (HO26.out.alloc (.cells #[.int .u8 5, .int .u8 2, .int .u8 9] 5)).sl (M := w5.heap.size + 1) (by simp)
  have HB7 : Hid (Below w.heap.size w (w5.alloc (.cells #[.int .u8 5, .int .u8 2, .int .u8 9] 5))) := HB6.out.alloc hzz5 _
  have HO7 : Hid (Ow w.heap.size (w5.alloc (.cells #[.int .u8 5, .int .u8 2, .int .u8 9] 5)) (.slice a4 6 c4) [1, 1, 2, 4, 7, 3]) := HO6.out.alloc _
  refine (same_any _ _ _ _ _ _ ha7 hn7).mono ?_
  rintro e w7 ⟨rfl, n7, hw7⟩
  have HB8 : Hid (Below w.heap.size w w7) := by show Below _ _ _; rw [hw7]; exact below_drewN HB7.out n7
  have HO8 : Hid (Ow w.heap.size w7 (.slice a4 6 c4) [1, 1, 2, 4, 7, 3]) := by show Ow _ _ _ _; rw [hw7]; exact HO7.out.below (below_drewN (Below.refl _ _) n7) (Nat.le_refl _)
  have hzz7 : w.heap.size ≤ w7.heap.size := HB8.out.size
  clear hw7 HO7 HB7 hn7 ha7
  simp only [decide_true]
  go_wp2_with fail
  have hn9 := sl_new w7 [1, 1, 2, 4, 7, 3] #[.int .u8 1, .int .u8 1, .int .u8 2, .int .u8 4, .int .u8 7, .int .u8 3] (by simp) (by simp) (by rfl)
  have ha9 := (HO8.out.alloc (.cells #[.int .u8 1, .int .u8 1, .int .u8 2, .int .u8 4, .int .u8 7, .int .u8 3] 5)).sl (M := w7.heap.size + 1) (by simp)
  have HB9 : Hid (Below w.heap.size w (w7.alloc (.cells #[.int .u8 1, .int .u8 1, .int .u8 2, .int .u8 4, .int .u8 7, .int .u8 3] 5))) := HB8.out.alloc hzz7 _
  refine (same_any _ _ _ _ _ _ ha9 hn9).mono ?_
  rintro e w9 ⟨rfl, n9, hw9⟩
  have HB10 : Hid (Below w.heap.size w w9) := by show Below _ _ _; rw [hw9]; exact below_drewN HB9.out n9
  clear hw9 hn9 ha9 HB9
  simp only [decide_true]
  go_wp2_with (go_at_call 13; refine (num_any _ _).mono ?_; rintro e w' ⟨rfl, hw⟩; subst w')
  go_ret
  exact ⟨rfl, HB10.out⟩
end Go.Proofs.Ytfnnbfgfmbiabaa

/-
  Bytes that came in, as the walks read them.
-/
namespace Go.Proofs.Ytfnnbfgfmbiabaa
open Go.ChangeShapes Go.WideShapes Go.ChangeAt Go.RowKit

theorem own : ownKnob Try.prog.godebug = none := by kernel_rfl
theorem laidOut : laidOutB Try.prog = true := by kernel_rfl

/-- A slice of integers that came in: nil, or a row of cells. -/
def IsRow (k : IntKind) (w : World) (a : Option Addr) (len cap : Nat) (zs : List Int) : Prop :=
  (a = none ∧ len = 0 ∧ cap = 0 ∧ zs = []) ∨
  ∃ x, a = some x ∧ len ≤ cap ∧ cap ≤ maxLen ∧ zs.length = cap ∧ (∀ i, i < zs.length → w.cell? (x.add i) = some (.int k (zs.getD i 0))) ∧ ∀ n ∈ zs, (Lit.int k n).wf = true

theorem cell_lt {w : World} {p : Addr} {v : Value} (h : w.cell? p = some v) : p.block < w.heap.size := by
  obtain ⟨o, ho, _⟩ := cells_of_cell h
  exact (Array.getElem?_eq_some_iff.1 ho).1

theorem isRow_sl {w : World} {a : Option Addr} {len cap : Nat} {zs : List Int} (h : IsRow .u8 w a len cap zs) : ∃ l : List UInt8, l.length = len ∧ Sl w.heap.size w (.slice a len cap) l := by
  rcases h with ⟨rfl, rfl, rfl, rfl⟩ | ⟨x, rfl, hl, hm, hz, hc, hwf⟩
  · exact ⟨[], rfl, Sl.nil _ _⟩
  · refine ⟨(zs.take len).map (fun z => UInt8.ofNat z.toNat), by simp; omega, ?_⟩
    have hlen : ((zs.take len).map (fun z => UInt8.ofNat z.toNat)).length = len := by simp; omega
    refine ⟨some x, cap, by rw [hlen], by omega, hm, ?_⟩
    by_cases h0 : len = 0
    · subst h0; exact .inl (by simp)
    · obtain ⟨b, off, spot⟩ := x
      have hc0 := hc 0 (by omega)
      have hspot : spot = none := by simpa [Addr.add] using World.cell?_spot hc0
      subst hspot
      refine .inr ⟨b, off, rfl, ?_, fun i hi => ?_⟩
      · have := cell_lt hc0; rw [Addr.add_lit] at this; exact this
      · rw [hlen] at hi
        have h1 := hc i (by omega)
        rw [Addr.add_lit] at h1
        rw [h1]
        have hmem : zs.getD i 0 ∈ zs := by
          rw [List.getD_eq_getElem?_getD, List.getElem?_eq_getElem (by omega)]; exact List.getElem_mem _
        have hb := bounds_u8 (hwf _ hmem)
        simp only [List.getElem?_map, List.getElem?_take, hi, if_true, List.getD_eq_getElem?_getD] at hb ⊢
        rw [List.getElem?_eq_getElem (by omega)] at hb ⊢
        simp only [Option.getD_some, Option.map_some, encB] at hb ⊢
        congr 2
        simp
        omega
end Go.Proofs.Ytfnnbfgfmbiabaa

