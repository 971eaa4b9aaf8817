/-
  What a quoted word at a place holds: the document's walk.
-/
import Derived.Test.YtbckogojnjmjcaaGreatDoorW2
import Derived.Laws.IdiomStrings
import Derived.Lib.BufferRead
namespace Go.Proofs.YtbckogojnjmjcaaGreatDoor
open Go.RowKit Go.Shelf

def encB (b : UInt8) : Value := .int .u8 (b.toNat : Int)
theorem tyB : Ty 92 5 (.int .u8 0) 1 1 := ⟨Tryz.underlying92, by kernel_rfl, rfl, by decide, by decide⟩
/-- Bytes of the call's own. -/
def BOw (N : Nat) (w : World) (v : Value) (l : Bs) : Prop := w.ownsRow N 5 1 v l.length (l.map encB)
theorem BOw.conv {N : Nat} {w : World} {v : Value} {l : Bs} (h : BOw N w v l) : (convert 92 9 v).run Tryz.prog w = .ok (.string ⟨l.toArray⟩) w := by
  rcases h.2 with ⟨h1, h2⟩ | ⟨g, cap, cur, rfl, h2, h3, h4, h5, h6, h7⟩
  · have : l = [] := List.length_eq_zero_iff.1 h2
    subst this
    rw [h1]
    exact Lib.run_convert_nil_bytes w _ _ 5 0 Tryz.underlying92 Tryz.underlying5 Tryz.underlying9
  · refine run_convert_bytes_back w _ _ 5 ⟨g, 0, none⟩ cap l Tryz.underlying92 Tryz.underlying5 Tryz.underlying9 (fun j hj => ?_)
    rw [Addr.add_lit, Nat.zero_add]
    have := (row_cell h (j := j) (by omega)).1
    rw [this, List.getD_eq_getElem?_getD, List.getElem?_map, List.getElem?_eq_getElem hj]
    rfl
/-- What quoted answers. -/
def RqR (s : Bs) (at_ : Nat) (e : Ending) : Prop := (∃ h r, s.drop (at_ + 1) = flat h ++ 34 :: r ∧ e = .returned (.tuple #[.string ⟨h.toArray⟩, .int .i64 ((s.length - r.length : Nat) : Int)])) ∨ (NoQ (s.drop (at_ + 1)) ∧ e = .returned (.tuple #[.string ⟨#[]⟩, .int .i64 (-1)]))
theorem idx_s {s : Bs} {k : Nat} {c : UInt8} (h : s[k]? = some c) : ∃ hk : k < (⟨s.toArray⟩ : ByteArray).size, (⟨s.toArray⟩ : ByteArray)[k]'hk = c := by
  obtain ⟨h1, h2⟩ := List.getElem?_eq_some_iff.1 h
  exact ⟨by show k < s.toArray.size; simpa using h1, h2⟩
theorem drop_c {s : Bs} {k : Nat} (hk : k < s.length) : ∃ c, s[k]? = some c ∧ s.drop k = c :: s.drop (k + 1) := ⟨s[k], List.getElem?_eq_getElem hk, List.drop_eq_getElem_cons hk⟩
theorem wk2 (k : Nat) (hk : k ≤ 1000000) : IntKind.i64.wrap ((k : Int) + 2) = (k : Int) + 2 := by rw [IntKind.wrap_i64]; omega
theorem wk3 (k : Nat) (hk : k ≤ 1000000) : IntKind.i64.wrap ((k : Int) + 3) = (k : Int) + 3 := by rw [IntKind.wrap_i64]; omega
theorem w16 (p : Nat) (hp : p < 16) : IntKind.i64.wrap (16 * (p : Int)) = 16 * (p : Int) := by rw [IntKind.wrap_i64]; omega
theorem w16q (p q : Nat) (hp : p < 16) (hq : q < 16) : IntKind.i64.wrap (16 * (p : Int) + (q : Int)) = 16 * (p : Int) + (q : Int) := by rw [IntKind.wrap_i64]; omega
theorem w8 (p q : Nat) (hp : p < 16) (hq : q < 16) : IntKind.u8.wrap (16 * (p : Int) + (q : Int)) = 16 * (p : Int) + (q : Int) := by
  have : IntKind.u8.wrap (16 * (p : Int) + (q : Int)) = (16 * (p : Int) + (q : Int)) % 256 := rfl
  rw [this]
  omega
set_option maxRecDepth 100000 in
set_option maxHeartbeats 8000000 in
theorem rquoted_any (s : Bs) (hl : s.length ≤ 1000000) (at_ : Nat) (hat : at_ < s.length) (w : World) : Calls Tryz.prog 35 #[.string ⟨s.toArray⟩, .int .i64 (at_ : Int)] w fun e w' => RqR s at_ e ∧ Below w.heap.size w w' := by
  have hz : (⟨s.toArray⟩ : ByteArray).size = s.length := by show s.toArray.size = _; simp
  have HPL := rplain_any
  have HVA := rvalue_any
  have HNO : Hid (NoQ (s.drop (at_ + 1)) → RqR s at_ (.returned (.tuple #[.string ⟨#[]⟩, .int .i64 (-1)]))) := fun h => .inr ⟨h, rfl⟩
  go_enter Tryz.func35, Tryz.ntmps35
  go_wp2
  go_loopw [6, 7] (fun vo vi wr => ∃ (k : Nat) (done : Bs), vi = .int .i64 k ∧ k ≤ s.length ∧ Hid (s.drop (at_ + 1) = flat done ++ s.drop k) ∧ Hid (BOw w.heap.size wr vo done) ∧ done.length ≤ k ∧ Hid (Below w.heap.size w wr)) (fun _ i _ => s.length - (intOf i).toNat)
  case atStart => exact ⟨at_ + 1, [], by simp, by omega, by show _ = _; simp [flat], ⟨rfl, .inl ⟨rfl, rfl⟩⟩, by simp, Below.refl _ _⟩
  case round =>
    obtain ⟨k, done, rfl, hk, HEQ, HO, hdl, HB⟩ := hrel
    have hszr : w.heap.size ≤ wr.heap.size := HB.out.size
    have HNQ : Hid (NoQ (s.drop k) → NoQ (s.drop (at_ + 1))) := fun h => by rw [HEQ.out]; exact noq_front h
    obtain ⟨va, vc, rfl, hc1, hc2⟩ := row_shape HO.out
    -- what an append leaves
    have HAP : Hid (∀ (x : UInt8) (j : Nat) v' w', s.drop k = spell x ++ s.drop j → w'.ownsRow w.heap.size 5 1 v' (done.length + 1) (done.map encB ++ [encB x]) → (wr.alloc (.cells #[encB x] 5)).grownBy w' (Value.slice va done.length vc).ownBlock → s.drop (at_ + 1) = flat (done ++ [x]) ++ s.drop j ∧ BOw w.heap.size w' v' (done ++ [x]) ∧ Below w.heap.size w w') := fun x j v' w' h1 h2 h3 => by
      refine ⟨by rw [HEQ.out, h1, flat_snoc, List.append_assoc], ?_, (HB.out.alloc hszr _).grown h3 (by simp; omega) (fun g hg => (World.ownsRow.lt HO.out g hg).1)⟩
      unfold BOw
      rw [List.length_append, List.map_append]
      exact h2
    by_cases hlt : k < s.length
    case neg =>
      have hke : k = s.length := by omega
      have HR : Hid (RqR s at_ _) := HNO.out (HNQ.out (by rw [hke, List.drop_length]; exact noq_nil))
      clear hke
      go_wp2
      go_ret2
      exact ⟨HR.out, HB.out⟩
    obtain ⟨c, hck, hdk⟩ := drop_c hlt
    obtain ⟨hkz, hxk⟩ := idx_s hck
    have hcl := c.toNat_lt
    by_cases h34 : c = 34
    · subst h34
      have hp : ((s.length - (s.drop (k + 1)).length : Nat) : Int) = (k : Int) + 1 := by rw [List.length_drop]; omega
      have HR : Hid (RqR s at_ (.returned (.tuple #[.string ⟨done.toArray⟩, .int .i64 ((k : Int) + 1)]))) := .inl ⟨done, s.drop (k + 1), by rw [HEQ.out, hdk], by rw [hp]⟩
      clear hp
      have hcv := BOw.conv HO.out
      clear hck hdk
      go_wp2
      go_ret2
      exact ⟨HR.out, HB.out⟩
    have h34b : ((c.toNat : Int) == 34) = false := by rw [beq_eq_false_iff_ne]; intro h; exact h34 (u8_eq (by show _ = 34; omega))
    cases hpl : plainB c with
    | true =>
      have HSP : Hid (s.drop k = spell c ++ s.drop (k + 1)) := by show _ = _; rw [hdk, plain_spell hpl]; rfl
      have HPC := HPL c
      rw [hpl] at HPC
      clear hck hdk h34 hpl HPL
      go_wp2_with (first
        | (go_at_call 42; refine (HPC _).mono ?_; rintro e w5 ⟨rfl, hw⟩; subst w5)
        | (at_builtin; refine wpList_app tyB rfl _ _ rfl w.heap.size (.slice va done.length vc) done.length (done.map encB) ⟨wr.heap.size, 0, none⟩ 1 1 [encB c] rfl (World.ownsRow.alloc HO.out _) rfl rfl (news_at wr #[encB c] 5) (fun u hu => by cases List.mem_singleton.1 hu; rfl) (by omega) (by simp; omega) ?_; intro v6 w6 r1 r2 r3))
      obtain ⟨q1, q2, q3⟩ := HAP.out c (k + 1) v6 w6 HSP.out r1 r2
      refine ⟨⟨k + 1, done ++ [c], by simp, by omega, q1, q2, by simp; omega, q3⟩, by simp [intOf]; omega⟩
    | false =>
    have HPC := HPL c
    rw [hpl] at HPC
    by_cases h92 : c = 92
    case neg =>
      have h92b : ((c.toNat : Int) != 92) = true := by rw [bne_iff_ne]; intro h; exact h92 (u8_eq (by show _ = 92; omega))
      have HR : Hid (RqR s at_ _) := HNO.out (HNQ.out (by rw [hdk]; exact not_plain hpl h34 h92 _))
      clear hck hdk h34 hpl h92 HPL
      go_wp2_with (go_at_call 42; refine (HPC _).mono ?_; rintro e w5 ⟨rfl, hw⟩; subst w5)
      go_ret2
      exact ⟨HR.out, HB.out⟩
    subst h92
    clear hpl h34 HPL hck
    by_cases hk1 : k + 1 < s.length
    case neg =>
      have HR : Hid (RqR s at_ _) := HNO.out (HNQ.out (by rw [hdk, List.drop_of_length_le (by omega)]; exact slash_end))
      clear hdk
      go_wp2_with (go_at_call 42; refine (HPC _).mono ?_; rintro e w5 ⟨rfl, hw⟩; subst w5)
      go_ret2
      exact ⟨HR.out, HB.out⟩
    obtain ⟨d, hdk1, hdd⟩ := drop_c hk1
    obtain ⟨hkz1, hxk1⟩ := idx_s hdk1
    rw [hdd] at hdk
    have hdl2 := d.toNat_lt
    clear hdk1 hdd
    by_cases hds : d = 34 ∨ d = 92
    · have HSP : Hid (s.drop k = spell d ++ s.drop (k + 1 + 1)) := by show _ = _; rw [hdk, slash_self hds]; rfl
      have hdb : ((d.toNat : Int) == 34) = true ∨ (((d.toNat : Int) == 34) = false ∧ ((d.toNat : Int) == 92) = true) := by
        rcases hds with rfl | rfl
        · exact .inl rfl
        · exact .inr ⟨rfl, rfl⟩
      clear hdk hds
      rcases hdb with hd1 | ⟨hd1, hd2⟩
      all_goals (
        go_wp2_with (first
          | (go_at_call 42; refine (HPC _).mono ?_; rintro e w5 ⟨rfl, hw⟩; subst w5)
          | (at_builtin; refine wpList_app tyB rfl _ _ rfl w.heap.size (.slice va done.length vc) done.length (done.map encB) ⟨wr.heap.size, 0, none⟩ 1 1 [encB d] rfl (World.ownsRow.alloc HO.out _) rfl rfl (news_at wr #[encB d] 5) (fun u hu => by cases List.mem_singleton.1 hu; rfl) (by omega) (by simp; omega) ?_; intro v6 w6 r1 r2 r3))
        obtain ⟨q1, q2, q3⟩ := HAP.out d (k + 1 + 1) v6 w6 HSP.out r1 r2
        refine ⟨⟨k + 1 + 1, done ++ [d], by congr 1, by omega, q1, q2, by simp; omega, q3⟩, by simp [intOf]; omega⟩)
    have hn34 : d ≠ 34 := fun h => hds (.inl h)
    have hn92 : d ≠ 92 := fun h => hds (.inr h)
    have hd1 : ((d.toNat : Int) == 34) = false := by rw [beq_eq_false_iff_ne]; intro h; exact hn34 (u8_eq (by show _ = 34; omega))
    have hd2 : ((d.toNat : Int) == 92) = false := by rw [beq_eq_false_iff_ne]; intro h; exact hn92 (u8_eq (by show _ = 92; omega))
    by_cases hx : d = 120
    case neg =>
      have hxb : ((d.toNat : Int) != 120) = true := by rw [bne_iff_ne]; intro h; exact hx (u8_eq (by show _ = 120; omega))
      have HR : Hid (RqR s at_ _) := HNO.out (HNQ.out (by rw [hdk]; exact slash_noX hn34 hn92 hx))
      clear hdk hds hn34 hn92 hx
      go_wp2_with (go_at_call 42; refine (HPC _).mono ?_; rintro e w5 ⟨rfl, hw⟩; subst w5)
      go_ret2
      exact ⟨HR.out, HB.out⟩
    subst hx
    clear hn34 hn92 hds
    by_cases hk3 : k + 3 < s.length
    case neg =>
      have HR : Hid (RqR s at_ _) := HNO.out (HNQ.out (by rw [hdk]; exact hex_short (by rw [List.length_drop]; omega)))
      clear hdk
      go_wp2_with (go_at_call 42; refine (HPC _).mono ?_; rintro e w5 ⟨rfl, hw⟩; subst w5)
      go_ret2
      exact ⟨HR.out, HB.out⟩
    obtain ⟨x, hxg, hxd⟩ := drop_c (s := s) (k := k + 2) (by omega)
    obtain ⟨y, hyg, hyd⟩ := drop_c (s := s) (k := k + 3) (by omega)
    obtain ⟨hkz2, hxk2⟩ := idx_s hxg
    obtain ⟨hkz3, hxk3⟩ := idx_s hyg
    have hdk4 : s.drop k = 92 :: 120 :: x :: y :: s.drop (k + 4) := by rw [hdk, hxd, hyd]
    have hxl := x.toNat_lt
    have hyl := y.toNat_lt
    have HVX := HVA x
    have HVY := HVA y
    clear hxg hyg hxd hyd hdk HVA
    by_cases hvx : valD x < 0
    · have HR : Hid (RqR s at_ _) := HNO.out (HNQ.out (by rw [hdk4]; exact hex_bad (.inl hvx)))
      generalize valD x = vx at *
      clear hdk4
      go_wp2_with (first
        | (go_at_call 42; refine (HPC _).mono ?_; rintro e w5 ⟨rfl, hw⟩; subst w5)
        | (go_at_call 69; with_reducible refine (HVX _).mono ?_; rintro e w5 ⟨rfl, hw⟩; subst w5))
      go_ret2
      exact ⟨HR.out, HB.out⟩
    by_cases hvy : valD y < 0
    · have HR : Hid (RqR s at_ _) := HNO.out (HNQ.out (by rw [hdk4]; exact hex_bad (.inr (.inl hvy))))
      generalize valD x = vx at *
      generalize valD y = vy at *
      clear hdk4
      go_wp2_with (first
        | (go_at_call 42; refine (HPC _).mono ?_; rintro e w5 ⟨rfl, hw⟩; subst w5)
        | (go_at_call 69; with_reducible refine (HVX _).mono ?_; rintro e w5 ⟨rfl, hw⟩; subst w5)
        | (go_at_call 69; with_reducible refine (HVY _).mono ?_; rintro e w5 ⟨rfl, hw⟩; subst w5))
      go_ret2
      exact ⟨HR.out, HB.out⟩
    have hvx0 : 0 ≤ valD x := by omega
    have hvy0 : 0 ≤ valD y := by omega
    have hva16 := (valD_some hvx0).2
    have hvb16 := (valD_some hvy0).2
    have HBD : Hid ((32 ≤ 16 * (valD x).toNat + (valD y).toNat ∧ 16 * (valD x).toNat + (valD y).toNat ≤ 126) → RqR s at_ (.returned (.tuple #[.string ⟨#[]⟩, .int .i64 (-1)]))) := fun h => HNO.out (HNQ.out (by rw [hdk4]; exact hex_bad (.inr (.inr h))))
    have HGD : Hid (¬ (32 ≤ 16 * (valD x).toNat + (valD y).toNat ∧ 16 * (valD x).toNat + (valD y).toNat ≤ 126) → s.drop k = spell (UInt8.ofNat (16 * (valD x).toNat + (valD y).toNat)) ++ s.drop (k + 4)) := fun h => by rw [hdk4, hex_good hvx0 hvy0 h]; rfl
    obtain ⟨p, hp⟩ : ∃ p : Nat, valD x = (p : Int) := ⟨(valD x).toNat, by omega⟩
    obtain ⟨q, hq⟩ : ∃ q : Nat, valD y = (q : Int) := ⟨(valD y).toNat, by omega⟩
    rw [hp] at HVX HBD HGD hva16
    rw [hq] at HVY HBD HGD hvb16
    simp only [Int.toNat_natCast] at HBD HGD hva16 hvb16
    clear hdk4 hvx hvy hvx0 hvy0 hp hq
    have hpn : (UInt8.ofNat (16 * p + q)).toNat = 16 * p + q := by simp; omega
    have hem : encB (UInt8.ofNat (16 * p + q)) = .int .u8 (16 * (p : Int) + (q : Int)) := by unfold encB; rw [hpn]; congr 1
    have HEM : Hid _ := hem
    clear hem hpn
    go_wp2_with (first
      | (go_at_call 42; refine (HPC _).mono ?_; rintro e w5 ⟨rfl, hw⟩; subst w5)
      | (go_at_call 69; with_reducible refine (HVX _).mono ?_; rintro e w5 ⟨rfl, hw⟩; subst w5)
      | (go_at_call 69; with_reducible refine (HVY _).mono ?_; rintro e w5 ⟨rfl, hw⟩; subst w5))
    have e2 := wk2 k (by omega)
    have e3 := wk3 k (by omega)
    have e16 := w16 p hva16
    have eq16 := w16q p q hva16 hvb16
    have e8 := w8 p q hva16 hvb16
    have ht2 : ((k : Int) + 2).toNat = k + 2 := by omega
    have ht3 : ((k : Int) + 3).toNat = k + 3 := by omega
    go_region_held3 (fun _ => True) (go_keep)
      (first
        | (go_at_call 69; with_reducible refine (HVX _).mono ?_; rintro e w5 ⟨rfl, hw⟩; subst w5)
        | (go_at_call 69; with_reducible refine (HVY _).mono ?_; rintro e w5 ⟨rfl, hw⟩; subst w5)
        | fail)
    all_goals (
      have HOD : Hid (BOw w.heap.size wr.drew (.slice va done.length vc) done) := HO.out
      have HBD2 : Hid (Below w.heap.size w wr.drew) := HB.out.drew
      have hszd : w.heap.size ≤ wr.drew.heap.size := hszr
      clear e2 e3 e16 eq16 e8 ht2 ht3 HVX HVY HPC
      generalize wr.drew = wd at *
      by_cases hr1 : 16 * p + q < 32
      · have HSP : Hid (s.drop k = spell (UInt8.ofNat (16 * p + q)) ++ s.drop (k + 4)) := HGD.out (by omega)
        have hrb : ¬ (32 : Int) ≤ 16 * (p : Int) + (q : Int) := by omega
        go_wp2_with (at_builtin; refine wpList_app tyB rfl _ _ rfl w.heap.size (.slice va done.length vc) done.length (done.map encB) ⟨wd.heap.size, 0, none⟩ 1 1 [.int .u8 (16 * (p : Int) + (q : Int))] rfl (World.ownsRow.alloc HOD.out _) rfl rfl (news_at wd #[.int .u8 (16 * (p : Int) + (q : Int))] 5) (fun u hu => by cases List.mem_singleton.1 hu; rfl) (by omega) (by simp; omega) ?_; intro v6 w6 r1 r2 r3)
        rw [← HEM.out] at r1
        refine ⟨⟨k + 4, done ++ [UInt8.ofNat (16 * p + q)], by congr 1, by omega, by show _ = _; rw [HEQ.out, HSP.out, flat_snoc, List.append_assoc], by show BOw _ _ _ _; unfold BOw; rw [List.length_append, List.map_append]; exact r1, by simp; omega, (HBD2.out.alloc hszd _).grown r2 (by simp; omega) (fun g hg => (World.ownsRow.lt HOD.out g hg).1)⟩, by simp [intOf]; omega⟩
      by_cases hr2 : 16 * p + q ≤ 126
      · have HR : Hid (RqR s at_ (.returned (.tuple #[.string ⟨#[]⟩, .int .i64 (-1)]))) := HBD.out ⟨by omega, hr2⟩
        have hrb : (32 : Int) ≤ 16 * (p : Int) + (q : Int) := by omega
        have hrc : 16 * (p : Int) + (q : Int) ≤ 126 := by omega
        go_wp2
        go_ret2
        exact ⟨HR.out, HBD2.out⟩
      · have HSP : Hid (s.drop k = spell (UInt8.ofNat (16 * p + q)) ++ s.drop (k + 4)) := HGD.out (by omega)
        have hrb : (32 : Int) ≤ 16 * (p : Int) + (q : Int) := by omega
        have hrc : ¬ 16 * (p : Int) + (q : Int) ≤ 126 := by omega
        go_wp2_with (at_builtin; refine wpList_app tyB rfl _ _ rfl w.heap.size (.slice va done.length vc) done.length (done.map encB) ⟨wd.heap.size, 0, none⟩ 1 1 [.int .u8 (16 * (p : Int) + (q : Int))] rfl (World.ownsRow.alloc HOD.out _) rfl rfl (news_at wd #[.int .u8 (16 * (p : Int) + (q : Int))] 5) (fun u hu => by cases List.mem_singleton.1 hu; rfl) (by omega) (by simp; omega) ?_; intro v6 w6 r1 r2 r3)
        rw [← HEM.out] at r1
        refine ⟨⟨k + 4, done ++ [UInt8.ofNat (16 * p + q)], by congr 1, by omega, by show _ = _; rw [HEQ.out, HSP.out, flat_snoc, List.append_assoc], by show BOw _ _ _ _; unfold BOw; rw [List.length_append, List.map_append]; exact r1, by simp; omega, (HBD2.out.alloc hszd _).grown r2 (by simp; omega) (fun g hg => (World.ownsRow.lt HOD.out g hg).1)⟩, by simp [intOf]; omega⟩)
end Go.Proofs.YtbckogojnjmjcaaGreatDoor
