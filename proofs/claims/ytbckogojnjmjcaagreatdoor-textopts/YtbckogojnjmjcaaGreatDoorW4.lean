/-
  A line's words: the document's walk.
-/
import Derived.Test.YtbckogojnjmjcaaGreatDoorW3
namespace Go.Proofs.YtbckogojnjmjcaaGreatDoor
open Go.RowKit Go.Shelf

/-- So far, and the rest of a line. -/
structure FarW (s : Bs) (done : List Bs) (rest : Bs) : Prop where
  fw : ∀ ws, Ln rest ws → Ln s (done ++ ws)
  bw : ∀ vs, Ln s vs → ∃ ws, vs = done ++ ws ∧ Ln rest ws
theorem FarW.blank {s : Bs} {done : List Bs} {q : Bs} (h : FarW s done (32 :: q)) : FarW s done q := ⟨fun ws k => h.fw ws (.blank k), fun vs k => by obtain ⟨ws, h1, h2⟩ := h.bw vs k; exact ⟨ws, h1, Ln.unblank.1 h2⟩⟩
theorem FarW.next {s : Bs} {done : List Bs} {t w r : Bs} (h : FarW s done (t ++ r)) (hw : Wd t w) (hf : Fit r) : FarW s (done ++ [w]) r := by
  refine ⟨fun ws k => ?_, fun vs k => ?_⟩
  · have := h.fw (w :: ws) (.word hw hf k)
    simpa using this
  · obtain ⟨ws, rfl, k2⟩ := h.bw vs k
    obtain ⟨ws', rfl, k3⟩ := Ln.first hw hf k2
    exact ⟨ws', by simp, k3⟩
theorem FarW.no {s : Bs} {done : List Bs} {c : UInt8} {q : Bs} (h : FarW s done (c :: q)) (hc : c ≠ 32) (hn : NoWd (c :: q)) (ws : List Bs) : ¬ Ln s ws := by
  intro k
  obtain ⟨vs, -, k2⟩ := h.bw ws k
  exact hn.no hc vs k2
/-- What the document's Words answers. -/
def RWs (N : Nat) (s : Bs) (e : Ending) (w' : World) : Prop :=
  (4096 < s.length ∧ e = .returned (.tuple #[.slice none 0 0, .int .i64 3])) ∨ (s.length ≤ 4096 ∧ (∀ ws, ¬ Ln s ws) ∧ e = .returned (.tuple #[.slice none 0 0, .int .i64 4])) ∨
  (s.length ≤ 4096 ∧ ∃ ws v, Ln s ws ∧ ws.length ≤ s.length ∧ SOw N w' v ws ∧ e = .returned (.tuple #[v, .int .i64 0]))
theorem noWd_quoted {q : Bs} (h : NoQ q) : NoWd (34 :: q) := by
  rintro t w r hw hf e
  rcases hw with ⟨rfl, h1, h2⟩ | rfl
  · cases t with
    | nil => exact h1 rfl
    | cons c t =>
      simp only [List.cons_append, List.cons.injEq] at e
      rw [← e.1] at h2
      simp [bareB] at h2
  · simp only [List.cons_append, List.cons.injEq, true_and, List.append_assoc, List.nil_append] at e
    exact h _ _ e
theorem noWd_behind {h r : Bs} (hr : ¬ Fit r) : NoWd (34 :: (flat h ++ 34 :: r)) := by
  rintro t w r' hw hf e
  rcases hw with ⟨rfl, h1, h2⟩ | rfl
  · cases t with
    | nil => exact h1 rfl
    | cons c t =>
      simp only [List.cons_append, List.cons.injEq] at e
      rw [← e.1] at h2
      simp [bareB] at h2
  · simp only [List.cons_append, List.cons.injEq, true_and, List.append_assoc, List.nil_append] at e
    obtain ⟨-, rfl⟩ := flat_uniq e
    exact hr hf
theorem drop_suffix {s h r : Bs} (e : s = h ++ r) : s.drop (s.length - r.length) = r := by
  subst e
  rw [List.length_append, Nat.add_sub_cancel, List.drop_left]
theorem tw_get {s : Bs} {k j : Nat} (hj : j < ((s.drop k).takeWhile bareB).length) : ∃ c, s[k + j]? = some c ∧ bareB c = true := by
  have h1 : ((s.drop k).takeWhile bareB)[j]? = some (((s.drop k).takeWhile bareB)[j]) := List.getElem?_eq_getElem hj
  have h2 : (s.drop k)[j]? = ((s.drop k).takeWhile bareB)[j]? := by
    conv => lhs; rw [← List.takeWhile_append_dropWhile (p := bareB) (l := s.drop k)]
    rw [List.getElem?_append_left hj]
  rw [h1, List.getElem?_drop] at h2
  exact ⟨_, h2, List.all_eq_true.1 (List.all_takeWhile (p := bareB) (l := s.drop k)) _ (List.getElem_mem hj)⟩
theorem tw_end {s : Bs} {k : Nat} (h : k + ((s.drop k).takeWhile bareB).length < s.length) : ∃ c, s[k + ((s.drop k).takeWhile bareB).length]? = some c ∧ bareB c = false ∧ s.drop (k + ((s.drop k).takeWhile bareB).length) = c :: s.drop (k + ((s.drop k).takeWhile bareB).length + 1) := by
  obtain ⟨c, h1, h2⟩ := drop_c h
  refine ⟨c, h1, ?_, h2⟩
  have h3 : (s.drop k).dropWhile bareB = s.drop (k + ((s.drop k).takeWhile bareB).length) := by
    have e := List.takeWhile_append_dropWhile (p := bareB) (l := s.drop k)
    have e2 : (s.drop k).drop ((s.drop k).takeWhile bareB).length = (s.drop k).dropWhile bareB := by
      conv => lhs; rw [← e]
      rw [List.takeWhile_append_dropWhile, ← List.drop_left (l₁ := (s.drop k).takeWhile bareB) (l₂ := (s.drop k).dropWhile bareB), e]
    rw [← e2, List.drop_drop]
  cases hb : bareB c with
  | false => rfl
  | true =>
    exfalso
    have h4 := h3.trans h2
    have h7 := List.head?_dropWhile_not bareB (s.drop k)
    rw [h4] at h7
    simp only [List.head?_cons] at h7
    rw [hb] at h7
    cases h7
theorem tw_dw (s : Bs) (k : Nat) : (s.drop k).dropWhile bareB = s.drop (k + ((s.drop k).takeWhile bareB).length) := by
  have e := List.takeWhile_append_dropWhile (p := bareB) (l := s.drop k)
  have e2 : (s.drop k).drop ((s.drop k).takeWhile bareB).length = (s.drop k).dropWhile bareB := by
    conv => lhs; rw [← e]
    rw [List.takeWhile_append_dropWhile, ← List.drop_left (l₁ := (s.drop k).takeWhile bareB) (l₂ := (s.drop k).dropWhile bareB), e]
  rw [← e2, List.drop_drop]
theorem tw_split (s : Bs) (k : Nat) : s.drop k = (s.drop k).takeWhile bareB ++ s.drop (k + ((s.drop k).takeWhile bareB).length) := by
  have e := List.takeWhile_append_dropWhile (p := bareB) (l := s.drop k)
  have e2 : (s.drop k).drop ((s.drop k).takeWhile bareB).length = (s.drop k).dropWhile bareB := by
    conv => lhs; rw [← e]
    rw [List.takeWhile_append_dropWhile, ← List.drop_left (l₁ := (s.drop k).takeWhile bareB) (l₂ := (s.drop k).dropWhile bareB), e]
  rw [← List.drop_drop, e2, e]
set_option maxRecDepth 100000 in
set_option maxHeartbeats 8000000 in
theorem rwords_any (s : Bs) (hl : s.length ≤ 1000000) (w : World) : Calls Tryz.prog 9 #[.string ⟨s.toArray⟩] w fun e w' => RWs w.heap.size s e w' ∧ Below w.heap.size w w' := by
  have hz : (⟨s.toArray⟩ : ByteArray).size = s.length := by show s.toArray.size = _; simp
  by_cases h4 : s.length ≤ 4096
  case neg =>
    go_enter Tryz.func9, Tryz.ntmps9
    go_wp2
    go_ret2
    exact ⟨.inl ⟨by omega, rfl⟩, Below.refl _ _⟩
  have HBA := rbare_any
  have HQU := fun at_ h W => rquoted_any s hl at_ h W
  go_enter Tryz.func9, Tryz.ntmps9
  go_wp2
  go_loopw [4, 5] (fun vo vi wr => ∃ (k : Nat) (done : List Bs), vi = .int .i64 k ∧ k ≤ s.length ∧ Hid (FarW s done (s.drop k)) ∧ Hid (SOw w.heap.size wr vo done) ∧ done.length ≤ k ∧ Hid (Below w.heap.size w wr)) (fun _ i _ => s.length - (intOf i).toNat)
  case atStart => exact ⟨0, [], rfl, by omega, ⟨fun ws k => k, fun vs k => ⟨vs, rfl, k⟩⟩, ⟨rfl, .inl ⟨rfl, rfl⟩⟩, by simp, Below.refl _ _⟩
  case round =>
    obtain ⟨k, done, rfl, hk, HF, HO, hdl, HB⟩ := hrel
    have hszr : w.heap.size ≤ wr.heap.size := HB.out.size
    obtain ⟨va, vc, rfl, hc1, hc2⟩ := row_shape HO.out
    by_cases hlt : k < s.length
    case neg =>
      have hke : k = s.length := by omega
      have HL : Hid (Ln s done) := by
        have h1 := HF.out.fw []
        rw [hke, List.drop_length, List.append_nil] at h1
        exact h1 .nil
      have hdl2 : done.length ≤ s.length := by omega
      clear hke
      go_wp2
      go_ret2
      exact ⟨.inr (.inr ⟨h4, done, _, HL.out, hdl2, HO.out, rfl⟩), HB.out⟩
    obtain ⟨c, hck, hdk⟩ := drop_c hlt
    obtain ⟨hkz, hxk⟩ := idx_s hck
    have hcl := c.toNat_lt
    by_cases h32 : c = 32
    · subst h32
      have HF2 : Hid (FarW s done (s.drop (k + 1))) := by have := HF.out; rw [hdk] at this; exact this.blank
      clear hck hdk
      go_wp2
      refine ⟨⟨k + 1, done, by simp, by omega, HF2.out, HO.out, by omega, HB.out⟩, by simp [intOf]; omega⟩
    have h32b : ((c.toNat : Int) == 32) = false := by rw [beq_eq_false_iff_ne]; intro h; exact h32 (u8_eq (by show _ = 32; omega))
    by_cases h34 : c = 34
    · subst h34
      have HFR : Hid (FarW s done (34 :: s.drop (k + 1))) := by have := HF.out; rw [hdk] at this; exact this
      have HQ := HQU k hlt wr
      clear hck hdk h32
      go_wp2_with fail
      refine HQ.mono ?_
      rintro e w5 ⟨⟨h, r, he, rfl⟩ | ⟨hno, rfl⟩, hB5⟩
      · have hrl : r.length + 1 ≤ s.length - (k + 1) := by
          have := congrArg List.length he
          rw [List.length_drop, List.length_append, List.length_cons] at this
          omega
        have HSR : Hid (s.drop (s.length - r.length) = r) := drop_suffix (h := s.take (k + 1) ++ (flat h ++ [34])) (by
          have h1 : s = s.take (k + 1) ++ s.drop (k + 1) := (List.take_append_drop _ _).symm
          conv => lhs; rw [h1, he]
          simp)
        have HFR2 : Hid (FarW s done ((34 :: (flat h ++ [34])) ++ r)) := by have := HFR.out; rw [he] at this; show FarW _ _ _; simpa using this
        have HB5 : Hid (Below w.heap.size w w5) := HB.out.trans (hB5.mono hszr)
        have HO5 : Hid (SOw w.heap.size w5 (.slice va done.length vc) done) := SOw.below HO.out hB5
        have hs5 : w.heap.size ≤ w5.heap.size := HB5.out.size
        have HNW : Hid (¬ Fit r → ∀ ws, ¬ Ln s ws) := fun hf => HFR.out.no (by decide) (by rw [he]; exact noWd_behind hf)
        generalize ht : s.length - r.length = t at *
        have htl : t ≤ s.length := by omega
        have htk : k < t := by omega
        have HTL : Hid (r = [] ↔ t = s.length) := ⟨fun e => by rw [e] at ht; simp at ht; omega, fun e => List.length_eq_zero_iff.1 (by omega)⟩
        clear HQ hB5 he ht hrl HFR
        by_cases htl2 : t < s.length
        · obtain ⟨c2, hc2g, hc2d⟩ := drop_c htl2
          obtain ⟨hkz2, hxk2⟩ := idx_s hc2g
          have hc2l := c2.toNat_lt
          have hrr : r = c2 :: s.drop (t + 1) := by rw [← HSR.out]; exact hc2d
          by_cases hb2 : c2 = 32
          · subst hb2
            have HFX : Hid (FarW s (done ++ [h]) (s.drop t)) := by rw [HSR.out]; exact HFR2.out.next (.inr rfl) (.inr ⟨_, hrr⟩)
            clear hc2g hc2d hrr
            go_wp2_with (at_builtin; refine wpList_app tyS rfl _ _ rfl w.heap.size (.slice va done.length vc) done.length (done.map encStr) ⟨w5.heap.size, 0, none⟩ 1 1 [encStr h] rfl (World.ownsRow.alloc HO5.out _) rfl rfl (news_at w5 #[encStr h] 9) (fun u hu => by cases List.mem_singleton.1 hu; rfl) (by omega) (by simp; omega) ?_; intro v6 w6 r1 r2 r3)
            refine ⟨⟨t, done ++ [h], rfl, htl, HFX.out, by show SOw _ _ _ _; unfold SOw; rw [List.length_append, List.map_append]; exact r1, by simp; omega, (HB5.out.alloc hs5 _).grown r2 (by simp; omega) (fun g hg => (World.ownsRow.lt HO5.out g hg).1)⟩, by simp [intOf]; omega⟩
          · have hb2b : ((c2.toNat : Int) != 32) = true := by rw [bne_iff_ne]; intro h; exact hb2 (u8_eq (by show _ = 32; omega))
            have HR : Hid (∀ ws, ¬ Ln s ws) := HNW.out (by rintro (h | ⟨q, h⟩) <;> rw [h] at hrr <;> simp at hrr; exact hb2 hrr.1.symm)
            clear hc2g hc2d hrr hb2
            go_wp2
            go_ret2
            exact ⟨.inr (.inl ⟨h4, HR.out, rfl⟩), HB5.out⟩
        · have hte : t = s.length := by omega
          have hr0 : r = [] := HTL.out.2 hte
          have HFX : Hid (FarW s (done ++ [h]) (s.drop t)) := by rw [HSR.out]; exact HFR2.out.next (.inr rfl) (.inl hr0)
          clear hte hr0
          go_wp2_with (at_builtin; refine wpList_app tyS rfl _ _ rfl w.heap.size (.slice va done.length vc) done.length (done.map encStr) ⟨w5.heap.size, 0, none⟩ 1 1 [encStr h] rfl (World.ownsRow.alloc HO5.out _) rfl rfl (news_at w5 #[encStr h] 9) (fun u hu => by cases List.mem_singleton.1 hu; rfl) (by omega) (by simp; omega) ?_; intro v6 w6 r1 r2 r3)
          refine ⟨⟨t, done ++ [h], rfl, htl, HFX.out, by show SOw _ _ _ _; unfold SOw; rw [List.length_append, List.map_append]; exact r1, by simp; omega, (HB5.out.alloc hs5 _).grown r2 (by simp; omega) (fun g hg => (World.ownsRow.lt HO5.out g hg).1)⟩, by simp [intOf]; omega⟩
      · have HR : Hid (∀ ws, ¬ Ln s ws) := HFR.out.no (by decide) (noWd_quoted hno)
        clear hno HQ
        go_wp2
        go_ret2
        exact ⟨.inr (.inl ⟨h4, HR.out, rfl⟩), HB.out.trans (hB5.mono hszr)⟩
    have h34b : ((c.toNat : Int) == 34) = false := by rw [beq_eq_false_iff_ne]; intro h; exact h34 (u8_eq (by show _ = 34; omega))
    have HTS : Hid _ := tw_split s k
    have HTG : Hid (∀ j, j < ((s.drop k).takeWhile bareB).length → ∃ c, s[k + j]? = some c ∧ bareB c = true) := fun j hj => tw_get hj
    have HTE : Hid (k + ((s.drop k).takeWhile bareB).length < s.length → _) := fun h => tw_end h
    have hml : k + ((s.drop k).takeWhile bareB).length ≤ s.length := by
      have := (List.takeWhile_sublist (p := bareB) (l := s.drop k)).length_le
      rw [List.length_drop] at this
      omega
    have HDK : Hid (s.drop k = c :: s.drop (k + 1)) := hdk
    have HNB : Hid ((s.drop k).takeWhile bareB = [] ∨ ¬ Fit (s.drop (k + ((s.drop k).takeWhile bareB).length)) → ∀ ws, ¬ Ln s ws) := fun h => by
      have hdw := tw_dw s k
      have hn := noWd_bare (s := s.drop k) (by rw [hdk]; simpa using h34) (by rw [hdw]; exact h)
      have hf := HF.out
      rw [hdk] at hn hf
      exact hf.no h32 hn
    have HTA : Hid (((s.drop k).takeWhile bareB).all bareB = true) := List.all_takeWhile
    have HT0 : Hid ((s.drop k).takeWhile bareB = [] → bareB c = false) := fun h => by
      rw [hdk] at h
      cases hb : bareB c with
      | false => rfl
      | true => rw [List.takeWhile_cons, hb] at h; simp at h
    clear hck hdk
    generalize hm : ((s.drop k).takeWhile bareB) = tw at *
    have HEX : Hid ((⟨s.toArray⟩ : ByteArray).extract k (k + tw.length) = ⟨tw.toArray⟩) := by
      show _ = _
      rw [ext_eq]
      congr 2
      have h1 : (s.take (k + tw.length)).drop k = (s.drop k).take tw.length := by rw [List.drop_take]; congr 1; omega
      rw [h1, HTS.out, List.take_left]
    clear hm
    generalize wr = wq at *
    go_wp2
    go_loopw [7] (fun vi wr2 => ∃ t : Nat, vi = .int .i64 ((k + t : Nat) : Int) ∧ t ≤ tw.length ∧ wr2 = wq) (fun i _ => s.length - (intOf i).toNat)
    case atStart => exact ⟨0, by simp, by omega, rfl⟩
    case round =>
      obtain ⟨t, rfl, ht, hwq⟩ := hrel
      subst hwq
      by_cases hlt2 : t < tw.length
      · obtain ⟨c2, hg2, hb2⟩ := HTG.out t hlt2
        obtain ⟨hkz2, hxk2⟩ := idx_s hg2
        have hc2l := c2.toNat_lt
        have HB2 := HBA c2
        rw [hb2] at HB2
        clear hg2 hb2
        have hkt : k + t < s.length := by omega
        go_wp2_with (go_at_call 36; refine (HB2 _).mono ?_; rintro e w7 ⟨rfl, hw⟩; subst w7)
        go_roundw
        case rel => exact ⟨t + 1, by congr 1, by omega, trivial⟩
        case measure => simp [intOf]; omega
      have hte : t = tw.length := by omega
      subst hte
      by_cases hend : k + tw.length < s.length
      case neg =>
        have hke : k + tw.length = s.length := by omega
        have htp : 0 < tw.length := by omega
        have HFX : Hid (FarW s (done ++ [tw]) (s.drop (k + tw.length))) := by
          have h1 := HF.out
          rw [HTS.out] at h1
          exact h1.next (.inl ⟨rfl, fun e => by rw [e] at htp; simp at htp, HTA.out⟩) (.inl (by rw [hke, List.drop_length]))
        have hext := HEX.out
        clear hke
        go_wp2_with (at_builtin; refine wpList_app tyS rfl _ _ rfl w.heap.size (.slice va done.length vc) done.length (done.map encStr) ⟨wr.heap.size, 0, none⟩ 1 1 [encStr tw] rfl (World.ownsRow.alloc HO.out _) rfl rfl (news_at wr #[encStr tw] 9) (fun u hu => by cases List.mem_singleton.1 hu; rfl) (by omega) (by simp; omega) ?_; intro v6 w6 r1 r2 r3)
        refine ⟨⟨k + tw.length, done ++ [tw], rfl, by omega, HFX.out, by show SOw _ _ _ _; unfold SOw; rw [List.length_append, List.map_append]; exact r1, by simp; omega, (HB.out.alloc hszr _).grown r2 (by simp; omega) (fun g hg => (World.ownsRow.lt HO.out g hg).1)⟩, by simp [intOf]; omega⟩
      obtain ⟨c2, hg2, hb2, hd2⟩ := HTE.out hend
      obtain ⟨hkz2, hxk2⟩ := idx_s hg2
      have hc2l := c2.toNat_lt
      have HB2 := HBA c2
      rw [hb2] at HB2
      by_cases hc32 : c2 = 32
      · subst hc32
        have htp : tw ≠ [] := fun e => by
          have h1 := HDK.out
          rw [e] at hd2
          simp only [List.length_nil, Nat.add_zero] at hd2
          rw [hd2] at h1
          injection h1 with h1 _
          exact h32 h1.symm
        have htp2 : 0 < tw.length := List.length_pos_iff.2 htp
        have HFX : Hid (FarW s (done ++ [tw]) (s.drop (k + tw.length))) := by
          have h1 := HF.out
          rw [HTS.out] at h1
          exact h1.next (.inl ⟨rfl, htp, HTA.out⟩) (.inr ⟨_, hd2⟩)
        have hext := HEX.out
        clear hg2 hb2 hd2 htp
        go_wp2_with (first
          | (go_at_call 36; refine (HB2 _).mono ?_; rintro e w7 ⟨rfl, hw⟩; subst w7)
          | (at_builtin; refine wpList_app tyS rfl _ _ rfl w.heap.size (.slice va done.length vc) done.length (done.map encStr) ⟨wr.heap.size, 0, none⟩ 1 1 [encStr tw] rfl (World.ownsRow.alloc HO.out _) rfl rfl (news_at wr #[encStr tw] 9) (fun u hu => by cases List.mem_singleton.1 hu; rfl) (by omega) (by simp; omega) ?_; intro v6 w6 r1 r2 r3))
        refine ⟨⟨k + tw.length, done ++ [tw], rfl, by omega, HFX.out, by show SOw _ _ _ _; unfold SOw; rw [List.length_append, List.map_append]; exact r1, by simp; omega, (HB.out.alloc hszr _).grown r2 (by simp; omega) (fun g hg => (World.ownsRow.lt HO.out g hg).1)⟩, by simp [intOf]; omega⟩
      · have hb2b : ((c2.toNat : Int) != 32) = true := by rw [bne_iff_ne]; intro h; exact hc32 (u8_eq (by show _ = 32; omega))
        have HR : Hid (∀ ws, ¬ Ln s ws) := HNB.out (.inr (by rw [hd2]; rintro (h | ⟨q, h⟩) <;> simp at h; exact hc32 h.1))
        have hext := HEX.out
        clear hg2 hb2 hd2 hc32
        go_wp2_with (go_at_call 36; refine (HB2 _).mono ?_; rintro e w7 ⟨rfl, hw⟩; subst w7)
        go_ret2
        exact ⟨.inr (.inl ⟨h4, HR.out, rfl⟩), HB.out⟩
end Go.Proofs.YtbckogojnjmjcaaGreatDoor
