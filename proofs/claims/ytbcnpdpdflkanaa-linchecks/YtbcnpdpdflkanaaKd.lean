/-
  The document's Keys; two lists of texts that are the same.
-/
import Derived.Test.YtbcnpdpdflkanaaKp
import Derived.Test.YtbcnpdpdflkanaaDv
import Derived.Test.YtbcnpdpdflkanaaCq
import Derived.Sort.Walk0
namespace Go.Proofs.Ytbcnpdpdflkanaa
open Go.RowKit Go.Maps Go.Sort Go.Shelf

def SOw (N : Nat) (w : World) (v : Value) (l : List Bs) : Prop := w.ownsRow N 9 1 v l.length (l.map encStr)
theorem SOw.cell {N : Nat} {w : World} {g c : Nat} {l : List Bs} (h : SOw N w (.slice (some ⟨g, 0, none⟩) l.length c) l) {k : Nat} (hk : k < l.length) : w.cell? ⟨g, k, none⟩ = some (.string ⟨(l.getD k []).toArray⟩) ∧ w.frozen? ⟨g, k, none⟩ = false := by
  have := row_cell h (j := k) (by omega)
  refine ⟨?_, this.2⟩
  rw [this.1, List.getD_eq_getElem?_getD, List.getElem?_map, List.getElem?_eq_getElem hk, List.getD_eq_getElem?_getD, List.getElem?_eq_getElem hk]
  rfl
theorem SOw.parts {N : Nat} {w : World} {v : Value} {l : List Bs} (h : SOw N w v l) : (v = .slice none 0 0 ∧ l = []) ∨ ∃ g c, v = .slice (some ⟨g, 0, none⟩) l.length c ∧ N ≤ g ∧ g < w.heap.size ∧ l.length ≤ c ∧ c ≤ maxLen := by
  rcases h.2 with ⟨h1, h2⟩ | ⟨g, cap, cur, h1, h2, h3, h4, h5, _⟩
  · exact .inl ⟨h1, List.length_eq_zero_iff.1 h2⟩
  · exact .inr ⟨g, cap, h1, h2, (Array.getElem?_eq_some_iff.1 h3).1, h4, h5⟩

set_option maxRecDepth 100000 in
set_option maxHeartbeats 1000000 in
theorem sameTexts_same (N M : Nat) (w : World) (v1 v2 : Value) (l : List Bs) (h1 : SOw N w v1 l) (h2 : SOw M w v2 l) :
    Calls Try.prog 15 #[v1, v2] w fun e w' => e = .returned (.bool true) ∧ ∃ n, w' = w.drewN n := by
  obtain ⟨a1, c1, rfl, hc1, hm1⟩ := row_shape h1
  obtain ⟨a2, c2, rfl, hc2, hm2⟩ := row_shape h2
  have HH1 : Hid (SOw N w (.slice a1 l.length c1) l) := h1
  have HH2 : Hid (SOw M w (.slice a2 l.length c2) l) := h2
  unfold maxLen at hm1 hm2
  clear h1 h2
  go_enter Try.func15, Try.ntmps15
  go_wp2
  go_loopw [5] (fun i wr => ∃ k n : Nat, i = .int .i64 k ∧ k ≤ l.length ∧ wr = w.drewN n) (fun i _ => l.length - (intOf i).toNat)
  case atStart => exact ⟨0, 0, rfl, by omega, rfl⟩
  case round =>
    obtain ⟨k, n, rfl, hk, rfl⟩ := hrel
    by_cases hlt : k < l.length
    · obtain ⟨g1, rfl, -, -⟩ := row_ptr HH1.out (by omega)
      obtain ⟨g2, rfl, -, -⟩ := row_ptr HH2.out (by omega)
      have d1 := (HH1.out.cell hlt).1
      have d2 := (HH2.out.cell hlt).1
      generalize l.getD k [] = x at *
      go_wp2
      go_quiet (fail)
      go_wp2
      exact ⟨⟨k + 1, _, by simp, by omega, rfl⟩, by simp [intOf]; omega⟩
    · have : k = l.length := by omega
      subst this
      go_wp2
      go_ret
      exact ⟨rfl, _, rfl⟩

set_option maxRecDepth 100000 in
set_option maxHeartbeats 4000000 in
theorem refKeys_any (N : Nat) (w : World) (a : Option Addr) (cap : Nat) (h : List Lo) (hN : N ≤ w.heap.size) (hA : HAt N w a h) (hl : h.length ≤ 1000) :
    Calls Try.prog 14 #[.slice a h.length cap] w fun e w' => ∃ v ks, e = .returned v ∧ KS h h.length ks ∧ SOw w.heap.size w' v ks ∧ Below w.heap.size w w' := by
  go_enter Try.func14, Try.ntmps14
  go_wp2
  go_loopw [4, 3] (fun i ov wr => ∃ (k : Nat) (ks : List Bs), i = .int .i64 k ∧ k ≤ h.length ∧ KS h k ks ∧ ks.length ≤ k ∧ SOw w.heap.size wr ov ks ∧ Below w.heap.size w wr) (fun i _ _ => h.length - (intOf i).toNat)
  case atStart => exact ⟨0, [], rfl, by omega, KS.nil h, by simp, World.ownsRow_nil _ _ _ _, Below.refl _ _⟩
  case round =>
    obtain ⟨k, ks, rfl, hk, hKS, hkl, hO, hB⟩ := hrel
    have hz := hB.size
    by_cases hlt : k < h.length
    · obtain ⟨b, off, rfl, hb, hcs⟩ := (hA.below (hB.mono hN)).at hlt
      have HX := refCounts_any (oat h k)
      have HSK : Hid ((oat h k).counts = false → KS h (k + 1) ks) := fun hc => hKS.skip hc
      have HTH : Hid ((oat h k).key ∈ ks → KS h (k + 1) ks) := fun hc => hKS.there hc
      have HPU : Hid ((oat h k).counts = true → ∀ n, n ≤ ks.length → (∀ j, j < n → ks.getD j [] < (oat h k).key) → (n < ks.length → ¬ ks.getD n [] < (oat h k).key ∧ ks.getD n [] ≠ (oat h k).key) → KS h (k + 1) (ks.take n ++ [(oat h k).key] ++ ks.drop n)) := fun hc n h1 h2 h3 => hKS.put hc h2 h1 h3
      generalize oat h k = x at *
      obtain ⟨c0, c1, c2, c3, c4, c5, c6, c7, c8, c9⟩ := hcs
      have q1 := past1 (w1 := wr) (b := b) (by omega)
      unfold Lo.v Lo.box Lo.cells at HX
      unfold str at HX c3 c4 c5 c9
      have HB : Hid (Below w.heap.size w wr) := hB
      rcases hO.parts with ⟨hv0, rfl⟩ | ⟨g, c, hv0, hgN, hgl, hgc, hcm⟩
      · subst hv0
        by_cases hx : x.counts = true
        · rw [hx] at HX
          have HKN : Hid (KS h (k + 1) [x.key]) := by
            have := HPU.out hx 0 (by simp) (fun j hj => by omega) (fun hq => by simp at hq)
            show KS h (k + 1) [x.key]
            simpa using this
          clear hx HSK HTH HPU hKS hO hB
          go_wp2_with (go_at_call 17; refine (HX _).mono ?_; rintro e w4 ⟨rfl, rfl⟩)
          have HB1 : Hid (Below w.heap.size w (wr.alloc (.cells #[.int .i64 x.cl, .int .i64 x.sq, .int .i64 x.kind, .string ⟨x.key.toArray⟩, .string ⟨x.val.toArray⟩, .string ⟨x.old.toArray⟩, .int .i64 x.call, .int .i64 x.back, .int .i64 x.rp.code, .string ⟨x.rp.val.toArray⟩] 35))) := HB.out.alloc hz _
          have c31 : (wr.alloc (.cells #[.int .i64 x.cl, .int .i64 x.sq, .int .i64 x.kind, .string ⟨x.key.toArray⟩, .string ⟨x.val.toArray⟩, .string ⟨x.old.toArray⟩, .int .i64 x.call, .int .i64 x.back, .int .i64 x.rp.code, .string ⟨x.rp.val.toArray⟩] 35)).cell? ⟨b, off + k * 10 + 3, none⟩ = some (.string ⟨x.key.toArray⟩) := (q1 _ _).trans c3
          clear c0 c1 c2 c3 c4 c5 c6 c7 c8 c9 q1 HB HX
          generalize wr.alloc (.cells #[.int .i64 x.cl, .int .i64 x.sq, .int .i64 x.kind, .string ⟨x.key.toArray⟩, .string ⟨x.val.toArray⟩, .string ⟨x.old.toArray⟩, .int .i64 x.call, .int .i64 x.back, .int .i64 x.rp.code, .string ⟨x.rp.val.toArray⟩] 35) = W1 at *
          have hz1 := HB1.out.size
          clear hz
          go_loopw [6] (fun av wq => av = .int .i64 0 ∧ wq = W1) (fun _ _ => 0)
          case atStart => exact ⟨rfl, rfl⟩
          case round =>
            obtain ⟨rfl, rfl⟩ := hrel
            go_wp2
            go_quiet (fail)
            go_wp2
            go_quiet (fail)
            first | generalize hWz : World.drewN (World.drewN wr _) _ = Wz | generalize hWz : World.drewN wr _ = Wz
            have HBZ : Hid (Below w.heap.size w Wz) := by show Below _ _ _; rw [← hWz]; first | exact below_drew1 HB1.out | exact below_drew1 (below_drew1 HB1.out)
            have c3z : Wz.cell? ⟨b, off + k * 10 + 3, none⟩ = some (.string ⟨x.key.toArray⟩) := by rw [← hWz]; exact c31
            have hzz : w.heap.size ≤ Wz.heap.size := HBZ.out.size
            have hbz : b < Wz.heap.size := by omega
            have qz := past1 (w1 := Wz) (b := b) hbz
            clear hWz c31 HB1
            go_wp2_with (at_builtin; refine wpList_app tyS rfl _ _ rfl w.heap.size (.slice (some ⟨Wz.heap.size, 0, none⟩) 0 0) 0 [] ⟨Wz.heap.size + 1, 0, none⟩ 1 1 [encStr x.key] rfl (World.ownsRow.alloc (World.ownsRow_lit Wz #[] 0 hzz (by decide) rfl) _) rfl rfl (by have := news_at (Wz.alloc (.cells #[] 9)) #[encStr x.key] 9; rw [World.size_alloc] at this; exact this) (fun u hu => by cases List.mem_singleton.1 hu; rfl) (by omega) (by simp; omega) ?_; intro v6 w6 r1 r2 r3; obtain ⟨a6, c6', hv6, hc6, -⟩ := row_shape r1; subst hv6; have hc7 : 1 ≤ c6' := (by omega); obtain ⟨g6, hg6, -, -⟩ := row_ptr r1 (by omega); subst hg6; have HB6 : Hid (Below w.heap.size w w6) := (((HBZ.out.alloc hzz _).alloc (by simp; omega) _).grown r2 (by simp; omega) (fun g hg => by cases hg; exact hzz)); clear r2 r3)
            exact ⟨⟨k + 1, [x.key], by simp, by omega, HKN.out, by simp, by simpa [SOw] using r1, HB6.out⟩, by simp [intOf]; omega⟩
        · have hx' : x.counts = false := by simpa using hx
          rw [hx'] at HX
          have HK2 : Hid (KS h (k + 1) []) := HSK.out hx'
          clear hx hx' HSK HTH HPU hKS hO hB
          go_wp2_with (go_at_call 17; refine (HX _).mono ?_; rintro e w4 ⟨rfl, rfl⟩)
          go_roundw
          case rel => exact ⟨k + 1, [], by simp, by omega, HK2.out, by simp, World.ownsRow_nil _ _ _ _, HB.out.alloc hz _⟩
          case measure => simp [intOf]; omega
      subst hv0
      have HO : Hid (SOw w.heap.size wr (.slice (some ⟨g, 0, none⟩) ks.length c) ks) := hO
      unfold maxLen at hcm
      clear hKS hO hB
      by_cases hx : x.counts = true
      · rw [hx] at HX
        have HXC : Hid (x.counts = true) := hx
        clear hx HSK
        go_wp2_with (go_at_call 17; refine (HX _).mono ?_; rintro e w4 ⟨rfl, rfl⟩)
        have HB1 : Hid (Below w.heap.size w (wr.alloc (.cells #[.int .i64 x.cl, .int .i64 x.sq, .int .i64 x.kind, .string ⟨x.key.toArray⟩, .string ⟨x.val.toArray⟩, .string ⟨x.old.toArray⟩, .int .i64 x.call, .int .i64 x.back, .int .i64 x.rp.code, .string ⟨x.rp.val.toArray⟩] 35))) := HB.out.alloc hz _
        have HO1 : Hid (SOw w.heap.size (wr.alloc (.cells #[.int .i64 x.cl, .int .i64 x.sq, .int .i64 x.kind, .string ⟨x.key.toArray⟩, .string ⟨x.val.toArray⟩, .string ⟨x.old.toArray⟩, .int .i64 x.call, .int .i64 x.back, .int .i64 x.rp.code, .string ⟨x.rp.val.toArray⟩] 35)) (.slice (some ⟨g, 0, none⟩) ks.length c) ks) := World.ownsRow.alloc HO.out _
        have c31 : (wr.alloc (.cells #[.int .i64 x.cl, .int .i64 x.sq, .int .i64 x.kind, .string ⟨x.key.toArray⟩, .string ⟨x.val.toArray⟩, .string ⟨x.old.toArray⟩, .int .i64 x.call, .int .i64 x.back, .int .i64 x.rp.code, .string ⟨x.rp.val.toArray⟩] 35)).cell? ⟨b, off + k * 10 + 3, none⟩ = some (.string ⟨x.key.toArray⟩) := (q1 _ _).trans c3
        clear c0 c1 c2 c3 c4 c5 c6 c7 c8 c9 q1 HO HB HX
        generalize wr.alloc (.cells #[.int .i64 x.cl, .int .i64 x.sq, .int .i64 x.kind, .string ⟨x.key.toArray⟩, .string ⟨x.val.toArray⟩, .string ⟨x.old.toArray⟩, .int .i64 x.call, .int .i64 x.back, .int .i64 x.rp.code, .string ⟨x.rp.val.toArray⟩] 35) = W1 at *
        have hz1 := HB1.out.size
        clear hz
        go_loopw [6] (fun av wq => ∃ n m : Nat, av = .int .i64 n ∧ n ≤ ks.length ∧ wq = W1.drewN m ∧ ∀ j, j < n → ks.getD j [] < x.key) (fun av _ => ks.length - (intOf av).toNat)
        case atStart => exact ⟨0, 0, rfl, by omega, rfl, fun j hj => by omega⟩
        case round =>
          obtain ⟨n, m, rfl, hn, rfl, hlt2⟩ := hrel
          have HLT : Hid (∀ j, j < n → ks.getD j [] < x.key) := hlt2
          clear hlt2
          by_cases hnl : n < ks.length
          · have cn := (HO1.out.cell hnl).1
            have hbe := bytesLess_eq (ks.getD n []) x.key
            have HKM : Hid (ks.getD n [] ∈ ks) := by show _ ∈ _; rw [List.getD_eq_getElem?_getD, List.getElem?_eq_getElem hnl]; exact List.getElem_mem hnl
            have HLN : Hid (ks.getD n [] < x.key → ∀ j, j < n + 1 → ks.getD j [] < x.key) := fun hs j hj => by
              by_cases e : j = n
              · rw [e]; exact hs
              · exact HLT.out j (by omega)
            have HH2 : Hid (¬ ks.getD n [] < x.key → ks.getD n [] ≠ x.key → n < ks.length → ¬ ks.getD n [] < x.key ∧ ks.getD n [] ≠ x.key) := fun a b _ => ⟨a, b⟩
            generalize hye : ks.getD n [] = y at *
            by_cases hy : y < x.key
            · have HLN2 : Hid (∀ j, j < n + 1 → ks.getD j [] < x.key) := HLN.out hy
              rw [decide_eq_true hy] at hbe
              clear hy hye HTH HPU HH2 HLN
              go_wp2
              go_quiet (fail)
              go_wp2
              exact ⟨⟨n + 1, _, by simp, by omega, rfl, HLN2.out⟩, by simp [intOf]; omega⟩
            · rw [decide_eq_false hy] at hbe
              have hnb : ((n : Int) == (ks.length : Int)) = false := by simp; omega
              by_cases hk2 : y = x.key
              · have HK2 : Hid (KS h (k + 1) ks) := HTH.out (by rw [← hk2]; exact HKM.out)
                subst hk2
                clear hy hye HTH HPU HH2 HLN
                go_wp2
                go_quiet (fail)
                go_wp2
                go_quiet (fail)
                go_wp2
                exact ⟨⟨k + 1, ks, by simp, by omega, HK2.out, by omega, HO1.out, by first | exact below_drew1 HB1.out | exact below_drew1 (below_drew1 HB1.out) | exact below_drew1 (below_drew1 (below_drew1 HB1.out))⟩, by simp [intOf]; omega⟩
              · have hkb : (y == x.key) = false := by simpa using hk2
                have HH3 : Hid (n < ks.length → ¬ ks.getD n [] < x.key ∧ ks.getD n [] ≠ x.key) := fun hq => by rw [hye]; exact HH2.out hy hk2 hq
                clear hy hk2 hye HH2 HLN
                go_wp2
                go_quiet (fail)
                go_wp2
                go_quiet (fail)
                first | generalize hWz : World.drewN (World.drewN (World.drewN W1 _) _) _ = Wz | generalize hWz : World.drewN (World.drewN W1 _) _ = Wz | generalize hWz : World.drewN W1 _ = Wz
                have HOZ : Hid (SOw w.heap.size Wz (.slice (some ⟨g, 0, none⟩) ks.length c) ks) := by show SOw _ _ _ _; rw [← hWz]; exact HO1.out
                have HBZ : Hid (Below w.heap.size w Wz) := by show Below _ _ _; rw [← hWz]; first | exact below_drew1 HB1.out | exact below_drew1 (below_drew1 HB1.out) | exact below_drew1 (below_drew1 (below_drew1 HB1.out))
                have c3z : Wz.cell? ⟨b, off + k * 10 + 3, none⟩ = some (.string ⟨x.key.toArray⟩) := by rw [← hWz]; exact c31
                have hzz : w.heap.size ≤ Wz.heap.size := HBZ.out.size
                have hbz : b < Wz.heap.size := by omega
                clear hWz c31 HO1 HB1
                have HKN : Hid (KS h (k + 1) (ks.take n ++ [x.key] ++ ks.drop n)) := HPU.out HXC.out n hn HLT.out HH3.out
                have HFIN : Hid (∀ (w7 : World) (v7 : Value), w7.ownsRow w.heap.size 9 1 v7 (n + 1 + (ks.length - n)) ((ks.take n).map encStr ++ [encStr x.key] ++ (ks.drop n).map encStr) → SOw w.heap.size w7 v7 (ks.take n ++ [x.key] ++ ks.drop n)) := fun w7 v7 hr => by
                  have h1 : (ks.take n ++ [x.key] ++ ks.drop n).length = n + 1 + (ks.length - n) := by simp; omega
                  unfold SOw
                  rw [h1, List.map_append, List.map_append]
                  exact hr
                have hlen2 : (ks.take n ++ [x.key] ++ ks.drop n).length ≤ k + 1 := by simp; omega
                have HADN : Hid (∀ W, SOw w.heap.size W (.slice (some ⟨g, 0, none⟩) ks.length c) ks → ∀ j u, ((ks.drop n).map encStr)[j]? = some u → W.cell? ((⟨g, n, none⟩ : Addr).add j) = some u) := fun W hW j u hj => by
                  rw [List.getElem?_map] at hj
                  have hjl : n + j < ks.length := by
                    rcases Nat.lt_or_ge (n + j) ks.length with h1 | h1
                    · exact h1
                    · rw [List.getElem?_eq_none (by simp; omega)] at hj; cases hj
                  rw [List.getElem?_drop, List.getElem?_eq_getElem hjl] at hj
                  have hc := (hW.cell hjl).1
                  rw [List.getD_eq_getElem?_getD, List.getElem?_eq_getElem hjl] at hc
                  rw [Addr.add_lit]
                  simp at hj
                  rw [← hj]
                  exact hc
                have HAD1 : Hid (∀ W, SOw w.heap.size W (.slice (some ⟨g, 0, none⟩) ks.length c) ks → ∀ j u, ((ks.take n).map encStr)[j]? = some u → W.cell? ((⟨g, 0, none⟩ : Addr).add j) = some u) := fun W hW j u hj => by
                  have hjl : j < n := by
                    rcases Nat.lt_or_ge j n with h1 | h1
                    · exact h1
                    · rw [List.getElem?_eq_none (by simp; omega)] at hj; cases hj
                  rw [List.getElem?_map, List.getElem?_take, if_pos hjl, List.getElem?_eq_getElem (by omega)] at hj
                  have hc := (hW.cell (k := j) (by omega)).1
                  rw [List.getD_eq_getElem?_getD, List.getElem?_eq_getElem (by omega)] at hc
                  rw [Addr.add_lit]
                  simp at hj
                  rw [← hj, Nat.zero_add]
                  exact hc
                have hcn : n ≤ c := by omega
                have HONE : Hid (∀ (l : List Bs), ∀ u ∈ l.map encStr, u.oneCell' = true) := fun l u hu => by obtain ⟨y, -, rfl⟩ := List.mem_map.1 hu; rfl
                have hl1 : ((ks.take n).map encStr).length = n * 1 := by simp; omega
                have hl2 : ((ks.drop n).map encStr).length = (ks.length - n) * 1 := by simp
                have HL1 : Hid (((ks.take n).map encStr).length = n * 1) := hl1
                have HL2 : Hid (((ks.drop n).map encStr).length = (ks.length - n) * 1) := hl2
                clear hl1 hl2 HTH HPU
                by_cases hcn2 : c = n
                · omega
                · skip
                  go_wp2_with (first
                    | (at_builtin; refine wpList_app tyS rfl _ _ rfl w.heap.size (.slice (some ⟨Wz.heap.size, 0, none⟩) 0 0) 0 [] ⟨g, 0, none⟩ n c ((ks.take n).map encStr) rfl (World.ownsRow_lit Wz #[] 0 hzz (by decide) rfl) rfl HL1.out (HAD1.out _ (World.ownsRow.alloc HOZ.out _)) (HONE.out _) (by omega) (by simp; omega) ?_; intro v5 w5 p1 p2 p3; rw [Nat.zero_add, List.nil_append] at p1; obtain ⟨a5, c5', hv5, -, -⟩ := row_shape p1; subst hv5; have HB5 : Hid (Below Wz.heap.size Wz w5) := ((Below.refl _ Wz).alloc (Nat.le_refl _) _).grown p2 (by simp) (fun g hg => by cases hg; exact Nat.le_refl _); have hz5 := HB5.out.size; have HO5 : Hid (SOw w.heap.size w5 (.slice (some ⟨g, 0, none⟩) ks.length c) ks) := row_below HOZ.out HB5.out; have c35 := (HB5.out.cell (p := ⟨b, off + k * 10 + 3, none⟩) hbz).trans c3z; have HN5 : Hid (∀ j, (Value.slice a5 n c5').ownBlock = some j → Wz.heap.size ≤ j) := (fun j hj => by rcases p3 with e | e; rw [e] at hj; cases hj; exact Nat.le_refl _; rw [e] at hj; cases hj; simp); clear p2 p3)
                    | (at_builtin; refine wpList_app tyS rfl _ _ rfl w.heap.size (.slice a5 n c5') n ((ks.take n).map encStr) ⟨w5.heap.size, 0, none⟩ 1 1 [encStr x.key] rfl (World.ownsRow.alloc p1 _) rfl rfl (news_at w5 #[encStr x.key] 9) (HONE.out [x.key]) (by omega) (by simp; omega) ?_; intro v6 w6 r1 r2 r3; obtain ⟨a6, c6', hv6, -, -⟩ := row_shape r1; subst hv6; have HB6 : Hid (Below Wz.heap.size Wz w6) := ((HB5.out.alloc hz5 _).grown r2 (by simp; omega) HN5.out); have hz6 := HB6.out.size; have HO6 : Hid (SOw w.heap.size w6 (.slice (some ⟨g, 0, none⟩) ks.length c) ks) := row_below HOZ.out HB6.out; have HN6 : Hid (∀ j, (Value.slice a6 (n + 1) c6').ownBlock = some j → Wz.heap.size ≤ j) := (fun j hj => by rcases r3 with e | e; rw [e] at hj; exact HN5.out j hj; rw [e] at hj; cases hj; simp; omega); clear r2 r3 p1)
                    | (at_builtin; refine wpList_app tyS rfl _ _ rfl w.heap.size (.slice a6 (n + 1) c6') (n + 1) ((ks.take n).map encStr ++ [encStr x.key]) ⟨g, n, none⟩ (ks.length - n) (c - n) ((ks.drop n).map encStr) rfl r1 rfl HL2.out (HADN.out _ HO6.out) (HONE.out _) (by omega) (by omega) ?_; intro v7 w7 s1 s2 s3; obtain ⟨a7, c7', hv7, -, -⟩ := row_shape s1; subst hv7; have HB7 : Hid (Below Wz.heap.size Wz w7) := (HB6.out.grown s2 (by omega) HN6.out); have HO7 : Hid (SOw w.heap.size w7 (.slice a7 (n + 1 + (ks.length - n)) c7') (ks.take n ++ [x.key] ++ ks.drop n)) := HFIN.out _ _ s1; clear s1 s2 s3 r1))
                  exact ⟨⟨k + 1, _, by simp, by omega, HKN.out, hlen2, HO7.out, HBZ.out.trans (HB7.out.mono hzz)⟩, by simp [intOf]; omega⟩
          · have hnk : n = ks.length := by omega
            have HH3 : Hid (n < ks.length → ¬ ks.getD n [] < x.key ∧ ks.getD n [] ≠ x.key) := fun hq => absurd hq hnl
            have hnb : ((n : Int) == (ks.length : Int)) = true := by rw [hnk]; exact beq_self_eq_true _
            have HNK : Hid (n = ks.length) := hnk
            clear hnk
            go_wp2
            go_quiet (fail)
            go_wp2
            go_quiet (fail)
            first | generalize hWz : World.drewN (World.drewN (World.drewN W1 _) _) _ = Wz | generalize hWz : World.drewN (World.drewN W1 _) _ = Wz | generalize hWz : World.drewN W1 _ = Wz
            have HOZ : Hid (SOw w.heap.size Wz (.slice (some ⟨g, 0, none⟩) ks.length c) ks) := by show SOw _ _ _ _; rw [← hWz]; exact HO1.out
            have HBZ : Hid (Below w.heap.size w Wz) := by show Below _ _ _; rw [← hWz]; first | exact below_drew1 HB1.out | exact below_drew1 (below_drew1 HB1.out) | exact below_drew1 (below_drew1 (below_drew1 HB1.out))
            have c3z : Wz.cell? ⟨b, off + k * 10 + 3, none⟩ = some (.string ⟨x.key.toArray⟩) := by rw [← hWz]; exact c31
            have hzz : w.heap.size ≤ Wz.heap.size := HBZ.out.size
            have hbz : b < Wz.heap.size := by omega
            clear hWz c31 HO1 HB1
            have HKN : Hid (KS h (k + 1) (ks.take n ++ [x.key] ++ ks.drop n)) := HPU.out HXC.out n hn HLT.out HH3.out
            have HFIN : Hid (∀ (w7 : World) (v7 : Value), w7.ownsRow w.heap.size 9 1 v7 (n + 1 + (ks.length - n)) ((ks.take n).map encStr ++ [encStr x.key] ++ (ks.drop n).map encStr) → SOw w.heap.size w7 v7 (ks.take n ++ [x.key] ++ ks.drop n)) := fun w7 v7 hr => by
              have h1 : (ks.take n ++ [x.key] ++ ks.drop n).length = n + 1 + (ks.length - n) := by simp; omega
              unfold SOw
              rw [h1, List.map_append, List.map_append]
              exact hr
            have hlen2 : (ks.take n ++ [x.key] ++ ks.drop n).length ≤ k + 1 := by simp; omega
            have HADN : Hid (∀ W, SOw w.heap.size W (.slice (some ⟨g, 0, none⟩) ks.length c) ks → ∀ j u, ((ks.drop n).map encStr)[j]? = some u → W.cell? ((⟨g, n, none⟩ : Addr).add j) = some u) := fun W hW j u hj => by
              rw [List.getElem?_map] at hj
              have hjl : n + j < ks.length := by
                rcases Nat.lt_or_ge (n + j) ks.length with h1 | h1
                · exact h1
                · rw [List.getElem?_eq_none (by simp; omega)] at hj; cases hj
              rw [List.getElem?_drop, List.getElem?_eq_getElem hjl] at hj
              have hc := (hW.cell hjl).1
              rw [List.getD_eq_getElem?_getD, List.getElem?_eq_getElem hjl] at hc
              rw [Addr.add_lit]
              simp at hj
              rw [← hj]
              exact hc
            have HAD1 : Hid (∀ W, SOw w.heap.size W (.slice (some ⟨g, 0, none⟩) ks.length c) ks → ∀ j u, ((ks.take n).map encStr)[j]? = some u → W.cell? ((⟨g, 0, none⟩ : Addr).add j) = some u) := fun W hW j u hj => by
              have hjl : j < n := by
                rcases Nat.lt_or_ge j n with h1 | h1
                · exact h1
                · rw [List.getElem?_eq_none (by simp; omega)] at hj; cases hj
              rw [List.getElem?_map, List.getElem?_take, if_pos hjl, List.getElem?_eq_getElem (by omega)] at hj
              have hc := (hW.cell (k := j) (by omega)).1
              rw [List.getD_eq_getElem?_getD, List.getElem?_eq_getElem (by omega)] at hc
              rw [Addr.add_lit]
              simp at hj
              rw [← hj, Nat.zero_add]
              exact hc
            have hcn : n ≤ c := by omega
            have HONE : Hid (∀ (l : List Bs), ∀ u ∈ l.map encStr, u.oneCell' = true) := fun l u hu => by obtain ⟨y, -, rfl⟩ := List.mem_map.1 hu; rfl
            have hl1 : ((ks.take n).map encStr).length = n * 1 := by simp; omega
            have hl2 : ((ks.drop n).map encStr).length = (ks.length - n) * 1 := by simp
            have HL1 : Hid (((ks.take n).map encStr).length = n * 1) := hl1
            have HL2 : Hid (((ks.drop n).map encStr).length = (ks.length - n) * 1) := hl2
            clear hl1 hl2 HTH HPU
            by_cases hcn2 : c = n
            · have HDR : Hid (ks.drop n = []) := List.drop_eq_nil_of_le (by omega)
              have HFI0 : Hid (∀ (w7 : World) (v7 : Value), w7.ownsRow w.heap.size 9 1 v7 (n + 1 + 0) ((ks.take n).map encStr ++ [encStr x.key] ++ []) → SOw w.heap.size w7 v7 (ks.take n ++ [x.key] ++ ks.drop n)) := fun w7 v7 hr => HFIN.out w7 v7 (by rw [HDR.out, show ks.length - n = 0 by omega]; exact hr)
              have hcn3 : n = c := hcn2.symm
              clear hcn2
              subst hcn3
              go_wp2_with (first
                | (at_builtin; refine wpList_app tyS rfl _ _ rfl w.heap.size (.slice (some ⟨Wz.heap.size, 0, none⟩) 0 0) 0 [] ⟨g, 0, none⟩ n n ((ks.take n).map encStr) rfl (World.ownsRow_lit Wz #[] 0 hzz (by decide) rfl) rfl HL1.out (HAD1.out _ (World.ownsRow.alloc HOZ.out _)) (HONE.out _) (by omega) (by simp; omega) ?_; intro v5 w5 p1 p2 p3; rw [Nat.zero_add, List.nil_append] at p1; obtain ⟨a5, c5', hv5, -, -⟩ := row_shape p1; subst hv5; have HB5 : Hid (Below Wz.heap.size Wz w5) := ((Below.refl _ Wz).alloc (Nat.le_refl _) _).grown p2 (by simp) (fun g hg => by cases hg; exact Nat.le_refl _); have hz5 := HB5.out.size; have HO5 : Hid (SOw w.heap.size w5 (.slice (some ⟨g, 0, none⟩) ks.length n) ks) := row_below HOZ.out HB5.out; have c35 := (HB5.out.cell (p := ⟨b, off + k * 10 + 3, none⟩) hbz).trans c3z; have HN5 : Hid (∀ j, (Value.slice a5 n c5').ownBlock = some j → Wz.heap.size ≤ j) := (fun j hj => by rcases p3 with e | e; rw [e] at hj; cases hj; exact Nat.le_refl _; rw [e] at hj; cases hj; simp); clear p2 p3)
                | (at_builtin; refine wpList_app tyS rfl _ _ rfl w.heap.size (.slice a5 n c5') n ((ks.take n).map encStr) ⟨w5.heap.size, 0, none⟩ 1 1 [encStr x.key] rfl (World.ownsRow.alloc p1 _) rfl rfl (news_at w5 #[encStr x.key] 9) (HONE.out [x.key]) (by omega) (by simp; omega) ?_; intro v6 w6 r1 r2 r3; obtain ⟨a6, c6', hv6, -, -⟩ := row_shape r1; subst hv6; have HB6 : Hid (Below Wz.heap.size Wz w6) := ((HB5.out.alloc hz5 _).grown r2 (by simp; omega) HN5.out); have hz6 := HB6.out.size; have HO6 : Hid (SOw w.heap.size w6 (.slice (some ⟨g, 0, none⟩) ks.length n) ks) := row_below HOZ.out HB6.out; have HN6 : Hid (∀ j, (Value.slice a6 (n + 1) c6').ownBlock = some j → Wz.heap.size ≤ j) := (fun j hj => by rcases r3 with e | e; rw [e] at hj; exact HN5.out j hj; rw [e] at hj; cases hj; simp; omega); clear r2 r3 p1)
                  | (at_builtin; refine wpList_app tyS rfl _ _ rfl w.heap.size (.slice a6 (n + 1) c6') (n + 1) ((ks.take n).map encStr ++ [encStr x.key]) ⟨g, 0, none⟩ (ks.length - n) (n - n) ((ks.drop n).map encStr) rfl r1 rfl HL2.out (fun j u hj => by rw [HDR.out] at hj; simp at hj) (HONE.out _) (by omega) (by omega) ?_; intro v7 w7 s1 s2 s3; obtain ⟨a7, c7', hv7, -, -⟩ := row_shape s1; subst hv7; have HB7 : Hid (Below Wz.heap.size Wz w7) := (HB6.out.grown s2 (by omega) HN6.out); have HO7 : Hid (SOw w.heap.size w7 (.slice a7 (n + 1 + (ks.length - n)) c7') (ks.take n ++ [x.key] ++ ks.drop n)) := HFIN.out _ _ s1; clear s1 s2 s3 r1)
                | (at_builtin; refine wpList_app tyS rfl _ _ rfl w.heap.size (.slice a6 (n + 1) c6') (n + 1) ((ks.take n).map encStr ++ [encStr x.key]) ⟨g, 0, none⟩ (ks.length - n) 0 ((ks.drop n).map encStr) rfl r1 rfl HL2.out (fun j u hj => by rw [HDR.out] at hj; simp at hj) (HONE.out _) (by omega) (by omega) ?_; intro v7 w7 s1 s2 s3; obtain ⟨a7, c7', hv7, -, -⟩ := row_shape s1; subst hv7; have HB7 : Hid (Below Wz.heap.size Wz w7) := (HB6.out.grown s2 (by omega) HN6.out); have HO7 : Hid (SOw w.heap.size w7 (.slice a7 (n + 1 + (ks.length - n)) c7') (ks.take n ++ [x.key] ++ ks.drop n)) := HFIN.out _ _ s1; clear s1 s2 s3 r1)
                | (at_builtin; refine wpList_app tyS rfl _ _ rfl w.heap.size (.slice a6 (n + 1) c6') (n + 1) ((ks.take n).map encStr ++ [encStr x.key]) ⟨g, 0, none⟩ 0 0 [] rfl r1 rfl rfl (fun j u hj => by simp at hj) (fun u hu => by cases hu) (by omega) (by omega) ?_; intro v7 w7 s1 s2 s3; obtain ⟨a7, c7', hv7, -, -⟩ := row_shape s1; subst hv7; have HB7 : Hid (Below Wz.heap.size Wz w7) := (HB6.out.grown s2 (by omega) HN6.out); have HO7 : Hid (SOw w.heap.size w7 (.slice a7 (n + 1) c7') (ks.take n ++ [x.key] ++ ks.drop n)) := HFI0.out _ _ s1; clear s1 s2 s3 r1))
              exact ⟨⟨k + 1, _, by simp, by omega, HKN.out, hlen2, HO7.out, HBZ.out.trans (HB7.out.mono hzz)⟩, by simp [intOf]; omega⟩
            · skip
              go_wp2_with (first
                | (at_builtin; refine wpList_app tyS rfl _ _ rfl w.heap.size (.slice (some ⟨Wz.heap.size, 0, none⟩) 0 0) 0 [] ⟨g, 0, none⟩ n c ((ks.take n).map encStr) rfl (World.ownsRow_lit Wz #[] 0 hzz (by decide) rfl) rfl HL1.out (HAD1.out _ (World.ownsRow.alloc HOZ.out _)) (HONE.out _) (by omega) (by simp; omega) ?_; intro v5 w5 p1 p2 p3; rw [Nat.zero_add, List.nil_append] at p1; obtain ⟨a5, c5', hv5, -, -⟩ := row_shape p1; subst hv5; have HB5 : Hid (Below Wz.heap.size Wz w5) := ((Below.refl _ Wz).alloc (Nat.le_refl _) _).grown p2 (by simp) (fun g hg => by cases hg; exact Nat.le_refl _); have hz5 := HB5.out.size; have HO5 : Hid (SOw w.heap.size w5 (.slice (some ⟨g, 0, none⟩) ks.length c) ks) := row_below HOZ.out HB5.out; have c35 := (HB5.out.cell (p := ⟨b, off + k * 10 + 3, none⟩) hbz).trans c3z; have HN5 : Hid (∀ j, (Value.slice a5 n c5').ownBlock = some j → Wz.heap.size ≤ j) := (fun j hj => by rcases p3 with e | e; rw [e] at hj; cases hj; exact Nat.le_refl _; rw [e] at hj; cases hj; simp); clear p2 p3)
                | (at_builtin; refine wpList_app tyS rfl _ _ rfl w.heap.size (.slice a5 n c5') n ((ks.take n).map encStr) ⟨w5.heap.size, 0, none⟩ 1 1 [encStr x.key] rfl (World.ownsRow.alloc p1 _) rfl rfl (news_at w5 #[encStr x.key] 9) (HONE.out [x.key]) (by omega) (by simp; omega) ?_; intro v6 w6 r1 r2 r3; obtain ⟨a6, c6', hv6, -, -⟩ := row_shape r1; subst hv6; have HB6 : Hid (Below Wz.heap.size Wz w6) := ((HB5.out.alloc hz5 _).grown r2 (by simp; omega) HN5.out); have hz6 := HB6.out.size; have HO6 : Hid (SOw w.heap.size w6 (.slice (some ⟨g, 0, none⟩) ks.length c) ks) := row_below HOZ.out HB6.out; have HN6 : Hid (∀ j, (Value.slice a6 (n + 1) c6').ownBlock = some j → Wz.heap.size ≤ j) := (fun j hj => by rcases r3 with e | e; rw [e] at hj; exact HN5.out j hj; rw [e] at hj; cases hj; simp; omega); clear r2 r3 p1)
                | (at_builtin; refine wpList_app tyS rfl _ _ rfl w.heap.size (.slice a6 (n + 1) c6') (n + 1) ((ks.take n).map encStr ++ [encStr x.key]) ⟨g, n, none⟩ (ks.length - n) (c - n) ((ks.drop n).map encStr) rfl r1 rfl HL2.out (HADN.out _ HO6.out) (HONE.out _) (by omega) (by omega) ?_; intro v7 w7 s1 s2 s3; obtain ⟨a7, c7', hv7, -, -⟩ := row_shape s1; subst hv7; have HB7 : Hid (Below Wz.heap.size Wz w7) := (HB6.out.grown s2 (by omega) HN6.out); have HO7 : Hid (SOw w.heap.size w7 (.slice a7 (n + 1 + (ks.length - n)) c7') (ks.take n ++ [x.key] ++ ks.drop n)) := HFIN.out _ _ s1; clear s1 s2 s3 r1))
              exact ⟨⟨k + 1, _, by simp, by omega, HKN.out, hlen2, HO7.out, HBZ.out.trans (HB7.out.mono hzz)⟩, by simp [intOf]; omega⟩
      · have hx' : x.counts = false := by simpa using hx
        rw [hx'] at HX
        have HK2 : Hid (KS h (k + 1) ks) := HSK.out hx'
        clear hx hx' HSK HTH HPU
        go_wp2_with (go_at_call 17; refine (HX _).mono ?_; rintro e w4 ⟨rfl, rfl⟩)
        go_roundw
        case rel => exact ⟨k + 1, ks, by simp, by omega, HK2.out, by omega, World.ownsRow.alloc HO.out _, HB.out.alloc hz _⟩
        case measure => simp [intOf]; omega
    · have hkl : k = h.length := by omega
      subst hkl
      go_wp2
      go_ret
      exact ⟨_, ks, rfl, hKS, hO, hB⟩
end Go.Proofs.Ytbcnpdpdflkanaa
