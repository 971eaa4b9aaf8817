/-
  TrackNext: the walk.
-/
import Derived.Test.YtdgaimiggejleaaPk
namespace Go.Proofs.Ytdgaimiggejleaa
open Go.RowKit
set_option linter.unusedVariables false

/-- Messages since the last answer. -/
structure Nx (p : PP) (c : Int) (R : Nat) : Prop where
  rm : p.rm = R
  c0 : 0 ≤ c
  a0 : p.st = 0 → c ≤ 1 ∧ (p.pa = false → c = 0)
  a1 : p.st = 1 → c ≤ (p.W.length : Int) ∧ ∀ y ∈ p.W, y < p.n
  a2 : p.st = 2 → c = 0

theorem freeL_mem {l : List Int} {n y : Int} (h : y ∈ freeL l n) : y ∈ l := (List.dropWhile_sublist _).subset h
theorem above_of {l : List Int} {n : Int} (h : ∀ y ∈ l, y < n) : above l n = true := by
  unfold above
  cases hl : l.getLast? with
  | none => rfl
  | some x => simpa using h x (List.mem_of_getLast? hl)

theorem Nx.re {p : PP} {R : Nat} (h : p.rm = R) (s : Int) : Nx (p.re s) 0 R := ⟨h, Int.le_refl _, fun _ => ⟨by omega, fun _ => rfl⟩, fun _ => ⟨by simp, by intro y hy; simp [PP.re] at hy⟩, fun _ => rfl⟩
theorem Nx.acked {p : PP} {c : Int} {R : Nat} (h : Nx p c R) (x : Int) : Nx (p.acked x) 0 R := by
  have hk : Nx (p.ack x) 0 R := ⟨h.rm, Int.le_refl _, fun _ => ⟨by omega, fun _ => rfl⟩, fun hs => ⟨by omega, fun y hy => by
    have h1 := (h.a1 hs).2 y (freeL_mem hy)
    show y < max p.n (max p.m x + 1)
    omega⟩, fun _ => rfl⟩
  unfold PP.acked
  split
  · split
    · exact Nx.re (p := p.ack x) h.rm 1
    · exact hk
  · split
    · exact hk
    · split
      · exact Nx.re (p := p.ack x) h.rm 0
      · exact hk
theorem Nx.zero {p : PP} {c : Int} {R : Nat} (h : Nx p c R) : Nx p 0 R := ⟨h.rm, Int.le_refl _, fun _ => ⟨by omega, fun _ => rfl⟩, fun hs => ⟨by omega, (h.a1 hs).2⟩, fun _ => rfl⟩
theorem Nx.rej {p : PP} {c : Int} {R : Nat} (h : Nx p c R) (x y : Int) : Nx (p.rej x y) 0 R := by
  unfold PP.rej PP.back
  split
  · rename_i hs
    split
    · exact ⟨h.rm, Int.le_refl _, fun _ => ⟨by omega, fun _ => rfl⟩, fun hs1 => by have h1 : p.st = 1 := hs1; omega, fun _ => rfl⟩
    · exact h.zero
  · split
    · split
      · exact Nx.re h.rm 0
      · exact h.zero
    · exact h.zero
theorem Nx.beat {p : PP} {c : Int} {R : Nat} (h : Nx p c R) : Nx p.beat 0 R := by
  have hp : Nx ({ p with pa := false } : PP) 0 R := ⟨h.rm, Int.le_refl _, fun _ => ⟨by omega, fun _ => rfl⟩, fun hs => ⟨by omega, (h.a1 hs).2⟩, fun _ => rfl⟩
  unfold PP.beat
  split
  · exact hp
  · split
    · unfold PP.let1
      split
      · exact ⟨h.rm, Int.le_refl _, fun _ => ⟨by omega, fun _ => rfl⟩, fun hs => ⟨by omega, fun y hy => (h.a1 hs).2 y (freeL_mem hy)⟩, fun _ => rfl⟩
      · exact hp
    · exact Nx.re (p := { p with pa := false }) h.rm 0
theorem Nx.snap {p : PP} {c : Int} {R : Nat} (h : Nx p c R) (x : Int) : Nx (p.snap x) 0 R := ⟨h.rm, Int.le_refl _, fun _ => ⟨by omega, fun _ => rfl⟩, fun hs => by have h1 : (2 : Int) = 1 := hs; omega, fun _ => rfl⟩
theorem Nx.sent0 {p : PP} {c : Int} {R : Nat} (h : Nx p c R) (hs : p.st = 0) (hm : p.may = true) (x : Int) : Nx (p.sent x) (c + 1) R := by
  have hpa : p.pa = false := by simpa [PP.may, hs] using hm
  have hc := (h.a0 hs).2 hpa
  rw [PP.sent, if_pos hs]
  exact ⟨h.rm, by omega, fun _ => ⟨by omega, fun e => by cases e⟩, fun e => by have h1 : p.st = 1 := e; omega, fun e => by have h1 : p.st = 2 := e; omega⟩
theorem Nx.sent1 {p : PP} {c : Int} {R : Nat} (h : Nx p c R) (hl : p.W.length ≤ p.rm) (hs : p.st = 1) (hm : p.may = true) : Nx (p.sent p.n) (c + 1) R := by
  have hlt : p.W.length < p.rm := by
    have : ¬ p.W.length = p.rm := by simpa [PP.may, hs] using hm
    omega
  have ha := above_of (h.a1 hs).2
  have hok : addOk p.rm p.W p.n = true := by simp [addOk, ha, hlt]
  rw [PP.sent, if_neg (by omega), if_pos hs, PP.send, if_pos ⟨Int.le_refl _, hok⟩]
  have hL : addL p.rm p.W p.n = p.W ++ [p.n] := by simp [addL, ha, putL, hlt]
  have hc := (h.a1 hs).1
  have hc0 := h.c0
  refine ⟨h.rm, by omega, fun e => ?_, fun _ => ⟨?_, fun y hy => ?_⟩, fun e => ?_⟩
  · have h1 : p.st = 0 := e; omega
  · show c + 1 ≤ ((addL p.rm p.W p.n).length : Int)
    rw [hL]; simp; omega
  · have hy' : y ∈ addL p.rm p.W p.n := hy
    rw [hL] at hy'
    show y < p.n + 1
    rcases List.mem_append.1 hy' with h2 | h2
    · have := (h.a1 hs).2 y h2; omega
    · simp at h2; omega
  · have h1 : p.st = 2 := e; omega
theorem Nx.new {next : Int} {R : Nat} : Nx (pNew next R) 0 R := ⟨rfl, Int.le_refl _, fun _ => ⟨by omega, fun _ => rfl⟩, fun e => by have h1 : (0 : Int) = 1 := e; omega, fun _ => rfl⟩
theorem Nx.le {p : PP} {c : Int} {R : Nat} (h : Nx p c R) (ho : p.Ok) (hl : p.W.length ≤ p.rm) : c ≤ (R : Int) := by
  have := h.rm; have := ho.rm
  have hs : p.st = 0 ∨ p.st = 1 ∨ p.st = 2 := by have := ho.s0; have := ho.s2; omega
  rcases hs with hs | hs | hs
  · have := (h.a0 hs).1; omega
  · have := (h.a1 hs).1; omega
  · have := h.a2 hs; omega
theorem PE.len {N : Nat} {w : World} {b : Nat} {p : PP} (h : PE N w b p) : p.W.length ≤ p.rm := by
  obtain ⟨S, h⟩ := h
  exact h.len.1

set_option maxRecDepth 100000 in
set_option maxHeartbeats 8000000 in
theorem next_walk (z0 z1 : Int) (hb1 : In64 z1) (ea : Option Addr) (ec : Nat) (es : List Ded) (w : World) (hx : DedAts w.heap.size w ea es) (hel : es.length ≤ 9223372036854775807) :
    Calls Try.prog 8 #[.int .i64 z0, .int .i64 z1, .slice ea es.length ec] w fun e w' => e = .returned (.bool true) ∧ Below w.heap.size w w' := by
  obtain ⟨x, y, R, e1, e2, e3, e4, hR1, hR2, -⟩ := small64 z1 hb1
  have HF : Hid (Calls _ _ _ _ _) := first_any w
  have HX : Hid (DedAts w.heap.size w ea es) := hx
  clear hb1 hx
  go_enter Try.func8, Try.ntmps8
  go_wp2_with fail
  refine HF.out.mono ?_
  rintro r w1 ⟨rfl, hB1⟩
  have HB1 : Hid (Below w.heap.size w w1) := hB1
  clear hB1 HF
  go_wp2_with fail
  refine (New_E R z0 w.heap.size w1 hR1 hR2 HB1.out.size).mono ?_
  rintro r w2 ⟨b, rfl, hP2, hB2⟩
  have HP2 : Hid (PE w.heap.size w2 b (pNew z0 R)) := hP2
  have HB2 : Hid (Below w.heap.size w w2) := HB1.out.trans (hB2.mono HB1.out.size)
  clear hP2 hB2 HB1 e1 e2 e3 e4
  by_cases hl : es.length ≤ 400
  · by_cases hz : z0 ≤ 4611686018427387904
    · have HO2 : Hid (pNew z0 R).Ok := pNew_ok hR1 hz
      go_wp2
      go_loopw [9, 10] (fun sv iv wr => ∃ (k : Nat) (p : PP) (c : Int), sv = .int .i64 c ∧ iv = .int .i64 (k : Int) ∧ k ≤ es.length ∧ p.Ok ∧ Nx p c R ∧ PE w.heap.size wr b p ∧ Below w.heap.size w wr) (fun _ iv _ => es.length - (intOf iv).toNat)
      case atStart => exact ⟨0, _, 0, rfl, rfl, Nat.zero_le _, HO2.out, Nx.new, HP2.out, HB2.out⟩
      case round =>
        obtain ⟨k, p, c, rfl, rfl, hk, hO, hN, hP, hB⟩ := hrel
        have HO : Hid p.Ok := hO
        have HN : Hid (Nx p c R) := hN
        have HP : Hid (PE w.heap.size wr b p) := hP
        have HB : Hid (Below w.heap.size w wr) := hB
        have hc0 := hN.c0
        have hcR := hN.le hO hP.len
        clear hO hN hP hB HO2 HP2 HB2
        by_cases hlt : k < es.length
        · obtain ⟨g, off, rfl, hg, hd⟩ := HX.out.at hlt
          have hd' := hd.below hg HB.out
          obtain ⟨⟨c0, c1, c2⟩, -⟩ := hd'
          have HNX : Hid (∀ (p' : PP) (wn : World) (c' : Int), p'.Ok → Nx p' c' R → PE w.heap.size wn b p' → Below w.heap.size w wn → (∃ (k' : Nat) (q : PP) (c'' : Int), Value.int .i64 c' = .int .i64 c'' ∧ Value.int .i64 ((k : Int) + 1) = .int .i64 (k' : Int) ∧ k' ≤ es.length ∧ q.Ok ∧ Nx q c'' R ∧ PE w.heap.size wn b q ∧ Below w.heap.size w wn) ∧ es.length - (intOf (Value.int .i64 ((k : Int) + 1))).toNat < es.length - (intOf (Value.int .i64 (k : Int))).toNat) := fun p' wn c' h1 h2 h3 h4 =>
            ⟨⟨k + 1, p', c', rfl, by simp, hlt, h1, h2, h3, h4⟩, by simp [intOf]; omega⟩
          have HNB : Hid (w.heap.size ≤ wr.heap.size) := HB.out.size
          have HCC : Hid (∀ w5, Below w.heap.size w w5 → w5.cell? ⟨g, off + k * 3 + 1, none⟩ = some (.int .i64 (es.getD k nilDed).n) ∧ w5.cell? ⟨g, off + k * 3 + 2, none⟩ = some (.int .i64 (es.getD k nilDed).m) ∧ w5.cell? ⟨g, off + k * 3, none⟩ = some (.int .i64 (es.getD k nilDed).kd)) := fun w5 h5 => by
            obtain ⟨⟨q0, q1, q2⟩, -⟩ := hd.below hg h5
            exact ⟨q1, q2, q0⟩
          clear hd hel
          have hkk : (k : Int) < (es.length : Int) := by omega
          generalize (es.getD k nilDed).kd = dk at *
          generalize (es.getD k nilDed).n = dn at *
          generalize (es.getD k nilDed).m = dm at *
          go_wp2_with fail
          refine (Match_E HP.out).mono ?_
          rintro r wq ⟨rfl, hwq⟩
          subst wq
          cases hn : numB dn with
          | false =>
            go_wp2_with (go_at_call 25; refine (number_any _ _).mono ?_; rintro r wq ⟨rfl, hwq⟩; subst wq; rw [hn])
            go_ret
            exact ⟨rfl, HB.out⟩
          | true =>
          cases hm : numB dm with
          | false =>
            go_wp2_with (go_at_call 25; refine (number_any _ _).mono ?_; rintro r wq ⟨rfl, hwq⟩; subst wq; first | rw [hn] | rw [hm])
            go_ret
            exact ⟨rfl, HB.out⟩
          | true =>
          cases hq : numB p.n with
          | false =>
            go_wp2_with (first
              | (go_at_call 25; refine (number_any _ _).mono ?_; rintro r wq ⟨rfl, hwq⟩; subst wq; first | rw [hn] | rw [hm] | rw [hq])
              | (go_at_call 37; refine (Next_E HP.out).mono ?_; rintro r wq ⟨rfl, hwq⟩; subst wq))
            go_ret
            exact ⟨rfl, HB.out⟩
          | true =>
          have hn' := numB_iff hn
          have hm' := numB_iff hm
          have hq' := numB_iff hq
          have HNN : Hid (0 ≤ dn ∧ dn ≤ 4611686018427387904) := hn'
          have HMM : Hid (0 ≤ dm ∧ dm ≤ 4611686018427387904) := hm'
          have HQQ : Hid (0 ≤ p.n ∧ p.n ≤ 4611686018427387904) := hq'
          clear hn' hm' hq'
          go_wp2_with fail
          refine (number_any _ _).mono ?_
          rintro r wq ⟨rfl, hwq⟩
          subst wq
          rw [hn]
          go_wp2_with fail
          refine (number_any _ _).mono ?_
          rintro r wq ⟨rfl, hwq⟩
          subst wq
          rw [hm]
          go_wp2_with fail
          refine (Next_E HP.out).mono ?_
          rintro r wq ⟨rfl, hwq⟩
          subst wq
          go_wp2_with fail
          refine (number_any _ _).mono ?_
          rintro r wq ⟨rfl, hwq⟩
          subst wq
          rw [hq]
          clear hn hm hq
          have HWC : Hid (IntKind.i64.wrap (c + 1) = c + 1) := by show _ = _; rw [IntKind.wrap_i64]; omega
          by_cases k0 : dk = 0
          · subst k0
            cases hmay : p.may with
            | false =>
              as_aux_lemma =>
              go_wp2_with fail
              refine (May_E HP.out HNB.out HO.out).mono ?_
              rintro r w5 ⟨rfl, hP, hB⟩
              rw [hmay]
              have HB5 : Hid (Below w.heap.size w w5) := HB.out.trans (hB.mono HNB.out)
              clear hB
              obtain ⟨q, HP5, HO5, HN5, HM5⟩ : ∃ q : PP, Hid (PE w.heap.size w5 b q) ∧ Hid q.Ok ∧ Hid (Nx q (c) R) ∧ Hid (p.m ≤ q.m) := ⟨p, hP, HO.out, HN.out, by show p.m ≤ _; rw [show p.m = p.m from rfl]; try omega⟩
              clear hP
              have hmq : ¬ q.m < p.m := by have := HM5.out; omega
              have hnq : ¬ q.n ≤ q.m := by have := HO5.out.mn; omega
              have hcq : ¬ (R : Int) < (c) := by have := HN5.out.le HO5.out HP5.out.len; omega
              have hs5 : q.st = 0 ∨ q.st = 1 ∨ q.st = 2 := by have := HO5.out.s0; have := HO5.out.s2; omega
              have HM6 : Hid (q.st = 2 → q.may = false) := fun h => by simp [PP.may, h]
              go_wp2_with fail
              refine (Match_E HP5.out).mono ?_
              rintro r wq ⟨rfl, hwq⟩
              subst wq
              go_wp2_with fail
              refine (Next_E HP5.out).mono ?_
              rintro r wq ⟨rfl, hwq⟩
              subst wq
              go_wp2_with fail
              refine (Match_E HP5.out).mono ?_
              rintro r wq ⟨rfl, hwq⟩
              subst wq
              go_wp2_with fail
              refine (State_E HP5.out).mono ?_
              rintro r wq ⟨rfl, hwq⟩
              subst wq
              rcases hs5 with hs5 | hs5 | hs5
              · have hc1 : ¬ (1 : Int) < (c) := by have := (HN5.out.a0 hs5).1; omega
                rw [hs5]
                go_wp2_with fail
                refine (State_E HP5.out).mono ?_
                rintro r wq ⟨rfl, hwq⟩
                subst wq
                rw [hs5]
                go_wp2
                exact HNX.out _ _ _ HO5.out HN5.out HP5.out HB5.out
              · rw [hs5]
                go_wp2_with fail
                refine (State_E HP5.out).mono ?_
                rintro r wq ⟨rfl, hwq⟩
                subst wq
                rw [hs5]
                go_wp2
                exact HNX.out _ _ _ HO5.out HN5.out HP5.out HB5.out
              · have hmf := HM6.out hs5
                rw [hs5]
                go_wp2_with fail
                refine (State_E HP5.out).mono ?_
                rintro r wq ⟨rfl, hwq⟩
                subst wq
                rw [hs5]
                go_wp2_with fail
                refine (May_E HP5.out HB5.out.size HO5.out).mono ?_
                rintro r w6 ⟨rfl, hP6, hB6⟩
                rw [hmf]
                have HP6 : Hid (PE w.heap.size w6 b q) := hP6
                have HB6 : Hid (Below w.heap.size w w6) := HB5.out.trans (hB6.mono HB5.out.size)
                clear hP6 hB6
                go_wp2
                exact HNX.out _ _ _ HO5.out HN5.out HP6.out HB6.out
            | true =>
              by_cases hst : p.st = 1
              · as_aux_lemma =>
                go_wp2_with fail
                refine (May_E HP.out HNB.out HO.out).mono ?_
                rintro r w4 ⟨rfl, hP4, hB4⟩
                rw [hmay]
                have HP4 : Hid (PE w.heap.size w4 b p) := hP4
                have HB4 : Hid (Below w.heap.size w w4) := HB.out.trans (hB4.mono HNB.out)
                clear hP4 hB4
                go_wp2_with fail
                refine (State_E HP4.out).mono ?_
                rintro r wq ⟨rfl, hwq⟩
                subst wq
                rw [hst]
                go_wp2_with fail
                refine (Next_E HP4.out).mono ?_
                rintro r wq ⟨rfl, hwq⟩
                subst wq
                go_wp2_with fail
                refine (Sent_E HP4.out HB4.out.size HO.out p.n HQQ.out.1 HQQ.out.2).mono ?_
                rintro r w5 ⟨rfl, hP, hB⟩
                have HB5 : Hid (Below w.heap.size w w5) := HB4.out.trans hB
                have hwc := HWC.out
                clear hB
                obtain ⟨q, HP5, HO5, HN5, HM5⟩ : ∃ q : PP, Hid (PE w.heap.size w5 b q) ∧ Hid q.Ok ∧ Hid (Nx q (c + 1) R) ∧ Hid (p.m ≤ q.m) := ⟨p.sent p.n, hP, HO.out.sent HQQ.out.1 HQQ.out.2, HN.out.sent1 HP4.out.len hst hmay, by show p.m ≤ _; rw [PP.sent_m]; try omega⟩
                clear hP
                have hmq : ¬ q.m < p.m := by have := HM5.out; omega
                have hnq : ¬ q.n ≤ q.m := by have := HO5.out.mn; omega
                have hcq : ¬ (R : Int) < (c + 1) := by have := HN5.out.le HO5.out HP5.out.len; omega
                have hs5 : q.st = 0 ∨ q.st = 1 ∨ q.st = 2 := by have := HO5.out.s0; have := HO5.out.s2; omega
                have HM6 : Hid (q.st = 2 → q.may = false) := fun h => by simp [PP.may, h]
                go_wp2_with fail
                refine (Match_E HP5.out).mono ?_
                rintro r wq ⟨rfl, hwq⟩
                subst wq
                go_wp2_with fail
                refine (Next_E HP5.out).mono ?_
                rintro r wq ⟨rfl, hwq⟩
                subst wq
                go_wp2_with fail
                refine (Match_E HP5.out).mono ?_
                rintro r wq ⟨rfl, hwq⟩
                subst wq
                go_wp2_with fail
                refine (State_E HP5.out).mono ?_
                rintro r wq ⟨rfl, hwq⟩
                subst wq
                rcases hs5 with hs5 | hs5 | hs5
                · have hc1 : ¬ (1 : Int) < (c + 1) := by have := (HN5.out.a0 hs5).1; omega
                  rw [hs5]
                  go_wp2_with fail
                  refine (State_E HP5.out).mono ?_
                  rintro r wq ⟨rfl, hwq⟩
                  subst wq
                  rw [hs5]
                  go_wp2
                  exact HNX.out _ _ _ HO5.out HN5.out HP5.out HB5.out
                · rw [hs5]
                  go_wp2_with fail
                  refine (State_E HP5.out).mono ?_
                  rintro r wq ⟨rfl, hwq⟩
                  subst wq
                  rw [hs5]
                  go_wp2
                  exact HNX.out _ _ _ HO5.out HN5.out HP5.out HB5.out
                · have hmf := HM6.out hs5
                  rw [hs5]
                  go_wp2_with fail
                  refine (State_E HP5.out).mono ?_
                  rintro r wq ⟨rfl, hwq⟩
                  subst wq
                  rw [hs5]
                  go_wp2_with fail
                  refine (May_E HP5.out HB5.out.size HO5.out).mono ?_
                  rintro r w6 ⟨rfl, hP6, hB6⟩
                  rw [hmf]
                  have HP6 : Hid (PE w.heap.size w6 b q) := hP6
                  have HB6 : Hid (Below w.heap.size w w6) := HB5.out.trans (hB6.mono HB5.out.size)
                  clear hP6 hB6
                  go_wp2
                  exact HNX.out _ _ _ HO5.out HN5.out HP6.out HB6.out
              · have hst0 : p.st = 0 := by
                  have h1 := HO.out.s0
                  have h2 := HO.out.s2
                  have h3 : ¬ p.st = 2 := fun e => by simp [PP.may, e] at hmay
                  omega
                as_aux_lemma =>
                go_wp2_with fail
                refine (May_E HP.out HNB.out HO.out).mono ?_
                rintro r w4 ⟨rfl, hP4, hB4⟩
                rw [hmay]
                have HP4 : Hid (PE w.heap.size w4 b p) := hP4
                have HB4 : Hid (Below w.heap.size w w4) := HB.out.trans (hB4.mono HNB.out)
                obtain ⟨q1, q2, q0⟩ := HCC.out w4 HB4.out
                clear hP4 hB4
                go_wp2_with fail
                refine (State_E HP4.out).mono ?_
                rintro r wq ⟨rfl, hwq⟩
                subst wq
                rw [hst0]
                go_wp2_with fail
                refine (Sent_E HP4.out HB4.out.size HO.out dn HNN.out.1 HNN.out.2).mono ?_
                rintro r w5 ⟨rfl, hP, hB⟩
                have HB5 : Hid (Below w.heap.size w w5) := HB4.out.trans hB
                have hwc := HWC.out
                clear hB
                obtain ⟨q, HP5, HO5, HN5, HM5⟩ : ∃ q : PP, Hid (PE w.heap.size w5 b q) ∧ Hid q.Ok ∧ Hid (Nx q (c + 1) R) ∧ Hid (p.m ≤ q.m) := ⟨p.sent dn, hP, HO.out.sent HNN.out.1 HNN.out.2, HN.out.sent0 hst0 hmay dn, by show p.m ≤ _; rw [PP.sent_m]; try omega⟩
                clear hP
                have hmq : ¬ q.m < p.m := by have := HM5.out; omega
                have hnq : ¬ q.n ≤ q.m := by have := HO5.out.mn; omega
                have hcq : ¬ (R : Int) < (c + 1) := by have := HN5.out.le HO5.out HP5.out.len; omega
                have hs5 : q.st = 0 ∨ q.st = 1 ∨ q.st = 2 := by have := HO5.out.s0; have := HO5.out.s2; omega
                have HM6 : Hid (q.st = 2 → q.may = false) := fun h => by simp [PP.may, h]
                go_wp2_with fail
                refine (Match_E HP5.out).mono ?_
                rintro r wq ⟨rfl, hwq⟩
                subst wq
                go_wp2_with fail
                refine (Next_E HP5.out).mono ?_
                rintro r wq ⟨rfl, hwq⟩
                subst wq
                go_wp2_with fail
                refine (Match_E HP5.out).mono ?_
                rintro r wq ⟨rfl, hwq⟩
                subst wq
                go_wp2_with fail
                refine (State_E HP5.out).mono ?_
                rintro r wq ⟨rfl, hwq⟩
                subst wq
                rcases hs5 with hs5 | hs5 | hs5
                · have hc1 : ¬ (1 : Int) < (c + 1) := by have := (HN5.out.a0 hs5).1; omega
                  rw [hs5]
                  go_wp2_with fail
                  refine (State_E HP5.out).mono ?_
                  rintro r wq ⟨rfl, hwq⟩
                  subst wq
                  rw [hs5]
                  go_wp2
                  exact HNX.out _ _ _ HO5.out HN5.out HP5.out HB5.out
                · rw [hs5]
                  go_wp2_with fail
                  refine (State_E HP5.out).mono ?_
                  rintro r wq ⟨rfl, hwq⟩
                  subst wq
                  rw [hs5]
                  go_wp2
                  exact HNX.out _ _ _ HO5.out HN5.out HP5.out HB5.out
                · have hmf := HM6.out hs5
                  rw [hs5]
                  go_wp2_with fail
                  refine (State_E HP5.out).mono ?_
                  rintro r wq ⟨rfl, hwq⟩
                  subst wq
                  rw [hs5]
                  go_wp2_with fail
                  refine (May_E HP5.out HB5.out.size HO5.out).mono ?_
                  rintro r w6 ⟨rfl, hP6, hB6⟩
                  rw [hmf]
                  have HP6 : Hid (PE w.heap.size w6 b q) := hP6
                  have HB6 : Hid (Below w.heap.size w w6) := HB5.out.trans (hB6.mono HB5.out.size)
                  clear hP6 hB6
                  go_wp2
                  exact HNX.out _ _ _ HO5.out HN5.out HP6.out HB6.out
          by_cases k1 : dk = 1
          · as_aux_lemma =>
            subst k1
            go_wp2_with fail
            refine (Acked_E HP.out HNB.out HO.out dn HNN.out.1 HNN.out.2).mono ?_
            rintro r w5 ⟨rfl, hP, hB⟩
            have HB5 : Hid (Below w.heap.size w w5) := HB.out.trans hB
            clear hB
            obtain ⟨q, HP5, HO5, HN5, HM5⟩ : ∃ q : PP, Hid (PE w.heap.size w5 b q) ∧ Hid q.Ok ∧ Hid (Nx q (0) R) ∧ Hid (p.m ≤ q.m) := ⟨p.acked dn, hP, HO.out.acked HNN.out.1 HNN.out.2, HN.out.acked dn, by show p.m ≤ _; rw [PP.acked_m]; try omega⟩
            clear hP
            have hmq : ¬ q.m < p.m := by have := HM5.out; omega
            have hnq : ¬ q.n ≤ q.m := by have := HO5.out.mn; omega
            have hcq : ¬ (R : Int) < (0) := by have := HN5.out.le HO5.out HP5.out.len; omega
            have hs5 : q.st = 0 ∨ q.st = 1 ∨ q.st = 2 := by have := HO5.out.s0; have := HO5.out.s2; omega
            have HM6 : Hid (q.st = 2 → q.may = false) := fun h => by simp [PP.may, h]
            go_wp2_with fail
            refine (Match_E HP5.out).mono ?_
            rintro r wq ⟨rfl, hwq⟩
            subst wq
            go_wp2_with fail
            refine (Next_E HP5.out).mono ?_
            rintro r wq ⟨rfl, hwq⟩
            subst wq
            go_wp2_with fail
            refine (Match_E HP5.out).mono ?_
            rintro r wq ⟨rfl, hwq⟩
            subst wq
            go_wp2_with fail
            refine (State_E HP5.out).mono ?_
            rintro r wq ⟨rfl, hwq⟩
            subst wq
            rcases hs5 with hs5 | hs5 | hs5
            · have hc1 : ¬ (1 : Int) < (0) := by have := (HN5.out.a0 hs5).1; omega
              rw [hs5]
              go_wp2_with fail
              refine (State_E HP5.out).mono ?_
              rintro r wq ⟨rfl, hwq⟩
              subst wq
              rw [hs5]
              go_wp2
              exact HNX.out _ _ _ HO5.out HN5.out HP5.out HB5.out
            · rw [hs5]
              go_wp2_with fail
              refine (State_E HP5.out).mono ?_
              rintro r wq ⟨rfl, hwq⟩
              subst wq
              rw [hs5]
              go_wp2
              exact HNX.out _ _ _ HO5.out HN5.out HP5.out HB5.out
            · have hmf := HM6.out hs5
              rw [hs5]
              go_wp2_with fail
              refine (State_E HP5.out).mono ?_
              rintro r wq ⟨rfl, hwq⟩
              subst wq
              rw [hs5]
              go_wp2_with fail
              refine (May_E HP5.out HB5.out.size HO5.out).mono ?_
              rintro r w6 ⟨rfl, hP6, hB6⟩
              rw [hmf]
              have HP6 : Hid (PE w.heap.size w6 b q) := hP6
              have HB6 : Hid (Below w.heap.size w w6) := HB5.out.trans (hB6.mono HB5.out.size)
              clear hP6 hB6
              go_wp2
              exact HNX.out _ _ _ HO5.out HN5.out HP6.out HB6.out
          by_cases k2 : dk = 2
          · as_aux_lemma =>
            subst k2
            have HAK : Hid (∀ w4, Below wr.heap.size wr w4 → Calls Try.prog 30 #[.pointer (some ⟨b, 0, none⟩), .int .i64 dn, .int .i64 dm] w4 fun e w' => e = .returned (.bool (p.rejY dn)) ∧ PE w.heap.size w' b (p.rej dn dm) ∧ Below w.heap.size w w') := fun w4 h4 => (Rejected_E (HP.out.below h4) (Nat.le_trans HNB.out h4.size) HO.out dn dm HMM.out.1 HMM.out.2).mono fun e w' h => ⟨h.1, h.2.1, HB.out.trans ((h4.mono HNB.out).trans h.2.2)⟩
            go_wp2_with fail
            go_region_held3 (fun w' => w'.cell? ⟨g, off + k * 3 + 1, none⟩ = some (.int .i64 dn) ∧ w'.cell? ⟨g, off + k * 3 + 2, none⟩ = some (.int .i64 dm)) (go_keep)
              (first
                | (go_at_call 30; refine (HAK.out _ (Below.refl _ _).drew).mono ?_; rintro r w5 ⟨rfl, hP, hB⟩; have HP7 : Hid (PE w.heap.size w5 b (p.rej dn dm)) := hP; have HB5 : Hid (Below w.heap.size w w5) := hB; obtain ⟨q1, q2, -⟩ := HCC.out w5 hB; clear hP hB)
                | fail)
            have hP := HP7.out
            clear HP7
            obtain ⟨q, HP5, HO5, HN5, HM5⟩ : ∃ q : PP, Hid (PE w.heap.size w5 b q) ∧ Hid q.Ok ∧ Hid (Nx q (0) R) ∧ Hid (p.m ≤ q.m) := ⟨p.rej dn dm, hP, HO.out.rej dn dm, HN.out.rej dn dm, by show p.m ≤ _; rw [PP.rej_m]; try omega⟩
            clear hP
            have hmq : ¬ q.m < p.m := by have := HM5.out; omega
            have hnq : ¬ q.n ≤ q.m := by have := HO5.out.mn; omega
            have hcq : ¬ (R : Int) < (0) := by have := HN5.out.le HO5.out HP5.out.len; omega
            have hs5 : q.st = 0 ∨ q.st = 1 ∨ q.st = 2 := by have := HO5.out.s0; have := HO5.out.s2; omega
            have HM6 : Hid (q.st = 2 → q.may = false) := fun h => by simp [PP.may, h]
            go_wp2_with fail
            refine (Match_E HP5.out).mono ?_
            rintro r wq ⟨rfl, hwq⟩
            subst wq
            go_wp2_with fail
            refine (Next_E HP5.out).mono ?_
            rintro r wq ⟨rfl, hwq⟩
            subst wq
            go_wp2_with fail
            refine (Match_E HP5.out).mono ?_
            rintro r wq ⟨rfl, hwq⟩
            subst wq
            go_wp2_with fail
            refine (State_E HP5.out).mono ?_
            rintro r wq ⟨rfl, hwq⟩
            subst wq
            rcases hs5 with hs5 | hs5 | hs5
            · have hc1 : ¬ (1 : Int) < (0) := by have := (HN5.out.a0 hs5).1; omega
              rw [hs5]
              go_wp2_with fail
              refine (State_E HP5.out).mono ?_
              rintro r wq ⟨rfl, hwq⟩
              subst wq
              rw [hs5]
              go_wp2
              exact HNX.out _ _ _ HO5.out HN5.out HP5.out HB5.out
            · rw [hs5]
              go_wp2_with fail
              refine (State_E HP5.out).mono ?_
              rintro r wq ⟨rfl, hwq⟩
              subst wq
              rw [hs5]
              go_wp2
              exact HNX.out _ _ _ HO5.out HN5.out HP5.out HB5.out
            · have hmf := HM6.out hs5
              rw [hs5]
              go_wp2_with fail
              refine (State_E HP5.out).mono ?_
              rintro r wq ⟨rfl, hwq⟩
              subst wq
              rw [hs5]
              go_wp2_with fail
              refine (May_E HP5.out HB5.out.size HO5.out).mono ?_
              rintro r w6 ⟨rfl, hP6, hB6⟩
              rw [hmf]
              have HP6 : Hid (PE w.heap.size w6 b q) := hP6
              have HB6 : Hid (Below w.heap.size w w6) := HB5.out.trans (hB6.mono HB5.out.size)
              clear hP6 hB6
              go_wp2
              exact HNX.out _ _ _ HO5.out HN5.out HP6.out HB6.out
          by_cases k3 : dk = 3
          · as_aux_lemma =>
            subst k3
            go_wp2_with fail
            refine (Beat_E HP.out HNB.out HO.out).mono ?_
            rintro r w5 ⟨rfl, hP, hB⟩
            have HB5 : Hid (Below w.heap.size w w5) := HB.out.trans hB
            clear hB
            obtain ⟨q, HP5, HO5, HN5, HM5⟩ : ∃ q : PP, Hid (PE w.heap.size w5 b q) ∧ Hid q.Ok ∧ Hid (Nx q (0) R) ∧ Hid (p.m ≤ q.m) := ⟨p.beat, hP, HO.out.beat, HN.out.beat, by show p.m ≤ _; rw [PP.beat_m]; try omega⟩
            clear hP
            have hmq : ¬ q.m < p.m := by have := HM5.out; omega
            have hnq : ¬ q.n ≤ q.m := by have := HO5.out.mn; omega
            have hcq : ¬ (R : Int) < (0) := by have := HN5.out.le HO5.out HP5.out.len; omega
            have hs5 : q.st = 0 ∨ q.st = 1 ∨ q.st = 2 := by have := HO5.out.s0; have := HO5.out.s2; omega
            have HM6 : Hid (q.st = 2 → q.may = false) := fun h => by simp [PP.may, h]
            go_wp2_with fail
            refine (Match_E HP5.out).mono ?_
            rintro r wq ⟨rfl, hwq⟩
            subst wq
            go_wp2_with fail
            refine (Next_E HP5.out).mono ?_
            rintro r wq ⟨rfl, hwq⟩
            subst wq
            go_wp2_with fail
            refine (Match_E HP5.out).mono ?_
            rintro r wq ⟨rfl, hwq⟩
            subst wq
            go_wp2_with fail
            refine (State_E HP5.out).mono ?_
            rintro r wq ⟨rfl, hwq⟩
            subst wq
            rcases hs5 with hs5 | hs5 | hs5
            · have hc1 : ¬ (1 : Int) < (0) := by have := (HN5.out.a0 hs5).1; omega
              rw [hs5]
              go_wp2_with fail
              refine (State_E HP5.out).mono ?_
              rintro r wq ⟨rfl, hwq⟩
              subst wq
              rw [hs5]
              go_wp2
              exact HNX.out _ _ _ HO5.out HN5.out HP5.out HB5.out
            · rw [hs5]
              go_wp2_with fail
              refine (State_E HP5.out).mono ?_
              rintro r wq ⟨rfl, hwq⟩
              subst wq
              rw [hs5]
              go_wp2
              exact HNX.out _ _ _ HO5.out HN5.out HP5.out HB5.out
            · have hmf := HM6.out hs5
              rw [hs5]
              go_wp2_with fail
              refine (State_E HP5.out).mono ?_
              rintro r wq ⟨rfl, hwq⟩
              subst wq
              rw [hs5]
              go_wp2_with fail
              refine (May_E HP5.out HB5.out.size HO5.out).mono ?_
              rintro r w6 ⟨rfl, hP6, hB6⟩
              rw [hmf]
              have HP6 : Hid (PE w.heap.size w6 b q) := hP6
              have HB6 : Hid (Below w.heap.size w w6) := HB5.out.trans (hB6.mono HB5.out.size)
              clear hP6 hB6
              go_wp2
              exact HNX.out _ _ _ HO5.out HN5.out HP6.out HB6.out
          · as_aux_lemma =>
            have b0 : (dk == 0) = false := by simpa using k0
            have b1 : (dk == 1) = false := by simpa using k1
            have b2 : (dk == 2) = false := by simpa using k2
            have b3 : (dk == 3) = false := by simpa using k3
            go_wp2_with fail
            refine (Snap_E HP.out HNB.out dn).mono ?_
            rintro r w5 ⟨rfl, hP, hB⟩
            have HB5 : Hid (Below w.heap.size w w5) := HB.out.trans hB
            clear hB
            obtain ⟨q, HP5, HO5, HN5, HM5⟩ : ∃ q : PP, Hid (PE w.heap.size w5 b q) ∧ Hid q.Ok ∧ Hid (Nx q (0) R) ∧ Hid (p.m ≤ q.m) := ⟨p.snap dn, hP, HO.out.snap dn, HN.out.snap dn, by show p.m ≤ _; rw [PP.snap_m]; try omega⟩
            clear hP
            have hmq : ¬ q.m < p.m := by have := HM5.out; omega
            have hnq : ¬ q.n ≤ q.m := by have := HO5.out.mn; omega
            have hcq : ¬ (R : Int) < (0) := by have := HN5.out.le HO5.out HP5.out.len; omega
            have hs5 : q.st = 0 ∨ q.st = 1 ∨ q.st = 2 := by have := HO5.out.s0; have := HO5.out.s2; omega
            have HM6 : Hid (q.st = 2 → q.may = false) := fun h => by simp [PP.may, h]
            go_wp2_with fail
            refine (Match_E HP5.out).mono ?_
            rintro r wq ⟨rfl, hwq⟩
            subst wq
            go_wp2_with fail
            refine (Next_E HP5.out).mono ?_
            rintro r wq ⟨rfl, hwq⟩
            subst wq
            go_wp2_with fail
            refine (Match_E HP5.out).mono ?_
            rintro r wq ⟨rfl, hwq⟩
            subst wq
            go_wp2_with fail
            refine (State_E HP5.out).mono ?_
            rintro r wq ⟨rfl, hwq⟩
            subst wq
            rcases hs5 with hs5 | hs5 | hs5
            · have hc1 : ¬ (1 : Int) < (0) := by have := (HN5.out.a0 hs5).1; omega
              rw [hs5]
              go_wp2_with fail
              refine (State_E HP5.out).mono ?_
              rintro r wq ⟨rfl, hwq⟩
              subst wq
              rw [hs5]
              go_wp2
              exact HNX.out _ _ _ HO5.out HN5.out HP5.out HB5.out
            · rw [hs5]
              go_wp2_with fail
              refine (State_E HP5.out).mono ?_
              rintro r wq ⟨rfl, hwq⟩
              subst wq
              rw [hs5]
              go_wp2
              exact HNX.out _ _ _ HO5.out HN5.out HP5.out HB5.out
            · have hmf := HM6.out hs5
              rw [hs5]
              go_wp2_with fail
              refine (State_E HP5.out).mono ?_
              rintro r wq ⟨rfl, hwq⟩
              subst wq
              rw [hs5]
              go_wp2_with fail
              refine (May_E HP5.out HB5.out.size HO5.out).mono ?_
              rintro r w6 ⟨rfl, hP6, hB6⟩
              rw [hmf]
              have HP6 : Hid (PE w.heap.size w6 b q) := hP6
              have HB6 : Hid (Below w.heap.size w w6) := HB5.out.trans (hB6.mono HB5.out.size)
              clear hP6 hB6
              go_wp2
              exact HNX.out _ _ _ HO5.out HN5.out HP6.out HB6.out
        · have hkn : k = es.length := by omega
          go_wp2
          go_ret
          exact ⟨rfl, HB.out⟩
    · have hzz : decide (4611686018427387904 < z0) = true := by simp; omega
      go_wp2
      go_ret
      exact ⟨rfl, HB2.out⟩
  · go_wp2
    go_ret
    exact ⟨rfl, HB2.out⟩

theorem trackNext_in (w : World) (z0 : Int) (hb0 : In64 z0) (z1 : Int) (hb1 : In64 z1) {ea : Option Addr} {ec : Nat} (es : List Ded) (s : DedAts w.heap.size w ea es ∧ es.length ≤ 9223372036854775807) :
    Calls Try.prog 8 #[.int .i64 z0, .int .i64 z1, .slice ea es.length ec] w fun e w' => e = .returned (.bool true) ∧ Below w.heap.size w w' := next_walk z0 z1 hb1 ea ec es w s.1 s.2
end Go.Proofs.Ytdgaimiggejleaa
