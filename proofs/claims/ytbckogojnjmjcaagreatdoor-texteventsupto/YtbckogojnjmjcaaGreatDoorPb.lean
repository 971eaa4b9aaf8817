/-
  Blanks; lines that are fixed; options, plainly.
-/
import Derived.Test.YtbckogojnjmjcaaGreatDoorPa
namespace Go.Proofs.YtbckogojnjmjcaaGreatDoor
open Go

theorem Wd.last {t w : Bs} (h : Wd t w) {s : Bs} (e : t = s ++ [32]) : False := by
  rcases h with ⟨rfl, -, h2⟩ | rfl
  · subst e
    simp only [List.all_append, List.all_cons, List.all_nil, Bool.and_true, Bool.and_eq_true] at h2
    exact absurd h2.2 (by decide)
  · have : (34 :: (flat w ++ [34])).getLast? = (s ++ [32]).getLast? := by rw [e]
    rw [← List.cons_append, List.getLast?_append, List.getLast?_append] at this
    simp at this
/-- A blank behind a line changes nothing. -/
theorem Ln.behind {s : Bs} {ws : List Bs} : Ln (s ++ [32]) ws ↔ Ln s ws := by
  constructor
  · intro h
    generalize e : s ++ [32] = s' at h
    induction h generalizing s with
    | nil => simp at e
    | @blank s1 ws h ih =>
      cases s with
      | nil =>
        simp only [List.nil_append, List.cons.injEq, true_and] at e
        subst e
        exact h
      | cons c s2 =>
        simp only [List.cons_append, List.cons.injEq] at e
        obtain ⟨rfl, e⟩ := e
        exact .blank (ih e)
    | @word t w r ws h1 h2 h3 ih =>
      rcases h2 with rfl | ⟨q, rfl⟩
      · rw [List.append_nil] at e
        exact (h1.last e.symm).elim
      · rcases List.eq_nil_or_concat q with rfl | ⟨q', x, rfl⟩
        · have e' := List.append_inj' e rfl
          obtain ⟨rfl, -⟩ := e'
          have := Ln.unblank.1 h3
          have := Ln.word h1 (.inl rfl) this
          rwa [List.append_nil] at this
        · have e1 : s ++ [32] = (t ++ 32 :: q') ++ [x] := by rw [e]; simp
          have e' := List.append_inj' e1 rfl
          obtain ⟨rfl, e2⟩ := e'
          have hx : 32 = x := by simpa using e2
          subst hx
          have := ih (s := 32 :: q') (by simp)
          exact .word h1 (.inr ⟨q', rfl⟩) this
  · intro h
    induction h with
    | nil => exact .blank .nil
    | blank _ ih => exact .blank ih
    | @word t w r ws h1 h2 h3 ih =>
      rw [List.append_assoc]
      refine .word h1 ?_ ih
      rcases h2 with rfl | ⟨q, rfl⟩
      · exact .inr ⟨[], rfl⟩
      · exact .inr ⟨q ++ [32], rfl⟩
def spread (s : Bs) : Bs := 32 :: (s ++ [32, 32])
theorem Ln.spread {s : Bs} {ws : List Bs} : Ln (spread s) ws ↔ Ln s ws := by
  unfold YtbckogojnjmjcaaGreatDoor.spread
  rw [Ln.unblank, show s ++ [32, 32] = (s ++ [32]) ++ [32] by simp, Ln.behind, Ln.behind]
theorem PaR.spread {s : Bs} {r : Except Nat Ac} (hs : s.length ≤ 2000) (h : PaR s r) : PaR (YtbckogojnjmjcaaGreatDoor.spread s) r := by
  have hl : (YtbckogojnjmjcaaGreatDoor.spread s).length ≤ 4096 := by unfold YtbckogojnjmjcaaGreatDoor.spread; simp; omega
  rcases h with ⟨h1, rfl⟩ | ⟨h1, h2, rfl⟩ | ⟨h1, ws, h2, rfl⟩
  · omega
  · exact .inr (.inl ⟨hl, fun ws hw => h2 ws (Ln.spread.1 hw), rfl⟩)
  · exact .inr (.inr ⟨hl, ws, Ln.spread.2 h2, rfl⟩)
/-- Words with three blanks ahead of each. -/
def wide : List Bs → Bs
  | [] => []
  | w :: ws => [32, 32, 32] ++ (quoteL w ++ wide ws)
theorem wide_fit (ws : List Bs) : Fit (wide ws) := by
  cases ws with
  | nil => exact .inl rfl
  | cons w ws => exact .inr ⟨_, rfl⟩
theorem wide_ln (ws : List Bs) : Ln (wide ws) ws := by
  induction ws with
  | nil => exact .nil
  | cons w ws ih =>
    show Ln (32 :: 32 :: 32 :: (quoteL w ++ wide ws)) _
    exact .blank (.blank (.blank (.word (quote_wd w) (wide_fit ws) ih)))
def wideFrom (s : Bs) : List Bs → Bs
  | [] => s
  | w :: ws => wideFrom (s ++ [32, 32, 32] ++ quoteL w) ws
theorem wideFrom_eq (ws : List Bs) (s : Bs) : wideFrom s ws = s ++ wide ws := by
  induction ws generalizing s with
  | nil => simp [wideFrom, wide]
  | cons w ws ih => rw [wideFrom, ih, wide]; simp
/-- A line of quoted words. -/
theorem quotes_ln (l : List Bs) : Ln (Lib.join (l.map quoteL) [32]) l := by
  refine line_words (by simp) ?_
  intro i hi
  simp only [List.getD_eq_getElem?_getD, List.getElem?_map, List.getElem?_eq_getElem hi, Option.map_some, Option.getD_some]
  exact quote_wd _
theorem dec1 (n : Nat) (h : n < 10) : Lib.decDigits n = [UInt8.ofNat (48 + n)] := by rw [Lib.decDigits, dif_pos h]
theorem itoa1 (n : Nat) (h : n < 10) : Lib.itoa (n : Int) = [UInt8.ofNat (48 + n)] := by
  unfold Lib.itoa
  rw [if_neg (by omega), Int.toNat_natCast, dec1 n h]
theorem itoaM1 (n : Nat) (h0 : 0 < n) (h : n < 10) : Lib.itoa (-(n : Int)) = [45, UInt8.ofNat (48 + n)] := by
  unfold Lib.itoa
  rw [if_pos (by omega), Int.natAbs_neg, Int.natAbs_natCast, dec1 n h]
def c1 : Bs := [112, 117, 116, 32, 32, 49, 32, 50, 32, 97, 32, 34, 98, 32, 99, 34]
theorem c1_ln : Ln c1 [[112, 117, 116], [49], [50], [97], [98, 32, 99]] := by
  have e : c1 = [112, 117, 116] ++ (32 :: 32 :: ([49] ++ (32 :: ([50] ++ (32 :: ([97] ++ (32 :: ([34, 98, 32, 99, 34] ++ [])))))))) := rfl
  rw [e]
  refine .word (.inl ⟨rfl, by decide, by decide⟩) (.inr ⟨_, rfl⟩) (.blank (.blank (.word (.inl ⟨rfl, by decide, by decide⟩) (.inr ⟨_, rfl⟩) (.blank (.word (.inl ⟨rfl, by decide, by decide⟩) (.inr ⟨_, rfl⟩) (.blank (.word (.inl ⟨rfl, by decide, by decide⟩) (.inr ⟨_, rfl⟩) (.blank (.word (.inr ?_) (.inl rfl) .nil)))))))))
  decide
def c2 : Bs := [116, 105, 99, 107, 32, 49, 32, 45, 53]
theorem c2_pa : PaR c2 (.ok ⟨1, 1, 0, -5, 0, 0, [], [], []⟩) := by
  refine .inr (.inr ⟨by decide, [[116, 105, 99, 107], [49], [45, 53]], ?_, ?_⟩)
  · have e : c2 = [116, 105, 99, 107] ++ (32 :: ([49] ++ (32 :: ([45, 53] ++ [])))) := rfl
    rw [e]
    exact .word (.inl ⟨rfl, by decide, by decide⟩) (.inr ⟨_, rfl⟩) (.blank (.word (.inl ⟨rfl, by decide, by decide⟩) (.inr ⟨_, rfl⟩) (.blank (.word (.inl ⟨rfl, by decide, by decide⟩) (.inl rfl) .nil))))
  · have h1 : numOf [49] = some 1 := numOf_some.2 ⟨by decide, by decide, itoa1 1 (by decide)⟩
    have h2 : numOf [45, 53] = some (-5) := numOf_some.2 ⟨by decide, by decide, itoaM1 5 (by decide) (by decide)⟩
    have hf : findF formsL [116, 105, 99, 107] = some ⟨[116, 105, 99, 107], 1, 0, 0, [.node, .n]⟩ := rfl
    simp [parseW, hf, fill, Pc.rd, h1, h2, Fo.says]
def c3 : Bs := [116, 105, 99, 107, 32, 48, 49, 32, 50]
theorem c3_pa : PaR c3 (.error 22) := by
  refine .inr (.inr ⟨by decide, [[116, 105, 99, 107], [48, 49], [50]], ?_, ?_⟩)
  · have e : c3 = [116, 105, 99, 107] ++ (32 :: ([48, 49] ++ (32 :: ([50] ++ [])))) := rfl
    rw [e]
    exact .word (.inl ⟨rfl, by decide, by decide⟩) (.inr ⟨_, rfl⟩) (.blank (.word (.inl ⟨rfl, by decide, by decide⟩) (.inr ⟨_, rfl⟩) (.blank (.word (.inl ⟨rfl, by decide, by decide⟩) (.inl rfl) .nil))))
  · have h1 : numOf [48, 49] = none := by
      have ha : Lib.atoiAll [48, 49] = .ok 1 := by rfl
      unfold numOf
      rw [ha]
      have := itoa1 1 (by decide)
      simp only
      rw [if_neg]
      rintro ⟨-, h⟩
      rw [show (1 : Int) = ((1 : Nat) : Int) from rfl, this] at h
      exact absurd h (by decide)
    have hf : findF formsL [116, 105, 99, 107] = some ⟨[116, 105, 99, 107], 1, 0, 0, [.node, .n]⟩ := rfl
    simp [parseW, hf, fill, Pc.rd, h1]
def a4 : Ac := ⟨13, 2, 1, 0, 0, 4, [107], [110, 101, 119], [111, 32, 100]⟩
def c4 : Bs := [115, 119, 97, 112, 32, 49, 32, 50, 32, 107, 32, 34, 111, 32, 100, 34, 32, 110, 101, 119]
theorem c4_fmt : fmtF a4 = .ok c4 := by
  have h1 : Lib.itoa 1 = [49] := itoa1 1 (by decide)
  have h2 : Lib.itoa 2 = [50] := itoa1 2 (by decide)
  have q1 : quoteL [107] = [107] := by decide
  have q2 : quoteL [110, 101, 119] = [110, 101, 119] := by decide
  have q3 : quoteL [111, 32, 100] = [34, 111, 32, 100, 34] := by decide
  have hf : formOf formsL a4 6 = .ok ⟨[115, 119, 97, 112], 13, 0, 4, [.client, .node, .key, .old, .val]⟩ := rfl
  have hc : Fo.chk ⟨[115, 119, 97, 112], 13, 0, 4, [.client, .node, .key, .old, .val]⟩ a4 = 0 := by decide
  have hl : Fo.line ⟨[115, 119, 97, 112], 13, 0, 4, [.client, .node, .key, .old, .val]⟩ a4 = c4 := by
    simp only [Fo.line, a4, List.map_cons, List.map_nil, Pc.show, h1, h2, q1, q2, q3]
    rfl
  unfold fmtF
  rw [hf]
  simp only [hc, hl]
  rw [if_neg (by decide), if_neg (by decide), if_neg (by decide)]
/-- Numbers of words. -/
def nums : List Bs → Except Nat (List Int)
  | [] => .ok []
  | s :: ss => match numOf s with
    | none => .error 22
    | some n => match nums ss with
      | .error e => .error e
      | .ok l => .ok (n :: l)
def wWorld : Bs := [119, 111, 114, 108, 100]
/-- The options of words. -/
def parseO : List Bs → Except Nat (List Int)
  | [] => .error 20
  | wd :: ws => if wd ≠ wWorld then .error 20 else if ws.length ≠ 18 then .error 21 else if ws.getD 17 [] ≠ [48] then .error 22 else nums (ws.take 17)
def OpR (s : Bs) (r : Except Nat (List Int)) : Prop := (4096 < s.length ∧ r = .error 3) ∨ (s.length ≤ 4096 ∧ (∀ ws, ¬ Ln s ws) ∧ r = .error 4) ∨ (s.length ≤ 4096 ∧ ∃ ws, Ln s ws ∧ r = parseO ws)
theorem OpR.uniq {s : Bs} {r q : Except Nat (List Int)} (h : OpR s r) (k : OpR s q) : r = q := by
  rcases h with ⟨h1, rfl⟩ | ⟨h1, h2, rfl⟩ | ⟨h1, ws, h2, rfl⟩ <;> rcases k with ⟨k1, rfl⟩ | ⟨k1, k2, rfl⟩ | ⟨k1, vs, k2, rfl⟩ <;> first | rfl | omega | exact absurd ‹Ln s _› (by first | exact h2 _ | exact k2 _) | (rw [h2.uniq _ k2])
theorem nums_len {ss : List Bs} {l : List Int} (h : nums ss = .ok l) : l.length = ss.length := by
  induction ss generalizing l with
  | nil => cases h; rfl
  | cons s ss ih =>
    simp only [nums] at h
    split at h
    · cases h
    · split at h
      · cases h
      · rename_i hh
        cases h
        simp [ih hh]
theorem nums_itoa (l : List Int) (hr : ∀ n ∈ l, -9223372036854775808 ≤ n ∧ n ≤ 9223372036854775807) : nums (l.map Lib.itoa) = if l.all inNum = true then .ok l else .error 22 := by
  induction l with
  | nil => rfl
  | cons n l ih =>
    have ih' := ih (fun m hm => hr m (.tail _ hm))
    have ha : (n :: l).all inNum = (inNum n && l.all inNum) := rfl
    simp only [List.map_cons, nums]
    by_cases hn : inNum n = true
    · rw [numOf_itoa hn, ih']
      cases hall : l.all inNum
      · rw [if_neg (by decide), if_neg (by rw [ha, hall]; simp)]
      · rw [if_pos rfl, if_pos (by rw [ha, hall, hn]; rfl)]
    · rw [numOf_none, if_neg (by rw [ha]; simp [hn])]
      intro m hm
      have hb := hr n (.head _)
      by_cases h8 : n = -9223372036854775808
      · subst h8
        obtain ⟨h1, h2, h3⟩ := hm
        have a1 := atoi_itoa m (by omega) (by omega)
        rw [h3] at a1
        have a2 : Lib.atoiAll (Lib.itoa (-9223372036854775808)) = .ok (-9223372036854775808) := by
          unfold Lib.itoa
          rw [if_pos (by decide)]
          unfold Lib.atoiAll
          have e : (45 : UInt8).toNat = 45 := rfl
          simp only [e, or_true, if_true]
          rw [mag_dec _ (by decide)]
          rfl
        rw [a2] at a1
        injection a1 with a1
        omega
      · have := itoa_inj (n := m) (m := n) (by have := hm.1; omega) (by have := hm.2.1; omega) (by omega) (by omega) hm.2.2
        subst this
        exact hn (inNum_iff.2 ⟨hm.1, hm.2.1⟩)
def optsL (l : List Int) : Bs := Lib.join (wWorld :: (l.map Lib.itoa ++ [[48]])) [32]
theorem join_len (l : List Bs) (k : Nat) (h : ∀ x ∈ l, x.length ≤ k) : (Lib.join l [32]).length ≤ l.length * (k + 1) := by
  induction l with
  | nil => simp [Lib.join]
  | cons x l ih =>
    have hx := h x (.head _)
    have := ih (fun y hy => h y (.tail _ hy))
    cases l with
    | nil => simp [Lib.join]; omega
    | cons y l =>
      have e : Lib.join (x :: y :: l) [32] = x ++ [32] ++ Lib.join (y :: l) [32] := by simp [Lib.join, List.intercalate]
      rw [e, List.length_append, List.length_append, List.length_cons (a := x), Nat.add_mul]
      simp only [List.length_cons, List.length_nil] at this ⊢
      omega
theorem optsL_len (l : List Int) (hl : l.length = 17) (hr : ∀ n ∈ l, -9223372036854775808 ≤ n ∧ n ≤ 9223372036854775807) : (optsL l).length ≤ 500 := by
  have := join_len (wWorld :: (l.map Lib.itoa ++ [[48]])) 21 (by
    intro x hx
    rcases List.mem_cons.1 hx with rfl | hx
    · decide
    · rcases List.mem_append.1 hx with hx | hx
      · obtain ⟨n, hn, rfl⟩ := List.mem_map.1 hx
        exact itoa_len n (hr n hn).1 (hr n hn).2
      · cases List.mem_singleton.1 hx; decide)
  simp only [List.length_cons, List.length_append, List.length_map, List.length_nil, hl] at this
  unfold optsL
  omega
theorem opts_back (l : List Int) (hl : l.length = 17) (hr : ∀ n ∈ l, -9223372036854775808 ≤ n ∧ n ≤ 9223372036854775807) : OpR (optsL l) (if l.all inNum = true then .ok l else .error 22) := by
  refine .inr (.inr ⟨by have := optsL_len l hl hr; omega, wWorld :: (l.map Lib.itoa ++ [[48]]), ?_, ?_⟩)
  · refine line_words rfl ?_
    intro i hi
    have hw : ∀ x ∈ wWorld :: (l.map Lib.itoa ++ [[48]]), Wd x x := by
      intro x hx
      rcases List.mem_cons.1 hx with rfl | hx
      · exact .inl ⟨rfl, by decide, by decide⟩
      · rcases List.mem_append.1 hx with hx | hx
        · obtain ⟨n, hn, rfl⟩ := List.mem_map.1 hx
          exact itoa_wd n
        · cases List.mem_singleton.1 hx; exact .inl ⟨rfl, by decide, by decide⟩
    rw [List.getD_eq_getElem?_getD, List.getElem?_eq_getElem hi]
    exact hw _ (List.getElem_mem hi)
  · have h1 : (l.map Lib.itoa ++ [[48]]).getD 17 [] = [48] := by
      rw [List.getD_eq_getElem?_getD, List.getElem?_append_right (by simp [hl])]
      simp [hl]
    have h2 : (l.map Lib.itoa ++ [[48]]).take 17 = l.map Lib.itoa := by
      rw [List.take_append_of_le_length (by simp [hl]), List.take_of_length_le (by simp [hl])]
    simp only [parseO, ne_eq, not_true_eq_false, if_false, List.length_append, List.length_map, hl, List.length_cons, List.length_nil, h1, h2]
    exact (nums_itoa l hr).symm
end Go.Proofs.YtbckogojnjmjcaaGreatDoor
