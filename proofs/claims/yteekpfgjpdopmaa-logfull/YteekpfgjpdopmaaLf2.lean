/-
  LogFull: the walk of the law.
-/
import Derived.Test.YteekpfgjpdopmaaBw
import Derived.Test.YteekpfgjpdopmaaRin
namespace Go.Proofs.Yteekpfgjpdopmaa
open Go.RowKit
set_option linter.unusedVariables false

/-- So many entries of term 1, from index 1 on, without data. -/
def fullE (n : Nat) : List Ent := (List.range n).map fun (k : Nat) => ⟨1, (k : Int) + 1, 0, none, 0, []⟩
theorem fullE_len (n : Nat) : (fullE n).length = n := by simp [fullE]
theorem fullE_succ (n : Nat) : fullE (n + 1) = fullE n ++ [⟨1, (n : Int) + 1, 0, none, 0, []⟩] := by simp [fullE, List.range_succ]
theorem fullE_get {n k : Nat} (h : k < n) : ((fullE n).map Ent.says).getD k nilEn = (1, (k : Int) + 1, 0, []) := by
  rw [List.getD_eq_getElem?_getD]
  simp [fullE, Ent.says, h]
theorem ck_full (n : Nat) (hn : n ≤ 20000) : ckNew 0 0 ((fullE n).map Ent.says) = if 10000 < n then 10 else 0 := by
  have hf : firstErr ((fullE n).map Ent.says) = 0 := by
    rw [firstErr_all]
    intro e he
    simp only [fullE, List.map_map, List.mem_map, List.mem_range, Function.comp] at he
    obtain ⟨k, hk, rfl⟩ := he
    unfold eCk eT eI eK eD ckEntry isIn Ent.says
    simp
    omega
  have hg : goesE 0 0 ((fullE n).map Ent.says) = true := by
    rw [goesE_spec]
    have hl : ((fullE n).map Ent.says).length = n := by rw [List.length_map, fullE_len]
    refine ⟨fun k hk => ?_, fun k hk => ?_⟩
    · rw [hl] at hk
      rw [fullE_get hk]
      show (k : Int) + 1 = 0 + 1 + (k : Int)
      omega
    · rw [hl] at hk
      rw [fullE_get hk]
      split
      · show (0 : Int) ≤ 1; decide
      · rw [fullE_get (by omega)]
        exact Int.le_refl _
  have hb : isBs 0 0 = true := by decide
  unfold ckNew ckList
  rw [hb, hf, hg, List.length_map, fullE_len]
  simp
def topP : PL := newP 4611686018427387903 3 0 []
def topQ : PL := apL topP 3 0 []
theorem top_new : ckNew 4611686018427387903 3 [] = 0 := by decide
theorem top_1 : apE topP 3 0 0 = 0 ∧ topP.li + 1 = 4611686018427387904 := ⟨by kernel_rfl, by kernel_rfl⟩
theorem top_2 : apE topQ 3 0 0 = 18 := by kernel_rfl
theorem eql_nilA (W : World) (b : Nat) : (binOp .eql 25 (.pointer (some ⟨b, 0, none⟩)) (.pointer none)).run Try.prog W = .ok (.bool false) W := by kernel_rfl
theorem eql_nilB (W : World) (b : Nat) : (binOp .eql 29 (.pointer (some ⟨b, 0, none⟩)) (.pointer none)).run Try.prog W = .ok (.bool false) W := by kernel_rfl
/-- The log at the greatest index: made, and appended to twice. -/
theorem top_any (W : World) : Calls Try.prog 11 #[.int .i64 4611686018427387903, .int .i64 3, .int .i64 0, .slice none 0 0] W fun e W1 => ∃ b, e = .returned (.tuple #[.pointer (some ⟨b, 0, none⟩), .int .i64 0]) ∧ Below W.heap.size W W1 ∧
    Hid (Calls Try.prog 19 #[.pointer (some ⟨b, 0, none⟩), .int .i64 3, .int .i64 0, .slice none 0 0] W1 fun e W2 => e = .returned (.tuple #[.int .i64 4611686018427387904, .int .i64 0]) ∧ Below W.heap.size W W2 ∧
      Hid (Calls Try.prog 19 #[.pointer (some ⟨b, 0, none⟩), .int .i64 3, .int .i64 0, .slice none 0 0] W2 fun e W3 => e = .returned (.tuple #[.int .i64 0, .int .i64 18]) ∧ Below W.heap.size W W3)) := by
  refine (New_any 4611686018427387903 3 0 none 0 [] 0 W (.inl rfl) (Nat.zero_le _) top_new).mono ?_
  rintro e W1 ⟨b, S, rfl, hL, hB⟩
  refine ⟨b, rfl, hB, ?_⟩
  have hL1 : Lg W.heap.size S W1 b topP := hL
  have h1 := Append_any hL1 hB.size 3 0 none [] 0 0 (nil_sl _ _) (Nat.zero_le _)
  have e1 : (if apE topP 3 0 ([] : List UInt8).length = 0 then topP.li + 1 else 0) = 4611686018427387904 := by
    show (if apE topP 3 0 0 = 0 then topP.li + 1 else 0) = _
    rw [if_pos top_1.1, top_1.2]
  rw [e1, show apE topP 3 0 ([] : List UInt8).length = 0 from top_1.1] at h1
  refine h1.mono ?_
  rintro e W2 ⟨rfl, t⟩
  have hB2 : Below W.heap.size W W2 := hB.trans (t.bel hB.size)
  refine ⟨rfl, hB2, ?_⟩
  have hq : Lg W.heap.size (grew S W1 W2) W2 b topQ := t.q
  have h2 := Append_any hq hB2.size 3 0 none [] 0 0 (nil_sl _ _) (Nat.zero_le _)
  have e2 : apE topQ 3 0 ([] : List UInt8).length = 18 := top_2
  rw [if_neg (by rw [e2]; decide), e2] at h2
  refine h2.mono ?_
  rintro e W3 ⟨rfl, t2⟩
  exact ⟨rfl, hB2.trans (t2.bel hB2.size)⟩
theorem mod3 (x : Int) : ∃ y : Nat, y < 3 ∧ (x.tmod 3 + 3).tmod 3 = (y : Int) ∧ IntKind.i64.wrap (x.tmod 3 + 3) = x.tmod 3 + 3 := by
  have h1 : -3 < x.tmod 3 ∧ x.tmod 3 < 3 := by
    constructor
    · exact Int.lt_tmod_of_pos x (by decide)
    · exact Int.tmod_lt_of_pos x (by decide)
  have h2 : 0 ≤ (x.tmod 3 + 3).tmod 3 := Int.tmod_nonneg _ (by omega)
  have h3 : (x.tmod 3 + 3).tmod 3 < 3 := Int.tmod_lt_of_pos _ (by decide)
  exact ⟨((x.tmod 3 + 3).tmod 3).toNat, by omega, by omega, by rw [IntKind.wrap_i64]; omega⟩

set_option maxRecDepth 100000 in
set_option maxHeartbeats 8000000 in
theorem full_walk (w : World) (z : Int) (hz : In64 z) (c : Int) (hc : In64 c) :
    Calls Try.prog 5 #[.int .i64 z, .int .i64 c] w fun e w' => e = .returned (.bool true) ∧ Below w.heap.size w w' := by
  obtain ⟨y, hy, q1, q2⟩ := mod3 z
  obtain ⟨n, hn, q3⟩ : ∃ n : Nat, n ≤ 10001 ∧ IntKind.i64.wrap (IntKind.i64.wrap (10000 + (y : Int)) - 1) = (n : Int) := ⟨9999 + y, by omega, by rw [IntKind.wrap_i64, IntKind.wrap_i64]; omega⟩
  have q4 : IntKind.i64.wrap (10000 + (y : Int)) = 10000 + (y : Int) := by rw [IntKind.wrap_i64]; omega
  rw [q4] at q3
  have q5 : (10000 + (y : Int) - 1 : Int) = (n : Int) := by rw [IntKind.wrap_i64] at q3; omega
  clear hy hz hc
  go_enter Try.func5, Try.ntmps5
  go_wp2_with fail
  refine (first_any w).mono ?_
  rintro e w1 ⟨rfl, hB1⟩
  have HB1 : Hid (Below w.heap.size w w1) := hB1
  clear hB1
  go_wp2_with fail
  clear q1 q2 q3 q4 q5
  go_loopw [6, 7] (fun vv kv wr => ∃ (k : Nat) (va : Option Addr) (vc : Nat), vv = .slice va k vc ∧ kv = .int .i64 (k : Int) ∧ k ≤ n ∧ EntsOw w1.heap.size wr (.slice va k vc) (fullE k) ∧ Below w1.heap.size w1 wr) (fun _ kv _ => n - (intOf kv).toNat)
  case atStart => exact ⟨0, none, 0, rfl, rfl, Nat.zero_le _, EntsOw.nil _ _, Below.refl _ _⟩
  case round =>
    obtain ⟨k, va, vc, rfl, rfl, hk, hO, hB⟩ := hrel
    have HO : Hid (EntsOw w1.heap.size wr (.slice va k vc) (fullE k)) := hO
    have HB : Hid (Below w1.heap.size w1 wr) := hB
    clear hO hB
    by_cases hlt : k < n
    · have hlt' : (k : Int) < (n : Int) := by omega
      have hat6 := ents_one wr (⟨1, (k : Int) + 1, 0, none, 0, []⟩ : Ent) wr.heap.size (Nat.le_refl _) (nil_sl _ _) (Nat.le_refl _)
      have hE5 := HO.out.alloc (.cells #[.int .i64 1, .int .i64 ((k : Int) + 1), .int .i64 0, .slice none 0 0] 40)
      have HE5 : Hid (EntsOw _ _ _ _) := hE5
      have hrow := hE5.row
      have hN5 : w1.heap.size ≤ (wr.alloc (.cells #[.int .i64 1, .int .i64 ((k : Int) + 1), .int .i64 0, .slice none 0 0] 40)).heap.size := by have := HB.out.size; simp; omega
      have hfl : (fullE k).length + 1 ≤ 1000000000 := by rw [fullE_len]; omega
      clear hE5
      go_wp2_with (at_builtin; refine wpList_append_ents rfl _ _ rfl w1.heap.size (wr.heap.size + 1) _ (some ⟨wr.heap.size, 0, none⟩) 1 (fullE k) [(⟨1, (k : Int) + 1, 0, none, 0, []⟩ : Ent)] rfl hrow rfl hat6 hfl hN5 ?_; intro v' w6 r1 r2 r3; have hO6 : EntsOw w1.heap.size w6 v' (fullE k ++ [(⟨1, (k : Int) + 1, 0, none, 0, []⟩ : Ent)]) := (EntsOw.app (fs := [(⟨1, (k : Int) + 1, 0, none, 0, []⟩ : Ent)]) HE5.out (fun e he => by obtain rfl := List.mem_singleton.1 he; exact World.ownsRow_nil _ _ _ _) r1 r2); rw [← fullE_succ] at hO6; obtain ⟨a6, c6, hv6, -, -⟩ := hO6.shape; rw [fullE_len] at hv6; subst hv6; have HO6 : Hid (EntsOw w1.heap.size w6 (.slice a6 (k + 1) c6) (fullE (k + 1))) := hO6; have HB6 : Hid (Below w1.heap.size w1 w6) := (HB.out.alloc HB.out.size _).grown r2 hN5 (fun j hj => (HE5.out.lt hj).1); clear hO6 r1 r2 r3)
      exact ⟨⟨k + 1, a6, c6, rfl, by go_num, by omega, HO6.out, HB6.out⟩, by simp [intOf]; omega⟩
    · have hkn : k = n := by omega
      subst hkn
      have hlt' : ¬ (k : Int) < (k : Int) := by omega
      have HAT : Hid (∀ V, Below wr.heap.size wr V → EntsAt wr.heap.size V va (fullE k)) := fun V hV => by
        have h1 := HO.out
        rw [show Value.slice va k vc = .slice va (fullE k).length vc by rw [fullE_len]] at h1
        exact h1.at.below hV
      have HBW : Hid (∀ V, Below wr.heap.size wr V → Below w.heap.size w V) := fun V hV => (HB1.out.trans (HB.out.mono HB1.out.size)).trans (hV.mono (HB1.out.trans (HB.out.mono HB1.out.size)).size)
      have hck := ck_full k (by omega)
      have hlen := fullE_len k
      clear HO HB HB1 hlt
      generalize wr = W0 at *
      by_cases hbig : 10000 < k
      · rw [if_pos hbig] at hck
        have CN := New_no 0 0 c va vc (fullE k) W0.heap.size W0 (HAT.out W0 (Below.refl _ _)) (Nat.le_refl _) (by rw [hlen]; omega) (by rw [hck]; decide)
        rw [hck, hlen] at CN
        have HRN : Hid (∀ V, Below W0.heap.size W0 V → _) := fun V hV => RNew_any 0 0 c va vc (fullE k) W0.heap.size V (HAT.out V hV) hV.size (by rw [hlen]; omega)
        rw [hck, hlen] at HRN
        clear hck hlen hbig
        go_wp2_with fail
        refine CN.mono ?_
        rintro e W1 ⟨rfl, hB1⟩
        have HB1 : Hid (Below W0.heap.size W0 W1) := hB1
        have CR := HRN.out W1 hB1
        have HCR : Hid (Calls _ _ _ _ _) := CR
        clear CN HRN hB1 CR
        go_wp2_with fail
        refine HCR.out.mono ?_
        rintro e W2 ⟨hB2, hR2⟩
        rcases hR2 with ⟨-, rfl⟩ | ⟨h0, -⟩
        case inr => exact absurd h0 (by decide)
        have HB2 : Hid (Below W0.heap.size W0 W2) := HB1.out.trans (hB2.mono HB1.out.size)
        clear HCR hB2 HB1
        go_wp2_with fail
        refine (num_any _ _).mono ?_
        rintro e wz ⟨rfl, hz⟩
        subst wz
        go_wp2_with fail
        refine (top_any _).mono ?_
        rintro e W3 ⟨tb, rfl, hB3, HT1⟩
        have HB3 : Hid (Below W2.heap.size W2 W3) := hB3
        have htn := eql_nilA W3 tb
        clear hB3
        go_wp2_with fail
        refine (num_any _ _).mono ?_
        rintro e wz ⟨rfl, hz⟩
        subst wz
        go_wp2_with fail
        refine HT1.out.mono ?_
        rintro e W4 ⟨rfl, hB4, HT2⟩
        clear htn HB3 HT1 hB4
        go_wp2_with fail
        refine HT2.out.mono ?_
        rintro e W5 ⟨rfl, hB5⟩
        have HB5 : Hid (Below W2.heap.size W2 W5) := hB5
        clear hB5 HT2
        go_wp2_with fail
        refine (num_any _ _).mono ?_
        rintro e wz ⟨rfl, hz⟩
        subst wz
        go_wp2_with fail
        refine (num_any _ _).mono ?_
        rintro e wz ⟨rfl, hz⟩
        subst wz
        go_wp2
        go_ret
        exact ⟨by simp, HBW.out W5 (HB2.out.trans (HB5.out.mono HB2.out.size))⟩
      · rw [if_neg hbig] at hck
        have CN := New_any 0 0 c va vc (fullE k) W0.heap.size W0 (HAT.out W0 (Below.refl _ _)) (Nat.le_refl _) hck
        rw [hlen] at CN
        have HRN : Hid (∀ V, Below W0.heap.size W0 V → _) := fun V hV => RNew_any 0 0 c va vc (fullE k) W0.heap.size V (HAT.out V hV) hV.size (by rw [hlen]; omega)
        rw [hck, hlen] at HRN
        have HPB : Hid ((newP 0 0 c ((fullE k).map Ent.says)).bi = 0) := rfl
        generalize newP 0 0 c ((fullE k).map Ent.says) = P at *
        clear hck hlen hbig
        go_wp2_with fail
        refine CN.mono ?_
        rintro e W1 ⟨b, S, rfl, hL1, hB1⟩
        have HL1 : Hid (Lg W0.heap.size S W1 b P ∧ Below W0.heap.size W0 W1) := ⟨hL1, hB1⟩
        have CR := HRN.out W1 hB1
        have HCR : Hid (Calls _ _ _ _ _) := CR
        clear CN HRN hB1 hL1 CR
        go_wp2_with fail
        refine HCR.out.mono ?_
        rintro e W2 ⟨hB2, hR2⟩
        rcases hR2 with ⟨h0, -⟩ | ⟨-, d, T, rfl, hR2⟩
        case inl => exact absurd rfl h0
        have HBw : Hid (Bw W0.heap.size S T W2 b d P P) := Bw.make HL1.out.1 HL1.out.2 hR2 hB2
        have HB2 : Hid (Below W0.heap.size W0 W2) := HL1.out.2.trans (hB2.mono HL1.out.2.size)
        have hnb := eql_nilA W2 b
        have hnd := eql_nilB W2 d
        clear HCR hB2 hR2 HL1
        go_wp2_with fail
        refine (num_any _ _).mono ?_
        rintro e wz ⟨rfl, hz⟩
        subst wz
        go_wp2_with fail
        refine (top_any _).mono ?_
        rintro e W3 ⟨tb, rfl, hB3, HT1⟩
        have HB3 : Hid (Below W2.heap.size W2 W3) := hB3
        have htn := eql_nilA W3 tb
        clear hB3
        go_wp2_with fail
        refine (num_any _ _).mono ?_
        rintro e wz ⟨rfl, hz⟩
        subst wz
        go_wp2_with fail
        refine HT1.out.mono ?_
        rintro e W4 ⟨rfl, hB4, HT2⟩
        clear htn HB3 HT1 hB4
        go_wp2_with fail
        refine HT2.out.mono ?_
        rintro e W5 ⟨rfl, hB5⟩
        have HB5 : Hid (Below W2.heap.size W2 W5) := hB5
        clear hB5 HT2
        go_wp2_with fail
        refine (num_any _ _).mono ?_
        rintro e wz ⟨rfl, hz⟩
        subst wz
        go_wp2_with fail
        refine (num_any _ _).mono ?_
        rintro e wz ⟨rfl, hz⟩
        subst wz
        have HBw5 : Hid (Bw W0.heap.size S T W5 b d P P) := HBw.out.below HB5.out
        have HBz5 : Hid (Below W0.heap.size W0 W5) := HB2.out.trans (HB5.out.mono HB2.out.size)
        have hnd5 := eql_nilB W5 d
        have CA := Append_any HBw5.out.l HBw5.out.hN 1 0 none [] 0 0 (nil_sl _ _) (Nat.zero_le _)
        have HRA : Hid (∀ V T', Rg W0.heap.size T' V d P → W0.heap.size ≤ V.heap.size → _) := fun V T' h hN => RAppend_any h hN 1 0 none [] 0 0 (nil_sl _ _) (Nat.zero_le _) (by decide)
        have HOK : Hid ((apL P 1 0 []).Ok → 0 ≤ (apL P 1 0 []).li ∧ (apL P 1 0 []).li ≤ 10000) := fun h => by
          have h1 : (apL P 1 0 []).bi = 0 := by
            unfold apL
            split
            · exact HPB.out
            · exact HPB.out
          have h2 := h.len
          have h3 := h.lim
          unfold PL.li at h3 ⊢
          omega
        generalize (if apE P 1 0 ([] : List UInt8).length = 0 then P.li + 1 else 0) = an at *
        generalize apE P 1 0 ([] : List UInt8).length = ae at *
        generalize apL P 1 0 [] = P1 at *
        have HCA : Hid (Calls _ _ _ _ _) := CA
        clear CA HBw HB5 HB2
        clear hnb hnd
        go_wp2_with fail
        refine HCA.out.mono ?_
        rintro e W6 ⟨rfl, t6⟩
        obtain ⟨hw6, hb6⟩ := HBw5.out.one t6
        have HBw6 : Hid (Bw W0.heap.size _ T W6 b d P1 P) := hw6
        have HBz6 : Hid (Below W0.heap.size W0 W6) := HBz5.out.trans hb6
        have CR := HRA.out W6 T hw6.r hw6.hN
        have HCR : Hid (Calls _ _ _ _ _) := CR
        clear HCA t6 hw6 hb6 CR HBw5 HBz5 HRA hnd5
        go_wp2_with fail
        refine HCR.out.mono ?_
        rintro e W7 ⟨rfl, t7⟩
        obtain ⟨hw7, hb7⟩ := HBw6.out.two t7
        have HBw7 : Hid (Bw W0.heap.size _ _ W7 b d P1 P1) := hw7
        have HBz7 : Hid (Below W0.heap.size W0 W7) := HBz6.out.trans hb7
        have hlm := HOK.out hw7.l.ok
        have CL := RLast_any hw7.r
        have HCL : Hid (Calls _ _ _ _ _) := CL
        clear HCR t7 hw7 hb7 HBw6 HBz6 HOK CL
        obtain ⟨L, HL⟩ : ∃ L, Hid (P1.li = L) := ⟨_, rfl⟩
        rw [HL.out] at hlm HCL
        have CK : Hid (ckList L 1 (([⟨1, L + 1, 0, none, 0, []⟩] : List Ent).map Ent.says) = 0) := ckOne hlm.1 (by omega)
        obtain ⟨h0L, hLm⟩ := hlm
        go_wp2_with fail
        refine HCL.out.mono ?_
        rintro e W8 ⟨rfl, hB8⟩
        obtain ⟨V8, HV8⟩ : ∃ V8, Hid (W8.alloc (.cells #[.int .i64 1, .int .i64 (L + 1), .int .i64 0, .slice none 0 0] 40) = V8) := ⟨_, rfl⟩
        have hw8 := HBw7.out.below hB8
        have hBV8 : Below W8.heap.size W8 V8 := by rw [← HV8.out]; exact (Below.refl _ _).alloc (Nat.le_refl _) _
        have HBw8 : Hid (Bw W0.heap.size _ _ V8 b d P1 P1) := hw8.below hBV8
        have HBz8 : Hid (Below W0.heap.size W0 V8) := HBz7.out.trans ((hB8.mono HBz7.out.size).trans (hBV8.mono (Nat.le_trans HBz7.out.size hB8.size)))
        have hst := sta_one (W := W8) 1 (L + 1) 0 hw8.l.inn
        rw [HV8.out] at hst
        have CT := Try_any HBw8.out.l HBw8.out.hN L 1 0 (some ⟨W8.heap.size, 0, none⟩) 1 [⟨1, L + 1, 0, none, 0, []⟩] hst (by simp) (by simp) (by unfold maxLen; decide)
        have HRT : Hid (∀ V W9 T', Rg W0.heap.size T' V d P1 → W0.heap.size ≤ V.heap.size → V = (W9 : World).alloc (.cells #[.int .i64 1, .int .i64 (L + 1), .int .i64 0, .slice none 0 0] 40) → _) := fun V W9 T' h hN hV => RTry_any h hN L 1 0 (some ⟨W9.heap.size, 0, none⟩) 1 [⟨1, L + 1, 0, none, 0, []⟩] (W9.heap.size + 1) (at_one (W := W9) 1 (L + 1) 0 (by rw [hV]; exact heap_alloc_new W9 _)) (by rw [hV]; simp) (by simp) (by simp) (by unfold maxLen; decide) CK.out
        clear hst hw8 hBV8 HCL hB8 HBw7 HBz7 HL
        generalize (([⟨1, L + 1, 0, none, 0, []⟩] : List Ent).map Ent.says) = F at *
        generalize trA P1 L 1 F = tA at *
        generalize trY P1 L 1 F = tY at *
        generalize trL P1 L 1 0 F = P2 at *
        have HCT : Hid (Calls _ _ _ _ _) := CT
        clear CT CK
        go_wp2_with fail
        try rw [HV8.out]
        refine HCT.out.mono ?_
        rintro e W9 ⟨rfl, t9⟩
        obtain ⟨hw9, hb9⟩ := HBw8.out.one t9
        have HBz9 : Hid (Below W0.heap.size W0 W9) := HBz8.out.trans hb9
        obtain ⟨V9, HV9⟩ : ∃ V9, Hid (W9.alloc (.cells #[.int .i64 1, .int .i64 (L + 1), .int .i64 0, .slice none 0 0] 40) = V9) := ⟨_, rfl⟩
        have hBV9 : Below W9.heap.size W9 V9 := by rw [← HV9.out]; exact (Below.refl _ _).alloc (Nat.le_refl _) _
        have HBw9 : Hid (Bw W0.heap.size _ _ V9 b d P2 P1) := hw9.below hBV9
        have HBx9 : Hid (Below W0.heap.size W0 V9) := HBz9.out.trans (hBV9.mono HBz9.out.size)
        have CR := HRT.out V9 W9 _ HBw9.out.r HBw9.out.hN HV9.out.symm
        have HCR : Hid (Calls _ _ _ _ _) := CR
        clear HCT t9 hw9 hb9 CR HBw8 HBz8 HRT HV8 hBV9 HBz9
        go_wp2_with fail
        try rw [HV9.out]
        refine HCR.out.mono ?_
        rintro e Wa ⟨rfl, ta⟩
        obtain ⟨hwa, hba⟩ := HBw9.out.two ta
        have HBwa : Hid (Bw W0.heap.size _ _ Wa b d P2 P2) := hwa
        have HBza : Hid (Below W0.heap.size W0 Wa) := HBx9.out.trans hba
        have CL := Last_any hwa.l
        have HCL : Hid (Calls _ _ _ _ _) := CL
        clear HCR ta hwa hba HBw9 HBx9 HV9 CL
        go_wp2_with fail
        refine HCL.out.mono ?_
        rintro e Wb ⟨rfl, hBb⟩
        have HBwb : Hid (Bw W0.heap.size _ _ Wb b d P2 P2) := HBwa.out.below hBb
        have HBzb : Hid (Below W0.heap.size W0 Wb) := HBza.out.trans (hBb.mono HBza.out.size)
        have CM := RLast_any HBwb.out.r
        have HCM : Hid (Calls _ _ _ _ _) := CM
        generalize P2.li = l2 at *
        clear HCL hBb CM HBwa HBza
        go_wp2_with fail
        refine (num_any _ _).mono ?_
        rintro e wz ⟨rfl, hz⟩
        subst wz
        go_wp2_with fail
        refine HCM.out.mono ?_
        rintro e Wc ⟨rfl, hBc⟩
        go_wp2
        go_ret
        exact ⟨by simp, HBW.out Wc (HBzb.out.trans (hBc.mono HBzb.out.size))⟩
end Go.Proofs.Yteekpfgjpdopmaa
