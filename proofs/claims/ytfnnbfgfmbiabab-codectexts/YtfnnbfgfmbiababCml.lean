/-
  Commands put and read, one behind the other.
-/
import Derived.Test.YtfnnbfgfmbiababGetC
import Derived.Test.YtfnnbfgfmbiababPutC
import Derived.Test.YtfnnbfgfmbiababPutO
import Derived.Test.YtfnnbfgfmbiababGetE
namespace Go.Proofs.Ytfnnbfgfmbiabab
open Go.RowKit Go.Shelf
set_option linter.unusedVariables false

/-- A command. -/
structure Cm where
  o : Int
  c : Int
  s : Int
  k : List UInt8
  v : List UInt8
  d : List UInt8
def nilCm : Cm := ⟨0, 0, 0, [], [], []⟩
def Cm.ck (e : Cm) : Nat := ckCommand e.o e.c e.s e.k e.v e.d
def Cm.tx (e : Cm) : List UInt8 := txCommand e.o e.c e.s e.k e.v e.d
def CmAt (w : World) (b off : Nat) (e : Cm) : Prop :=
  w.cell? ⟨b, off, none⟩ = some (.int .i64 e.o) ∧ w.cell? ⟨b, off + 1, none⟩ = some (.int .i64 e.c) ∧ w.cell? ⟨b, off + 2, none⟩ = some (.int .i64 e.s) ∧ w.cell? ⟨b, off + 3, none⟩ = some (.string ⟨e.k.toArray⟩) ∧ w.cell? ⟨b, off + 4, none⟩ = some (.string ⟨e.v.toArray⟩) ∧ w.cell? ⟨b, off + 5, none⟩ = some (.string ⟨e.d.toArray⟩)
def CmsAt (N : Nat) (w : World) (a : Option Addr) (es : List Cm) : Prop :=
  es = [] ∨ ∃ b off, a = some ⟨b, off, none⟩ ∧ b < N ∧ ∀ i, i < es.length → CmAt w b (off + i * 6) (es.getD i nilCm)
theorem CmAt.below {N : Nat} {w w' : World} {b off : Nat} {e : Cm} (h : CmAt w b off e) (hb : b < N) (hB : Below N w w') : CmAt w' b off e :=
  ⟨(hB.cell (p := ⟨b, off, none⟩) hb).trans h.1, (hB.cell (p := ⟨b, off + 1, none⟩) hb).trans h.2.1, (hB.cell (p := ⟨b, off + 2, none⟩) hb).trans h.2.2.1, (hB.cell (p := ⟨b, off + 3, none⟩) hb).trans h.2.2.2.1, (hB.cell (p := ⟨b, off + 4, none⟩) hb).trans h.2.2.2.2.1, (hB.cell (p := ⟨b, off + 5, none⟩) hb).trans h.2.2.2.2.2⟩
theorem CmsAt.below {N : Nat} {w w' : World} {a : Option Addr} {es : List Cm} (h : CmsAt N w a es) (hB : Below N w w') : CmsAt N w' a es := by
  rcases h with h | ⟨b, off, ha, hb, hc⟩
  · exact .inl h
  · exact .inr ⟨b, off, ha, hb, fun i hi => (hc i hi).below hb hB⟩
theorem CmsAt.at {N : Nat} {w : World} {a : Option Addr} {es : List Cm} (h : CmsAt N w a es) {i : Nat} (hi : i < es.length) : ∃ b off, a = some ⟨b, off, none⟩ ∧ b < N ∧ CmAt w b (off + i * 6) (es.getD i nilCm) := by
  rcases h with h | ⟨b, off, ha, hb, hc⟩
  · subst h; simp at hi
  · exact ⟨b, off, ha, hb, hc i hi⟩
def firstErrC : List Cm → Nat
  | [] => 0
  | e :: r => if e.ck ≠ 0 then e.ck else firstErrC r
def packsC : List Cm → List UInt8
  | [] => []
  | e :: r => (numB e.tx.length ++ e.tx) ++ packsC r
theorem dropC {l : List Cm} {k : Nat} (h : k < l.length) : l.drop k = l.getD k nilCm :: l.drop (k + 1) := by
  rw [List.drop_eq_getElem_cons h, List.getD_eq_getElem?_getD, List.getElem?_eq_getElem h]; rfl
theorem takeC {es : List Cm} {k : Nat} (h : k < es.length) : es.take (k + 1) = es.take k ++ [es.getD k nilCm] := by
  rw [List.take_succ_eq_append_getElem h, List.getD_eq_getElem?_getD, List.getElem?_eq_getElem h]; rfl
theorem packsC_append (a b : List Cm) : packsC (a ++ b) = packsC a ++ packsC b := by
  induction a with
  | nil => rfl
  | cons e r ih => simp [packsC, ih]
theorem packsC_take {es : List Cm} {k : Nat} (h : k < es.length) : packsC (es.take (k + 1)) = packsC (es.take k) ++ (numB (es.getD k nilCm).tx.length ++ (es.getD k nilCm).tx) := by
  rw [takeC h, packsC_append]; simp [packsC]
theorem getDC {es : List Cm} {k : Nat} (h : k < es.length) : es.getD k nilCm ∈ es := by
  rw [List.getD_eq_getElem?_getD, List.getElem?_eq_getElem h]; exact List.getElem_mem h
theorem cm_len {e : Cm} (h : e.ck = 0) : e.tx.length ≤ 3000 := by
  obtain ⟨_, _, _, h4, h5, h6⟩ := ckCommand_ok h
  have := txCommand_len e.o e.c e.s e.k e.v e.d
  unfold Cm.tx
  omega
theorem packsC_len {es : List Cm} (h : ∀ e ∈ es, e.ck = 0) : (packsC es).length ≤ 4000 * es.length := by
  induction es with
  | nil => simp [packsC]
  | cons e r ih =>
    have h1 := cm_len (h e (by simp))
    have h2 := ih (fun x hx => h x (by simp [hx]))
    have h3 := numB_len e.tx.length
    simp [packsC]
    omega
theorem firstErrC_all {es : List Cm} (h : firstErrC es = 0) : ∀ e ∈ es, e.ck = 0 := by
  induction es with
  | nil => simp
  | cons e r ih =>
    by_cases hk : e.ck = 0
    · rw [show firstErrC (e :: r) = firstErrC r by simp [firstErrC, hk]] at h
      intro x hx
      rcases List.mem_cons.1 hx with rfl | hx
      · exact hk
      · exact ih h x hx
    · simp [firstErrC, hk] at h

set_option maxRecDepth 100000 in
set_option maxHeartbeats 8000000 in
theorem putOneC_any (o c s size : Int) (k v d : List UInt8) {w0 w : World} {l : List UInt8} (h : Wr w0 w l) (hl : l.length ≤ 100000000) (hs : 3000 ≤ size) :
    Calls Try.prog 99 #[.pointer (some ⟨w0.heap.size, 0, none⟩), .iface 58 (.agg #[]), .agg #[.int .i64 o, .int .i64 c, .int .i64 s, .string ⟨k.toArray⟩, .string ⟨v.toArray⟩, .string ⟨d.toArray⟩], .int .i64 size] w fun r w' => r = .returned (.int .i64 (ckCommand o c s k v d : Int)) ∧ Wr w0 w' (if ckCommand o c s k v d = 0 then l ++ (numB (txCommand o c s k v d).length ++ txCommand o c s k v d) else l) := by
  have hB0 : Below w.heap.size w (w.alloc (.cells #[.int .i64 o, .int .i64 c, .int .i64 s, .string ⟨k.toArray⟩, .string ⟨v.toArray⟩, .string ⟨d.toArray⟩] 45)) := (Below.refl _ w).alloc (Nat.le_refl _) _
  have hp := putCommand_any o c s k v d (w.alloc (.cells #[.int .i64 o, .int .i64 c, .int .i64 s, .string ⟨k.toArray⟩, .string ⟨v.toArray⟩, .string ⟨d.toArray⟩] 45))
  by_cases hk : ckCommand o c s k v d = 0
  · have hlen := cm_len (e := ⟨o, c, s, k, v, d⟩) hk
    unfold Cm.tx at hlen
    simp only at hlen
    rw [hk] at hp ⊢
    simp only [if_true] at hp ⊢
    generalize txCommand o c s k v d = T at *
    go_enter Try.func99, Try.ntmps99
    go_wp2_with fail
    refine hp.mono ?_
    rintro e w2 ⟨u, rfl, hO, hB⟩
    obtain ⟨ua, uc, rfl, -, -⟩ := hO.shape
    have hB2 : Below w.heap.size w w2 := hB0.trans (hB.mono (by simp))
    have hS : Ws w0 w2 (fun k => w.heap.size ≤ k ∧ k < w2.heap.size) l := h.ws hB2 (fun k hk => hk)
    have hN : ∀ k, (Value.slice ua T.length uc).ownBlock = some k → w.heap.size ≤ k ∧ k < w2.heap.size := fun k e => by
      have := World.ownsRow.lt hO k e
      simp only [World.size_alloc] at this
      omega
    clear hB hB0 hp
    go_wp2_with fail
    refine (wsBytes_any size hS (by omega) (by omega) hO hN (by omega)).mono ?_
    rintro e w3 ⟨rfl, hS3, -⟩
    go_wp2
    go_returns
    exact ⟨rfl, hS3.wr⟩
  · rw [if_neg hk]
    rw [if_neg hk] at hp
    generalize ckCommand o c s k v d = ke at *
    have hke : ((ke : Int) == 0) = false := by simp; omega
    go_enter Try.func99, Try.ntmps99
    go_wp2_with fail
    refine hp.mono ?_
    rintro e w2 ⟨u, rfl, hO, hB⟩
    obtain ⟨ua, uc, rfl, -, -⟩ := hO.shape
    have hB2 : Below w.heap.size w w2 := hB0.trans (hB.mono (by simp))
    clear hB hB0 hp
    go_wp2
    go_returns
    exact ⟨rfl, h.mono hB2⟩

set_option maxRecDepth 100000 in
set_option maxHeartbeats 8000000 in
theorem putAllC_any (ea : Option Addr) (ec : Nat) (es : List Cm) (size : Int) {w0 w : World} {l : List UInt8} (N : Nat) (h : Wr w0 w l) (hl : l.length ≤ 1000000) (hE : CmsAt N w0 ea es) (hN : N ≤ w0.heap.size) (hs : 8192 ≤ size) (hn : es.length ≤ 1000) :
    Calls Try.prog 70 #[.pointer (some ⟨w0.heap.size, 0, none⟩), .iface 58 (.agg #[]), .slice ea es.length ec, .int .i64 size] w fun r w' => r = .returned (.int .i64 (firstErrC es : Int)) ∧ (firstErrC es = 0 → Wr w0 w' (l ++ numB es.length ++ packsC es)) ∧ Below w0.heap.size w0 w' := by
  have HEE : Hid (CmsAt N w0 ea es) := hE
  have hb := numB_len es.length
  have hnn : isNumB (es.length : Int) = true := by simp [isNumB]; omega
  clear hE
  go_enter Try.func70, Try.ntmps70
  go_wp2_with fail
  refine (wrInt_any (es.length : Int) h (by omega) hnn).mono ?_
  rintro r w1 ⟨rfl, h1⟩
  rw [Int.toNat_natCast] at h1
  go_wp2_with fail
  go_loopw [18] (fun iv wr => ∃ (k : Nat), iv = .int .i64 (k : Int) ∧ k ≤ es.length ∧ Wr w0 wr (l ++ numB es.length ++ packsC (es.take k)) ∧ (∀ e ∈ es.take k, e.ck = 0) ∧ firstErrC es = firstErrC (es.drop k)) (fun iv _ => es.length - (intOf iv).toNat)
  case atStart => exact ⟨0, rfl, Nat.zero_le _, by simpa [packsC] using h1, by simp, rfl⟩
  case round =>
    obtain ⟨k, rfl, hk, hW, hA, hF⟩ := hrel
    have HA : Hid (∀ e ∈ es.take k, e.ck = 0) := hA
    have HF : Hid (firstErrC es = firstErrC (es.drop k)) := hF
    clear hA hF
    by_cases hlt : k < es.length
    · obtain ⟨b, off, hea, hb', he⟩ := HEE.out.at hlt
      subst hea
      have he' := he.below hb' (hW.bel.mono hN)
      have HP : Hid (packsC (es.take (k + 1)) = packsC (es.take k) ++ (numB (es.getD k nilCm).tx.length ++ (es.getD k nilCm).tx)) := packsC_take hlt
      have HTK : Hid (es.take (k + 1) = es.take k ++ [es.getD k nilCm]) := takeC hlt
      have HDK : Hid (es.drop k = es.getD k nilCm :: es.drop (k + 1)) := dropC hlt
      have hpl := packsC_len (es := es.take k) HA.out
      have htl : (es.take k).length = k := by simp; omega
      rw [htl] at hpl
      generalize es.getD k nilCm = e at *
      obtain ⟨eo, ec1, es1, ek, ev, ed⟩ := e
      obtain ⟨c0, c1, c2, c3, c4, c5⟩ := he'
      unfold Cm.tx at HP
      simp only at c0 c1 c2 c3 c4 c5 HP
      have hB0 : Below wr.heap.size wr (wr.alloc (.cells #[.int .i64 eo, .int .i64 ec1, .int .i64 es1, .string ⟨ek.toArray⟩, .string ⟨ev.toArray⟩, .string ⟨ed.toArray⟩] 45)) := (Below.refl _ wr).alloc (Nat.le_refl _) _
      have hW0 := hW.mono hB0
      have hp := putOneC_any eo ec1 es1 size ek ev ed hW0 (by simp; omega) (by omega)
      have HCK : Hid ((⟨eo, ec1, es1, ek, ev, ed⟩ : Cm).ck = ckCommand eo ec1 es1 ek ev ed) := rfl
      by_cases hz : ckCommand eo ec1 es1 ek ev ed = 0
      · rw [hz] at hp
        simp only [if_true] at hp
        have HG : Hid (∀ w', Wr w0 w' (l ++ numB es.length ++ packsC (es.take k) ++ (numB (txCommand eo ec1 es1 ek ev ed).length ++ txCommand eo ec1 es1 ek ev ed)) → Wr w0 w' (l ++ numB es.length ++ packsC (es.take (k + 1)))) := fun w' hw => by
          rw [HP.out, ← List.append_assoc]; exact hw
        have HA2 : Hid (∀ e ∈ es.take (k + 1), e.ck = 0) := fun e he => by
          rw [HTK.out] at he
          rcases List.mem_append.1 he with he | he
          · exact HA.out e he
          · obtain rfl := List.mem_singleton.1 he
            exact hz
        have HF2 : Hid (firstErrC es = firstErrC (es.drop (k + 1))) := by
          show firstErrC es = _
          rw [HF.out, HDK.out, firstErrC, HCK.out, hz]; rfl
        clear he hW0 hB0 hpl hz
        generalize (l ++ numB es.length ++ packsC (es.take k) ++ (numB (txCommand eo ec1 es1 ek ev ed).length ++ txCommand eo ec1 es1 ek ev ed)) = L at *
        go_wp2_with (go_at_call 99; refine hp.mono ?_; rintro r w5 ⟨rfl, hW5⟩)
        exact ⟨⟨k + 1, by go_num, by omega, HG.out _ hW5, HA2.out, HF2.out⟩, by simp [intOf]; omega⟩
      · rw [if_neg hz] at hp
        have HF2 : Hid (firstErrC es = ckCommand eo ec1 es1 ek ev ed) := by
          show firstErrC es = _
          rw [HF.out, HDK.out, firstErrC, HCK.out, if_pos hz]
        have HZ : Hid (ckCommand eo ec1 es1 ek ev ed ≠ 0) := hz
        generalize ckCommand eo ec1 es1 ek ev ed = ke at *
        have hke : ((ke : Int) != 0) = true := by simp; omega
        clear he hW0 hB0 hpl hz
        go_wp2_with (go_at_call 99; refine hp.mono ?_; rintro r w5 ⟨rfl, hW5⟩)
        go_returns
        exact ⟨by rw [HF2.out]; rfl, fun h0 => absurd (HF2.out.symm.trans h0) HZ.out, hW5.bel⟩
    · have HG : Hid (Wr w0 wr (l ++ numB es.length ++ packsC es)) := by
        have e0 : es.take k = es := List.take_of_length_le (by omega)
        rw [e0] at hW; exact hW
      have HF2 : Hid (firstErrC es = 0) := by show firstErrC es = 0; rw [HF.out, List.drop_eq_nil_of_le (by omega)]; rfl
      clear hW
      go_wp2
      go_returns
      exact ⟨by rw [HF2.out]; rfl, fun _ => HG.out, HG.out.bel⟩

/-- What PutList answers of commands. -/
def plE (most : Int) (es : List Cm) : Nat := if most < (es.length : Int) then 3 else firstErrC es
def plT (most : Int) (es : List Cm) : List UInt8 := if plE most es = 0 then numB es.length ++ packsC es else []

set_option maxRecDepth 100000 in
set_option maxHeartbeats 8000000 in
theorem putListC_any (ea : Option Addr) (ec : Nat) (es : List Cm) (most : Int) (w : World) (N : Nat) (hE : CmsAt N w ea es) (hN : N ≤ w.heap.size) (hn : es.length ≤ 100) :
    Calls Try.prog 27 #[.iface 58 (.agg #[]), .slice ea es.length ec, .int .i64 most] w fun r w' => ∃ u, r = .returned (.tuple #[u, .int .i64 (plE most es : Int)]) ∧ Ow w.heap.size w' u (plT most es) ∧ Below w.heap.size w w' := by
  by_cases hm : most < (es.length : Int)
  · have e1 : plE most es = 3 := by unfold plE; rw [if_pos hm]
    have e2 : plT most es = [] := by unfold plT; rw [e1]; rfl
    rw [e1, e2]
    clear e1 e2
    go_enter Try.func27, Try.ntmps27
    go_wp2
    go_ret2
    exact ⟨_, rfl, Ow.nil _ _, Below.refl _ _⟩
  have e1 : plE most es = firstErrC es := by unfold plE; rw [if_neg hm]
  have HT : Hid (plT most es = if firstErrC es = 0 then numB es.length ++ packsC es else []) := by show plT most es = _; unfold plT; rw [e1]
  rw [e1, HT.out]
  clear e1
  have hpa : ∀ w1, Wr w w1 [] → Calls Try.prog 70 #[.pointer (some ⟨w.heap.size, 0, none⟩), .iface 58 (.agg #[]), .slice ea es.length ec, .int .i64 1048576] w1 fun r w' => r = .returned (.int .i64 (firstErrC es : Int)) ∧ (firstErrC es = 0 → Wr w w' ([] ++ numB es.length ++ packsC es)) ∧ Below w.heap.size w w' := fun w1 h1 => putAllC_any ea ec es 1048576 N h1 (by simp) hE hN (by omega) (by omega)
  by_cases hz : firstErrC es = 0
  · have hpl := packsC_len (firstErrC_all hz)
    have hb := numB_len es.length
    rw [hz] at hpa ⊢
    simp only [if_true] at hpa ⊢
    clear hz HT hE
    go_enter Try.func27, Try.ntmps27
    go_wp2_with fail
    refine (newW_any w).mono ?_
    rintro r w1 ⟨rfl, h1⟩
    go_wp2_with fail
    refine (hpa _ h1).mono ?_
    rintro r w2 ⟨rfl, h2, hB2⟩
    have h3 := h2 trivial
    clear h2 hpa
    go_wp2_with fail
    refine (wrDone_any h3 (by simp; omega)).mono ?_
    rintro r w4 ⟨u, rfl, hO, hB⟩
    go_wp2
    go_ret2
    exact ⟨u, rfl, by simpa using hO, hB⟩
  · rw [if_neg hz]
    generalize firstErrC es = ke at *
    have hke : ((ke : Int) != 0) = true := by simp; omega
    clear HT hE
    go_enter Try.func27, Try.ntmps27
    go_wp2_with fail
    refine (newW_any w).mono ?_
    rintro r w1 ⟨rfl, h1⟩
    go_wp2_with fail
    refine (hpa _ h1).mono ?_
    rintro r w2 ⟨rfl, h2, hB2⟩
    go_wp2
    go_ret2
    exact ⟨_, rfl, Ow.nil _ _, hB2⟩
end Go.Proofs.Ytfnnbfgfmbiabab
