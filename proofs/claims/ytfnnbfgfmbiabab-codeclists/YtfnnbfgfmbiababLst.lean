/-
  Lists of entries: the code's and the document's, put and read; the walk of the law CodecLists.
-/
import Derived.Test.YtfnnbfgfmbiababEnl
import Derived.Test.YtfnnbfgfmbiababPuts
import Derived.Test.YtfnnbfgfmbiababRqo
import Derived.Test.YtfnnbfgfmbiababSamE
import Derived.Test.YtfnnbfgfmbiababFir
namespace Go.Proofs.Ytfnnbfgfmbiabab
open Go.RowKit Go.Shelf
set_option linter.unusedVariables false


theorem wvDoneO_any {w0 w : World} {l : List UInt8} (h : Wv w0 w l) :
    Calls Try.prog 38 #[.pointer (some ⟨w0.heap.size, 0, none⟩)] w fun r w' => ∃ u, r = .returned (.tuple #[u, .int .i64 0]) ∧ Ow w0.heap.size w' u l ∧ Below w0.heap.size w0 w' := by
  obtain ⟨⟨v, hW⟩, hB⟩ := h
  obtain ⟨k0, k1, f0, f1⟩ := hW.cells
  have HO : Hid (Ow w0.heap.size w v l) := hW.ow
  obtain ⟨b, c, rfl, -, -⟩ := hW.ow.shape
  clear hW
  go_enter Try.func38, Try.ntmps38
  go_wp2
  go_ret2
  exact ⟨_, rfl, HO.out, hB⟩

set_option maxRecDepth 100000 in
set_option maxHeartbeats 2000000 in
theorem refPutEntryO_any (t i k : Int) (m : List UInt8) (a : Option Addr) (cap : Nat) (w : World) (M : Nat) (hx : Sl M w (.slice a m.length cap) m) (hM : M ≤ w.heap.size) : Calls Try.prog 35 #[.agg #[.int .i64 t, .int .i64 i, .int .i64 k, .slice a m.length cap]] w fun r w' =>
    ∃ u, r = .returned (.tuple #[u, .int .i64 (ckEntry t i k m.length : Int)]) ∧ Ow w.heap.size w' u (if ckEntry t i k m.length = 0 then txEntry t i k m else []) ∧ Below w.heap.size w w' := by
  have hbt := numB_len t.toNat
  have hbi := numB_len i.toNat
  have hbk := numB_len k.toNat
  have hbm := numB_len m.length
  obtain ⟨W0, hW0⟩ : ∃ W0, (w.alloc (.cells #[.int .i64 t, .int .i64 i, .int .i64 k, .slice a m.length cap] 26)) = W0 := ⟨_, rfl⟩
  have HW0 : Hid ((w.alloc (.cells #[.int .i64 t, .int .i64 i, .int .i64 k, .slice a m.length cap] 26)) = W0) := hW0
  have HB0 : Hid (Below w.heap.size w W0) := by show Below w.heap.size w W0; rw [← hW0]; exact ((Below.refl _ w).alloc (by simp) _)
  have HQ : Hid (∀ w', Below W0.heap.size W0 w' → w'.cell? ⟨w.heap.size, 0, none⟩ = some (.int .i64 t) ∧ w'.cell? ⟨w.heap.size, 1, none⟩ = some (.int .i64 i) ∧ w'.cell? ⟨w.heap.size, 2, none⟩ = some (.int .i64 k) ∧ w'.cell? ⟨w.heap.size, 3, none⟩ = some (.slice a m.length cap)) := fun w' hB => by
    have hlt : w.heap.size < W0.heap.size := by rw [← hW0]; simp
    have hh : W0.heap[w.heap.size]? = some (.cells #[.int .i64 t, .int .i64 i, .int .i64 k, .slice a m.length cap] 26 (0, 0)) := by
      rw [← hW0]; exact World.alloc_heap_new w _
    have h2 := (hB.block _ hlt).trans hh
    refine ⟨?_, ?_, ?_, ?_⟩ <;> (simp only [World.cell?, h2]; rfl)
  clear hW0
  by_cases hk : ckEntry t i k m.length = 0
  · rw [if_pos hk]
    obtain ⟨kt, ki, kk, km⟩ := ckEntry_ok hk
    have hm30 : m.length ≤ 1073741824 := by omega
    have hx0 := hx.below (HB0.out.mono hM)
    have hM0 : M ≤ W0.heap.size := by have := HB0.out.size; omega
    go_enter Try.func35, Try.ntmps35
    go_wp2_with (go_at_call 78; refine (refCkEntry_any t i k a m.length cap _).mono ?_; rintro e w1 ⟨rfl, hB1⟩; rw [HW0.out] at hB1; obtain ⟨q0, q1, q2, q3⟩ := HQ.out w1 hB1; have h2 := newV (w := w1); obtain ⟨q0, q1, q2, q3⟩ := HQ.out _ (hB1.trans (h2.bel.mono hB1.size)))
    have hx1 := hx0.below (hB1.mono hM0)
    have hM1 : M ≤ w1.heap.size := by have := hB1.size; omega
    clear hx hx0
    go_wp2_with fail
    refine (wvInt_any t h2 (by simp <;> omega) kt).mono ?_
    rintro r w3 ⟨rfl, h3⟩
    obtain ⟨q0, q1, q2, q3⟩ := HQ.out w3 (hB1.trans (h3.bel.mono hB1.size))
    go_wp2_with fail
    refine (wvInt_any i h3 (by simp <;> omega) ki).mono ?_
    rintro r w4 ⟨rfl, h4⟩
    obtain ⟨q0, q1, q2, q3⟩ := HQ.out w4 (hB1.trans (h4.bel.mono hB1.size))
    go_wp2_with fail
    refine (wvInt_any k h4 (by simp <;> omega) kk).mono ?_
    rintro r w5 ⟨rfl, h5⟩
    obtain ⟨q0, q1, q2, q3⟩ := HQ.out w5 (hB1.trans (h5.bel.mono hB1.size))
    go_wp2_with fail
    refine (wvBytes_any 4096 h5 (by simp <;> omega) (by omega) hx1 hM1 km).mono ?_
    rintro r w6 ⟨rfl, h6⟩
    obtain ⟨q0, q1, q2, q3⟩ := HQ.out w6 (hB1.trans (h6.bel.mono hB1.size))
    go_wp2_with fail
    refine (wvDoneO_any h6).mono ?_
    rintro r w9 ⟨u, rfl, hO9, hB9⟩
    go_wp2
    go_ret2
    refine ⟨u, by rw [hk]; rfl, ?_, HB0.out.trans ((hB1.trans (hB9.mono hB1.size)).mono HB0.out.size)⟩
    have hO := hO9.base (N' := w.heap.size) (by have := hB1.size; have := HB0.out.size; omega)
    simpa [txEntry, numB] using hO
  · rw [if_neg hk]
    have ck1 := fun w' => refCkEntry_any t i k a m.length cap w'
    generalize ckEntry t i k m.length = ke at *
    have hke : ((ke : Int) != 0) = true := by simp; omega
    go_enter Try.func35, Try.ntmps35
    go_wp2_with (go_at_call 78; refine (ck1 _).mono ?_; rintro e w1 ⟨rfl, hB1⟩; rw [HW0.out] at hB1)
    go_ret2
    exact ⟨_, rfl, Ow.nil _ _, HB0.out.trans (hB1.mono HB0.out.size)⟩

theorem rows_apart {w : World} {N1 N2 s1 s2 n1 n2 : Nat} {e1 e2 : TypeId} {v1 v2 : Value} {x1 x2 : List Value} (h1 : w.ownsRow N1 e1 s1 v1 n1 x1) (h2 : w.ownsRow N2 e2 s2 v2 n2 x2) (hne : e1 ≠ e2) : v1.ownBlock = none ∨ v1.ownBlock ≠ v2.ownBlock := by
  rcases h1.2 with ⟨rfl, _⟩ | ⟨g1, c1, q1, rfl, _, hb1, _⟩
  · exact .inl rfl
  · rcases h2.2 with ⟨rfl, _⟩ | ⟨g2, c2, q2, rfl, _, hb2, _⟩
    · exact .inr (by simp [Value.ownBlock])
    · refine .inr (fun e => ?_)
      simp [Value.ownBlock] at e
      subst e
      rw [hb1] at hb2
      cases hb2
      exact hne rfl
theorem ownsRow_base {w : World} {N N' s n : Nat} {e : TypeId} {v : Value} {x : List Value} (h : w.ownsRow N e s v n x) (hN : N' ≤ N) : w.ownsRow N' e s v n x := by
  refine ⟨h.1, ?_⟩
  rcases h.2 with h2 | ⟨g, cap, cur, hv, hg, r⟩
  · exact .inl h2
  · exact .inr ⟨g, cap, cur, hv, by omega, r⟩
theorem ownsRow_shape {w : World} {N s n : Nat} {e : TypeId} {v : Value} {x : List Value} (h : w.ownsRow N e s v n x) : ∃ a c, v = .slice a n c := by
  rcases h.2 with ⟨hv, h0⟩ | ⟨g, cap, cur, hv, r⟩
  · rw [h0]; exact ⟨_, _, hv⟩
  · exact ⟨_, _, hv⟩

/-- A text, and where it lies. -/
structure Hd where
  x : Value
  t : List UInt8
/-- Texts of a call's own, in a row of its own. -/
structure HdsOw (N : Nat) (w : World) (v : Value) (hs : List Hd) : Prop where
  row : w.ownsRow N 23 1 v hs.length (hs.map Hd.x)
  dat : ∀ h ∈ hs, Ow N w h.x h.t
theorem HdsOw.nil (N : Nat) (w : World) : HdsOw N w (.slice none 0 0) [] := ⟨World.ownsRow_nil _ _ _ _, by simp⟩
theorem HdsOw.below {N M : Nat} {w w' : World} {v : Value} {hs : List Hd} (h : HdsOw N w v hs) (hB : Below M w w') (hM : w.heap.size ≤ M) : HdsOw N w' v hs :=
  ⟨h.row.kept (row := none) ⟨hB.os, hB.tape, hB.output, hB.size, fun k hk _ => hB.block k (by omega)⟩ (by cases v.ownBlock <;> simp), fun x hx => (h.dat x hx).below hB hM⟩
theorem HdsOw.alloc {N : Nat} {w : World} {v : Value} {hs : List Hd} (h : HdsOw N w v hs) (o : Obj) : HdsOw N (w.alloc o) v hs := ⟨h.row.alloc o, fun x hx => (h.dat x hx).alloc o⟩
/-- They stay where a row of another kind is turned. -/
theorem HdsOw.kept {N : Nat} {w w' : World} {v : Value} {hs : List Hd} (h : HdsOw N w v hs) {N2 s2 n2 : Nat} {e2 : TypeId} {v2 : Value} {x2 : List Value} (h2 : w.ownsRow N2 e2 s2 v2 n2 x2) (hg : w.grownBy w' v2.ownBlock) (hn : 23 ≠ e2) (hm : 5 ≠ e2) : HdsOw N w' v hs :=
  ⟨h.row.kept hg (rows_apart h.row h2 hn), fun x hx => (h.dat x hx).kept hg (rows_apart (h.dat x hx) h2 hm)⟩
theorem HdsOw.push {N : Nat} {w w' : World} {v v' : Value} {hs : List Hd} {e : Hd} (h : HdsOw N w v hs) (hO : Ow N w e.x e.t) (hrow : w'.ownsRow N 23 1 v' (hs.length + 1) (hs.map Hd.x ++ [e.x])) (hg : w.grownBy w' v.ownBlock) : HdsOw N w' v' (hs ++ [e]) := by
  refine ⟨by simpa using hrow, fun x hx => ?_⟩
  rcases List.mem_append.1 hx with hx | hx
  · exact (h.dat x hx).kept hg (rows_apart (h.dat x hx) h.row (by decide))
  · obtain rfl := List.mem_singleton.1 hx
    exact hO.kept hg (rows_apart hO h.row (by decide))

/-- A number in memory. -/
def intV (k : Nat) : Value := .int .i64 (k : Int)
/-- Texts in memory. -/
def TsAt (N : Nat) (w : World) (a : Option Addr) (ts : List (List UInt8)) : Prop :=
  ts = [] ∨ ∃ b off, a = some ⟨b, off, none⟩ ∧ b < N ∧ ∀ i, i < ts.length → ∃ xa xc, w.cell? ⟨b, off + i, none⟩ = some (.slice xa (ts.getD i []).length xc) ∧ Sl N w (.slice xa (ts.getD i []).length xc) (ts.getD i [])
/-- Numbers in memory. -/
def KsAt (N : Nat) (w : World) (a : Option Addr) (ks : List Nat) : Prop :=
  ks = [] ∨ ∃ b off, a = some ⟨b, off, none⟩ ∧ b < N ∧ ∀ i, i < ks.length → w.cell? ⟨b, off + i, none⟩ = some (.int .i64 (ks.getD i 0 : Int))
theorem TsAt.below {N : Nat} {w w' : World} {a : Option Addr} {ts : List (List UInt8)} (h : TsAt N w a ts) (hB : Below N w w') : TsAt N w' a ts := by
  rcases h with h | ⟨b, off, ha, hb, hc⟩
  · exact .inl h
  · refine .inr ⟨b, off, ha, hb, fun i hi => ?_⟩
    obtain ⟨xa, xc, h1, h2⟩ := hc i hi
    exact ⟨xa, xc, (hB.cell (p := ⟨b, off + i, none⟩) hb).trans h1, h2.below hB⟩
theorem KsAt.below {N : Nat} {w w' : World} {a : Option Addr} {ks : List Nat} (h : KsAt N w a ks) (hB : Below N w w') : KsAt N w' a ks := by
  rcases h with h | ⟨b, off, ha, hb, hc⟩
  · exact .inl h
  · exact .inr ⟨b, off, ha, hb, fun i hi => (hB.cell (p := ⟨b, off + i, none⟩) hb).trans (hc i hi)⟩
theorem HdsOw.at {N : Nat} {w : World} {a : Option Addr} {n c : Nat} {hs : List Hd} {ts : List (List UInt8)} (h : HdsOw N w (.slice a n c) hs) (ht : hs.map Hd.t = ts) : TsAt w.heap.size w a ts := by
  subst ht
  rcases h.row.2 with ⟨hv, h0⟩ | ⟨g, cap, cur, hv, _, hb, h1, h2, h3, h4⟩
  · exact .inl (by simpa using h0)
  · cases hv
    refine .inr ⟨g, 0, rfl, (Array.getElem?_eq_some_iff.1 hb).1, fun i hi => ?_⟩
    have hi' : i < hs.length := by simpa using hi
    have hO := h.dat hs[i] (List.getElem_mem hi')
    obtain ⟨xa, xc, hx, -, -⟩ := hO.shape
    have e0 : (hs.map Hd.t).getD i [] = hs[i].t := by simp [hi']
    rw [e0]
    refine ⟨xa, xc, ?_, ?_⟩
    · have e2 : (cur.toList.take (hs.length * 1))[i]? = (hs.map Hd.x)[i]? := by rw [h4]
      rw [List.getElem?_take_of_lt (by omega)] at e2
      simp only [World.cell?, hb, Nat.zero_add]
      rw [← hx]
      simpa [hi'] using e2
    · have := hO.sl (Nat.le_refl _)
      rw [hx] at this
      exact this
theorem ks_at {N : Nat} {w : World} {a : Option Addr} {n c : Nat} {ks : List Nat} (h : w.ownsRow N 3 1 (.slice a n c) ks.length (ks.map intV)) : KsAt w.heap.size w a ks := by
  rcases h.2 with ⟨hv, h0⟩ | ⟨g, cap, cur, hv, _, hb, h1, h2, h3, h4⟩
  · exact .inl (by simpa using h0)
  · cases hv
    refine .inr ⟨g, 0, rfl, (Array.getElem?_eq_some_iff.1 hb).1, fun i hi => ?_⟩
    have e2 : (cur.toList.take (ks.length * 1))[i]? = (ks.map intV)[i]? := by rw [h4]
    rw [List.getElem?_take_of_lt (by omega)] at e2
    simp only [World.cell?, hb, Nat.zero_add]
    simpa [hi, intV] using e2

/-- An entry's text, none where it is refused. -/
def Ent.pt (e : Ent) : List UInt8 := if e.ck = 0 then e.tx else []
theorem info3i : (Try.prog.info? 3).map (fun i => (i.zero, i.size, i.bytes)) = some (some (.int .i64 0), 1, 8) := by kernel_rfl
theorem cell_one (w : World) (x : Value) (t : TypeId) : ∀ j u, [x][j]? = some u → (w.alloc (.cells #[x] t)).cell? ((⟨w.heap.size, 0, none⟩ : Addr).add j) = some u := by
  intro j u hj
  have hh := World.alloc_heap_new w (.cells #[x] t)
  rw [Addr.add_lit]
  simp only [World.cell?, hh, Nat.zero_add]
  simpa using hj

set_option maxRecDepth 100000 in
set_option maxHeartbeats 8000000 in
theorem texts_any (ea : Option Addr) (ec : Nat) (es : List Ent) (w : World) (hE : EntsAt w.heap.size w ea es) (hn : es.length ≤ 100) :
    Calls Try.prog 10 #[.slice ea es.length ec] w fun r w' => ∃ va vc ka kc hs, r = .returned (.tuple #[.slice va es.length vc, .slice ka es.length kc]) ∧ HdsOw w.heap.size w' (.slice va es.length vc) hs ∧ hs.map Hd.t = es.map Ent.pt ∧ w'.ownsRow w.heap.size 3 1 (.slice ka es.length kc) (es.map Ent.ck).length ((es.map Ent.ck).map intV) ∧ Below w.heap.size w w' := by
  have HEE : Hid (EntsAt w.heap.size w ea es) := hE
  obtain ⟨i0, hi, hz0, hz1, hz2⟩ := info_parts info23
  obtain ⟨j0, hj, hy0, hy1, hy2⟩ := info_parts info3i
  clear hE
  go_enter Try.func10, Try.ntmps10
  go_wp2
  go_loopw [4, 5, 6] (fun tv kv iv wr => ∃ (k vc kc : Nat) (va ka : Option Addr) (hs : List Hd), iv = .int .i64 (k : Int) ∧ tv = .slice va k vc ∧ kv = .slice ka k kc ∧ k ≤ es.length ∧ HdsOw w.heap.size wr (.slice va k vc) hs ∧ hs.length = k ∧ hs.map Hd.t = (es.take k).map Ent.pt ∧ wr.ownsRow w.heap.size 3 1 (.slice ka k kc) k (((es.take k).map Ent.ck).map intV) ∧ Below w.heap.size w wr) (fun _ _ iv _ => es.length - (intOf iv).toNat)
  case atStart => exact ⟨0, 0, 0, none, none, [], rfl, rfl, rfl, Nat.zero_le _, HdsOw.nil _ _, rfl, by simp, by simpa using World.ownsRow_nil _ _ _ _, Below.refl _ _⟩
  case round =>
    obtain ⟨k, vc, kc, va, ka, hs, rfl, rfl, rfl, hk, hH, hhl, hht, hK, hB⟩ := hrel
    have HB : Hid (Below w.heap.size w wr) := hB
    have HH : Hid (HdsOw w.heap.size wr (.slice va k vc) hs) := hH
    have HK : Hid (wr.ownsRow w.heap.size 3 1 (.slice ka k kc) k (((es.take k).map Ent.ck).map intV)) := hK
    have HHL : Hid (hs.length = k) := hhl
    have HHT : Hid (hs.map Hd.t = (es.take k).map Ent.pt) := hht
    clear hH hhl hht hK
    by_cases hlt : k < es.length
    · obtain ⟨b, off, hea, hb', he⟩ := HEE.out.at hlt
      subst hea
      have he' := he.below hb' hB
      have HTK : Hid (es.take (k + 1) = es.take k ++ [es.getD k nilEnt]) := take_succ' hlt
      generalize es.getD k nilEnt = e at *
      obtain ⟨et, ei, ek, eaa, ecc, ed⟩ := e
      obtain ⟨c0, c1, c2, c3, c4⟩ := he'
      unfold Ent.x at c3 c4
      simp only at c0 c1 c2 c3 c4
      have hsz := hB.size
      have hp := refPutEntryO_any et ei ek ed eaa ecc wr w.heap.size c4 hsz
      have HPT : Hid ((⟨et, ei, ek, eaa, ecc, ed⟩ : Ent).pt = if ckEntry et ei ek ed.length = 0 then txEntry et ei ek ed else []) := rfl
      have HCK : Hid ((⟨et, ei, ek, eaa, ecc, ed⟩ : Ent).ck = ckEntry et ei ek ed.length) := rfl
      obtain ⟨ke, hke⟩ : ∃ ke, ckEntry et ei ek ed.length = ke := ⟨_, rfl⟩
      obtain ⟨P, hP⟩ : ∃ P, (if ckEntry et ei ek ed.length = 0 then txEntry et ei ek ed else []) = P := ⟨_, rfl⟩
      rw [hP] at hp HPT
      rw [hke] at hp HCK
      clear hke hP c4 he hB
      go_wp2_with fail
      refine hp.mono ?_
      rintro r w5 ⟨u, rfl, hO5, hB5⟩
      obtain ⟨ua, uc, rfl, -, -⟩ := hO5.shape
      have HB5 : Hid (Below w.heap.size w w5) := HB.out.trans (hB5.mono hsz)
      have HO5 : Hid (Ow w.heap.size w5 (.slice ua P.length uc) P) := hO5.base hsz
      have HH5 : Hid (HdsOw w.heap.size w5 (.slice va k vc) hs) := HH.out.below hB5 (Nat.le_refl _)
      have HK5 : Hid (w5.ownsRow w.heap.size 3 1 (.slice ka k kc) k (((es.take k).map Ent.ck).map intV)) := HK.out.kept (row := none) (Below.grownBy' hB5 none) (by cases (Value.slice ka k kc).ownBlock <;> simp)
      have hz5 : w.heap.size ≤ w5.heap.size := HB5.out.size
      have hrow : (w5.alloc (.cells #[.slice ua P.length uc] 23)).ownsRow w.heap.size 23 1 (.slice va k vc) k (hs.map Hd.x) := by
        have := (HH5.out.row.alloc (.cells #[.slice ua P.length uc] 23))
        rw [HHL.out] at this
        exact this
      clear hO5 hB5 hp c0 c1 c2 c3
      go_wp2_with (first
        | (at_builtin; refine wpList_append_own _ rfl _ _ 32 rfl w.heap.size 23 i0 (.slice none 0 0) 1 24 Try.underlying32 hi hz0 hz1 hz2 rfl (by decide) _ k (hs.map Hd.x) rfl hrow ⟨w5.heap.size, 0, none⟩ 1 1 [.slice ua P.length uc] rfl rfl (cell_one _ _ _) (by intro u hu; simp at hu; subst hu; rfl) (by unfold maxLen; omega) (by omega) (by simp; omega) ?_; intro v7 w7 hown7 hgrow7 _; have hH7 := (HH5.out.alloc (.cells #[.slice ua P.length uc] 23)).push (e := ⟨.slice ua P.length uc, P⟩) (HO5.out.alloc _) (by rw [HHL.out]; exact hown7) hgrow7; have hK7 := (HK5.out.alloc (.cells #[.slice ua P.length uc] 23)).kept hgrow7 (rows_apart (HK5.out.alloc (.cells #[.slice ua P.length uc] 23)) hrow (by decide)); have hB7 : Below w.heap.size w w7 := (HB5.out.alloc hz5 _).grown hgrow7 (by simp; omega) (fun k hk => (hrow.lt k hk).1); obtain ⟨va7, vc7, rfl⟩ := ownsRow_shape hown7; have HH7 : Hid (HdsOw w.heap.size w7 (.slice va7 (k + 1) vc7) (hs ++ [⟨.slice ua P.length uc, P⟩])) := hH7; have HB7 : Hid (Below w.heap.size w w7) := hB7; have hz7 := hB7.size; have hrk : (w7.alloc (.cells #[.int .i64 (ke : Int)] 3)).ownsRow w.heap.size 3 1 (.slice ka k kc) k (((es.take k).map Ent.ck).map intV) := hK7.alloc _; clear hH7 hK7 hB7 hrow hown7 hgrow7)
        | (at_builtin; refine wpList_append_own _ rfl _ _ 33 rfl w.heap.size 3 j0 (.int .i64 0) 1 8 Try.underlying33 hj hy0 hy1 hy2 rfl (by decide) _ k (((es.take k).map Ent.ck).map intV) rfl hrk ⟨w7.heap.size, 0, none⟩ 1 1 [.int .i64 (ke : Int)] rfl rfl (cell_one _ _ _) (by intro u hu; simp at hu; subst hu; rfl) (by unfold maxLen; omega) (by omega) (by simp; omega) ?_; intro v8 w8 hown8 hgrow8 _))
      have hH8 := (HH7.out.alloc (.cells #[.int .i64 (ke : Int)] 3)).kept hrk hgrow8 (by decide) (by decide)
      have hB8 : Below w.heap.size w w8 := (HB7.out.alloc hz7 _).grown hgrow8 (by simp; omega) (fun k hk => (hrk.lt k hk).1)
      obtain ⟨ka8, kc8, rfl⟩ := ownsRow_shape hown8
      refine ⟨⟨k + 1, vc7, kc8, va7, ka8, hs ++ [⟨.slice ua P.length uc, P⟩], by go_num, rfl, rfl, by omega, hH8, by simp [HHL.out], ?_, ?_, hB8⟩, by simp [intOf]; omega⟩
      · rw [HTK.out]
        simp [HHT.out, HPT.out]
      · rw [HTK.out, List.map_append, List.map_append]
        show w8.ownsRow _ _ _ _ _ (List.map intV (List.map Ent.ck (es.take k)) ++ [intV (Ent.ck _)])
        rw [HCK.out]
        exact hown8
    · have hke : k = es.length := by omega
      subst hke
      have HT : Hid (es.take es.length = es) := List.take_length
      go_wp2
      go_ret2
      refine ⟨va, vc, ka, kc, hs, rfl, HH.out, by rw [HHT.out, HT.out], ?_, HB.out⟩
      have := HK.out
      rw [HT.out] at this
      simpa using this


/-- The first error. -/
def fk : List Nat → Nat
  | [] => 0
  | k :: r => if k ≠ 0 then k else fk r
/-- Texts, each with its length ahead. -/
def packT : List (List UInt8) → List UInt8
  | [] => []
  | t :: r => (numB t.length ++ t) ++ packT r
theorem packT_append (a b : List (List UInt8)) : packT (a ++ b) = packT a ++ packT b := by
  induction a with
  | nil => rfl
  | cons e r ih => simp [packT, ih]
theorem takeT {ts : List (List UInt8)} {k : Nat} (h : k < ts.length) : ts.take (k + 1) = ts.take k ++ [ts.getD k []] := by
  rw [List.take_succ_eq_append_getElem h, List.getD_eq_getElem?_getD, List.getElem?_eq_getElem h]; rfl
theorem packT_take {ts : List (List UInt8)} {k : Nat} (h : k < ts.length) : packT (ts.take (k + 1)) = packT (ts.take k) ++ (numB (ts.getD k []).length ++ ts.getD k []) := by
  rw [takeT h, packT_append]; simp [packT]
theorem dropK {l : List Nat} {k : Nat} (h : k < l.length) : l.drop k = l.getD k 0 :: l.drop (k + 1) := by
  rw [List.drop_eq_getElem_cons h, List.getD_eq_getElem?_getD, List.getElem?_eq_getElem h]; rfl
theorem getDT {ts : List (List UInt8)} {k : Nat} (h : k < ts.length) : ts.getD k [] ∈ ts := by
  rw [List.getD_eq_getElem?_getD, List.getElem?_eq_getElem h]; exact List.getElem_mem h
theorem packT_len {ts : List (List UInt8)} (h : ∀ t ∈ ts, t.length ≤ 5000) : (packT ts).length ≤ 6000 * ts.length := by
  induction ts with
  | nil => simp [packT]
  | cons e r ih =>
    have h1 := h e (by simp)
    have h2 := ih (fun x hx => h x (by simp [hx]))
    have h3 := numB_len e.length
    simp [packT]
    omega
theorem TsAt.at {N : Nat} {w : World} {a : Option Addr} {ts : List (List UInt8)} (h : TsAt N w a ts) {i : Nat} (hi : i < ts.length) : ∃ b off, a = some ⟨b, off, none⟩ ∧ b < N ∧ ∃ xa xc, w.cell? ⟨b, off + i, none⟩ = some (.slice xa (ts.getD i []).length xc) ∧ Sl N w (.slice xa (ts.getD i []).length xc) (ts.getD i []) := by
  rcases h with h | ⟨b, off, ha, hb, hc⟩
  · subst h; simp at hi
  · exact ⟨b, off, ha, hb, hc i hi⟩
theorem KsAt.at {N : Nat} {w : World} {a : Option Addr} {ks : List Nat} (h : KsAt N w a ks) {i : Nat} (hi : i < ks.length) : ∃ b off, a = some ⟨b, off, none⟩ ∧ b < N ∧ w.cell? ⟨b, off + i, none⟩ = some (.int .i64 (ks.getD i 0 : Int)) := by
  rcases h with h | ⟨b, off, ha, hb, hc⟩
  · subst h; simp at hi
  · exact ⟨b, off, ha, hb, hc i hi⟩

/-- What PutTexts answers. -/
def ptE (most : Int) (ts : List (List UInt8)) (ks : List Nat) : Nat := if most < (ts.length : Int) then 3 else fk ks
def ptT (most : Int) (ts : List (List UInt8)) (ks : List Nat) : List UInt8 := if ptE most ts ks = 0 then numB ts.length ++ packT ts else []

set_option maxRecDepth 100000 in
set_option maxHeartbeats 8000000 in
theorem putTexts_any (ta ka : Option Addr) (tc kc : Nat) (ts : List (List UInt8)) (ks : List Nat) (most : Int) (w : World) (hT : TsAt w.heap.size w ta ts) (hK : KsAt w.heap.size w ka ks) (hlen : ks.length = ts.length) (hn : ts.length ≤ 100) (ht : ∀ t ∈ ts, t.length ≤ 5000) :
    Calls Try.prog 11 #[.slice ta ts.length tc, .slice ka ts.length kc, .int .i64 most] w fun r w' => ∃ u, r = .returned (.tuple #[u, .int .i64 (ptE most ts ks : Int)]) ∧ Sl w'.heap.size w' u (ptT most ts ks) ∧ Below w.heap.size w w' := by
  have HT : Hid (TsAt w.heap.size w ta ts) := hT
  have HK : Hid (KsAt w.heap.size w ka ks) := hK
  have HL : Hid (ks.length = ts.length) := hlen
  have HS : Hid (∀ t ∈ ts, t.length ≤ 5000) := ht
  clear hT hK hlen ht
  by_cases hm : most < (ts.length : Int)
  · have e1 : ptE most ts ks = 3 := by unfold ptE; rw [if_pos hm]
    have e2 : ptT most ts ks = [] := by unfold ptT; rw [e1]; rfl
    rw [e1, e2]
    clear e1 e2
    go_enter Try.func11, Try.ntmps11
    go_wp2
    go_ret2
    exact ⟨_, rfl, Sl.nil _ _, Below.refl _ _⟩
  have e1 : ptE most ts ks = fk ks := by unfold ptE; rw [if_neg hm]
  have HTT : Hid (ptT most ts ks = if fk ks = 0 then numB ts.length ++ packT ts else []) := by show ptT most ts ks = _; unfold ptT; rw [e1]
  rw [e1]
  clear e1
  go_enter Try.func11, Try.ntmps11
  go_wp2
  go_loopw [8] (fun iv wr => ∃ (k : Nat), iv = .int .i64 (k : Int) ∧ k ≤ ts.length ∧ fk ks = fk (ks.drop k) ∧ Below w.heap.size w wr) (fun iv _ => ts.length - (intOf iv).toNat)
  case atStart => exact ⟨0, rfl, Nat.zero_le _, rfl, Below.refl _ _⟩
  case round =>
    obtain ⟨k, rfl, hk, hF, hB⟩ := hrel
    have HF : Hid (fk ks = fk (ks.drop k)) := hF
    have HB : Hid (Below w.heap.size w wr) := hB
    clear hF
    by_cases hlt : k < ts.length
    · have hlk : k < ks.length := by have := HL.out; omega
      obtain ⟨b, off, hka, hb, hc⟩ := HK.out.at hlk
      subst hka
      have c0 := (hB.cell (p := ⟨b, off + k, none⟩) hb).trans hc
      have HD : Hid (ks.drop k = ks.getD k 0 :: ks.drop (k + 1)) := dropK hlk
      have hi0 : (0 : Int) ≤ (k : Int) := by omega
      have hi1 : (k : Int) < (ts.length : Int) := by omega
      generalize ks.getD k 0 = ke at *
      clear hc hB hlk
      by_cases hz : ke = 0
      · subst hz
        have HF2 : Hid (fk ks = fk (ks.drop (k + 1))) := by
          show fk ks = _
          rw [HF.out, HD.out]; rfl
        go_wp2
        exact ⟨⟨k + 1, by go_num, by omega, HF2.out, HB.out⟩, by simp [intOf]; omega⟩
      · have HF2 : Hid (fk ks = ke) := by
          show fk ks = _
          rw [HF.out, HD.out, fk, if_pos hz]
        have hke : ((ke : Int) != 0) = true := by simp; omega
        have HZ : Hid (¬ ke = 0) := hz
        clear hz
        go_wp2_with fail
        go_quiet (fail)
        go_wp2
        go_ret2
        exact ⟨.slice none 0 0, by rw [HF2.out]; rfl, by rw [HTT.out, HF2.out, if_neg HZ.out]; exact Sl.nil _ _, HB.out.trans ⟨rfl, rfl, rfl, Nat.le_refl _, fun _ _ => rfl⟩⟩
    · have HF2 : Hid (fk ks = 0) := by show fk ks = 0; rw [HF.out, List.drop_eq_nil_of_le (by have := HL.out; omega)]; rfl
      generalize wr = wq at *
      have hb := numB_len ts.length
      have hnn : isNumB (ts.length : Int) = true := by simp [isNumB]; omega
      have hV := newV (w := wq)
      clear hB
      go_wp2_with fail
      refine (wvInt_any (ts.length : Int) hV (by simp) hnn).mono ?_
      rintro r w1 ⟨rfl, h1⟩
      rw [Int.toNat_natCast] at h1
      have HT1 : Hid (TsAt wq.heap.size wq ta ts) := by
        show TsAt wq.heap.size wq ta ts
        rcases HT.out.below HB.out with h | ⟨b, off, ha, hb, hc⟩
        · exact .inl h
        · refine .inr ⟨b, off, ha, by have := HB.out.size; omega, fun i hi => ?_⟩
          obtain ⟨xa, xc, q1, q2⟩ := hc i hi
          exact ⟨xa, xc, q1, q2.mono HB.out.size⟩
      clear hV
      go_wp2_with fail
      go_loopw [10] (fun iv wx => ∃ (j : Nat), iv = .int .i64 (j : Int) ∧ j ≤ ts.length ∧ Wv wq wx (numB ts.length ++ packT (ts.take j))) (fun iv _ => ts.length - (intOf iv).toNat)
      case atStart => exact ⟨0, rfl, Nat.zero_le _, by simpa [packT] using h1⟩
      case round =>
        obtain ⟨j, rfl, hj, hW⟩ := hrel
        clear h1
        by_cases hlj : j < ts.length
        · obtain ⟨b, off, hta, hb', xa, xc, hc, hS⟩ := HT1.out.at hlj
          subst hta
          have c0 := (hW.bel.cell (p := ⟨b, off + j, none⟩) hb').trans hc
          have HP : Hid (packT (ts.take (j + 1)) = packT (ts.take j) ++ (numB (ts.getD j []).length ++ ts.getD j [])) := packT_take hlj
          have hpl := packT_len (ts := ts.take j) (fun t ht => HS.out t (List.mem_of_mem_take ht))
          have htl : (ts.take j).length = j := by simp; omega
          rw [htl] at hpl
          have h5 := HS.out _ (getDT hlj)
          generalize ts.getD j [] = t at *
          have hi0 : (0 : Int) ≤ (j : Int) := by omega
          have hi1 : (j : Int) < (ts.length : Int) := by omega
          have hp := wvBytes_any 1048576 hW (by simp; omega) (by omega) hS (Nat.le_refl _) (by omega)
          have HG : Hid (∀ w', Wv wq w' (numB ts.length ++ packT (ts.take j) ++ (numB t.length ++ t)) → Wv wq w' (numB ts.length ++ packT (ts.take (j + 1)))) := fun w' hw => by
            rw [HP.out, ← List.append_assoc]; exact hw
          clear hc hS hpl htl
          generalize (numB ts.length ++ packT (ts.take j) ++ (numB t.length ++ t)) = L at *
          go_wp2_with (go_at_call 37; refine hp.mono ?_; rintro r w5 ⟨rfl, hW5⟩)
          exact ⟨⟨j + 1, by go_num, by omega, HG.out _ hW5⟩, by simp [intOf]; omega⟩
        · have HG : Hid (Wv wq wr (numB ts.length ++ packT ts)) := by
            have e0 : ts.take j = ts := List.take_of_length_le (by omega)
            rw [e0] at hW; exact hW
          clear hW
          go_wp2_with fail
          refine (wvDone_any HG.out).mono ?_
          rintro r w9 ⟨u, rfl, hO, hB9⟩
          go_wp2
          go_ret2
          exact ⟨u, by rw [HF2.out]; rfl, by rw [HTT.out, HF2.out]; exact hO, HB.out.trans (hB9.mono HB.out.size)⟩


theorem EntsOw.at2 {N : Nat} {w : World} {va : Option Addr} {vc : Nat} {es : List Ent} (h : EntsOw N w (.slice va es.length vc) es) : EntsAt w.heap.size w va es := by
  by_cases hz : es = []
  · exact .inl hz
  · have hp := List.length_pos_iff.2 hz
    rcases h.row.2 with ⟨_, h0⟩ | ⟨g, cap, cur, hv, hg, hh, h1, h2, h3, h4⟩
    · omega
    · cases hv
      refine .inr ⟨g, 0, rfl, (Array.getElem?_eq_some_iff.1 hh).1, fun i hi => ?_⟩
      have hcell : ∀ o v, o < es.length * 4 → (entCells es)[o]? = some v → w.cell? ⟨g, o, none⟩ = some v := fun o v ho hv => by
        simp only [World.cell?, hh]
        have : (cur.toList.take (es.length * 4))[o]? = some v := by rw [h4]; exact hv
        rw [List.getElem?_take, if_pos ho] at this
        simpa using this
      have hent : ∀ (fs : List Ent) (i : Nat), i < fs.length → (entCells fs)[i * 4]? = some (.int .i64 (fs.getD i nilEnt).t) ∧ (entCells fs)[i * 4 + 1]? = some (.int .i64 (fs.getD i nilEnt).i) ∧ (entCells fs)[i * 4 + 2]? = some (.int .i64 (fs.getD i nilEnt).k) ∧ (entCells fs)[i * 4 + 3]? = some (fs.getD i nilEnt).x := by
        intro fs
        induction fs with
        | nil => intro i hi; simp at hi
        | cons f r ih =>
          intro i hi
          cases i with
          | zero => simp [entCells]
          | succ i =>
            obtain ⟨a1, a2, a3, a4⟩ := ih i (by simpa using hi)
            have e1 : (i + 1) * 4 = i * 4 + 1 + 1 + 1 + 1 := by omega
            rw [e1]
            simp only [entCells, List.cons_append, List.nil_append, List.getElem?_cons_succ, List.getD_cons_succ]
            exact ⟨a1, a2, a3, a4⟩
      obtain ⟨a1, a2, a3, a4⟩ := hent es i hi
      have hmem : es.getD i nilEnt ∈ es := by rw [List.getD_eq_getElem?_getD, List.getElem?_eq_getElem hi]; exact List.getElem_mem hi
      rw [Nat.zero_add]
      exact ⟨hcell _ _ (by omega) a1, hcell _ _ (by omega) a2, hcell _ _ (by omega) a3, hcell _ _ (by omega) a4, (h.dat _ hmem).sl (Nat.le_refl _)⟩


/-- Texts that are read until one is not. -/
def rdTs (l : List UInt8) : Nat → Nat × Nat → List (List UInt8) × (Nat × Nat)
  | 0, s => ([], s)
  | k + 1, s => if s.2 ≠ 0 then ([], s) else if (rdB l 1048576 s).2.2 ≠ 0 then ([], (rdB l 1048576 s).2) else ((rdB l 1048576 s).1 :: (rdTs l k (rdB l 1048576 s).2).1, (rdTs l k (rdB l 1048576 s).2).2)
/-- Entries of texts. -/
def dec : List (List UInt8) → Nat × List (Nat × Nat × Nat × List UInt8)
  | [] => (0, [])
  | t :: r => if geEntry t ≠ 0 then (geEntry t, []) else ((dec r).1, goEntry t :: (dec r).2)
theorem rdTs_bad (l : List UInt8) (n p e : Nat) (h : e ≠ 0) : rdTs l n (p, e) = ([], (p, e)) := by
  cases n with
  | zero => rfl
  | succ n => simp [rdTs, h]
theorem rdEs_rdTs (l : List UInt8) : ∀ (n p : Nat), ((dec (rdTs l n (p, 0)).1).1 ≠ 0 → (rdEs l 1048576 n (p, 0)).1 = (dec (rdTs l n (p, 0)).1).1) ∧
    ((dec (rdTs l n (p, 0)).1).1 = 0 → (rdTs l n (p, 0)).2.2 ≠ 0 → (rdEs l 1048576 n (p, 0)).1 = (rdTs l n (p, 0)).2.2) ∧
    ((dec (rdTs l n (p, 0)).1).1 = 0 → (rdTs l n (p, 0)).2.2 = 0 → (rdEs l 1048576 n (p, 0)).1 = 0 ∧ (rdEs l 1048576 n (p, 0)).2.1 = (dec (rdTs l n (p, 0)).1).2 ∧ (rdEs l 1048576 n (p, 0)).2.2 = (rdTs l n (p, 0)).2)
  | 0, p => by simp [rdTs, rdEs, dec]
  | n + 1, p => by
    obtain ⟨t, p3, e3, H⟩ : ∃ t p3 e3, rdB l 1048576 (p, 0) = (t, (p3, e3)) := ⟨_, _, _, rfl⟩
    by_cases h3 : e3 = 0
    · subst h3
      obtain ⟨i1, i2, i3⟩ := rdEs_rdTs l n p3
      by_cases hg : geEntry t = 0
      · simp only [rdTs, rdEs, H, dec, hg, ne_eq, not_true, if_false]
        refine ⟨i1, i2, fun a b => ?_⟩
        obtain ⟨j1, j2, j3⟩ := i3 a b
        exact ⟨j1, by rw [j2], j3⟩
      · simp [rdTs, rdEs, H, dec, hg]
    · simp [rdTs, rdEs, H, dec, h3]

theorem rdEs_len (l : List UInt8) (size : Int) : ∀ (n p : Nat), p ≤ l.length → (rdEs l size n (p, 0)).2.1.length + p ≤ l.length
  | 0, p, h => by simpa [rdEs] using h
  | n + 1, p, h => by
    obtain ⟨t, p3, e3, H⟩ : ∃ t p3 e3, rdB l size (p, 0) = (t, (p3, e3)) := ⟨_, _, _, rfl⟩
    by_cases h3 : e3 = 0
    · subst h3
      by_cases hg : geEntry t = 0
      · have hle := rdB_le l size (p, 0) h
        rw [H] at hle
        have ih := rdEs_len l size n p3 hle
        have hp : p < p3 := by
          have := H
          simp only [rdB, Prod.mk.injEq] at this
          rcases takeAt_cases l p 0 size with ⟨x, hx, h⟩ | ⟨t', q, hq, h⟩
          · rw [h] at this; exact absurd this.2.2 hx
          · rw [h] at this; simp only at this; omega
        simp only [rdEs, H, hg, ne_eq, not_true, if_false, List.length_cons]
        omega
      · simpa [rdEs, H, hg] using h
    · simpa [rdEs, H, h3] using h

/-- What is asked of a list's text: the error, and what is read. -/
def glE (l : List UInt8) (most : Int) : Nat :=
  if (rdN l (0, 0)).2.2 ≠ 0 then (rdN l (0, 0)).2.2 else if most < ((rdN l (0, 0)).1 : Int) then 3
  else if (rdEs l 1048576 (rdN l (0, 0)).1 (rdN l (0, 0)).2).1 ≠ 0 then (rdEs l 1048576 (rdN l (0, 0)).1 (rdN l (0, 0)).2).1
  else doneE l (rdEs l 1048576 (rdN l (0, 0)).1 (rdN l (0, 0)).2).2.2.1 (rdEs l 1048576 (rdN l (0, 0)).1 (rdN l (0, 0)).2).2.2.2
def glS (l : List UInt8) (most : Int) : List (Int × Int × Int × List UInt8) := if glE l most = 0 then saysN (rdEs l 1048576 (rdN l (0, 0)).1 (rdN l (0, 0)).2).2.1 else []
/-- The same of texts. -/
def tsX (l : List UInt8) (most : Int) : List (List UInt8) × (Nat × Nat) :=
  rdTs l (rdN l (0, 0)).1 ((rdN l (0, 0)).2.1, if (rdN l (0, 0)).2.2 ≠ 0 then (rdN l (0, 0)).2.2 else if most < ((rdN l (0, 0)).1 : Int) then 3 else 0)
def tsE (l : List UInt8) (most : Int) : Nat := if (dec (tsX l most).1).1 ≠ 0 then (dec (tsX l most).1).1 else doneE l (tsX l most).2.1 (tsX l most).2.2
def tsS (l : List UInt8) (most : Int) : List (Int × Int × Int × List UInt8) := if tsE l most = 0 then saysN (dec (tsX l most).1).2 else []
theorem doneE_bad (l : List UInt8) (a e : Nat) (h : e ≠ 0) : doneE l a e = e := by unfold doneE; rw [if_neg (by omega)]
theorem gl_ts (l : List UInt8) (most : Int) : glE l most = tsE l most ∧ glS l most = tsS l most := by
  have key : glE l most = tsE l most ∧ (glE l most = 0 → (rdEs l 1048576 (rdN l (0, 0)).1 (rdN l (0, 0)).2).2.1 = (dec (tsX l most).1).2) := by
    unfold glE tsE tsX
    obtain ⟨n, p1, e1, H⟩ : ∃ n p1 e1, rdN l (0, 0) = (n, (p1, e1)) := ⟨_, _, _, rfl⟩
    simp only [H]
    by_cases h1 : e1 = 0
    · subst h1
      by_cases hm : most < (n : Int)
      · simp only [hm, ne_eq, not_true, if_false, if_true]
        rw [rdTs_bad l n p1 3 (by decide)]
        simp [dec, doneE]
      · simp only [hm, ne_eq, not_true, if_false]
        obtain ⟨i1, i2, i3⟩ := rdEs_rdTs l n p1
        by_cases hd : (dec (rdTs l n (p1, 0)).1).1 = 0
        · by_cases hx : (rdTs l n (p1, 0)).2.2 = 0
          · obtain ⟨j1, j2, j3⟩ := i3 hd hx
            simp only [j1, j2, j3, hd, not_true, if_false]
            exact ⟨trivial, fun _ => trivial⟩
          · have j := i2 hd hx
            simp only [j, hd, hx, not_true, not_false_iff, if_false, if_true]
            rw [doneE_bad _ _ _ hx]
            exact ⟨rfl, fun h => by first | exact absurd h hx | exact h.elim⟩
        · have j := i1 hd
          simp only [j, hd, not_false_iff, if_true]
          exact ⟨trivial, fun h => by first | exact absurd h hd | exact h.elim⟩
    · simp only [h1, ne_eq, not_false_iff, if_true]
      rw [rdTs_bad l n p1 e1 h1]
      simp only [dec, not_true, if_false]
      rw [doneE_bad _ _ _ h1]
      exact ⟨rfl, fun h => by first | exact absurd h h1 | exact h.elim⟩
  refine ⟨key.1, ?_⟩
  unfold glS tsS
  rw [← key.1]
  by_cases h : glE l most = 0
  · rw [if_pos h, if_pos h, key.2 h]
  · rw [if_neg h, if_neg h]

set_option maxRecDepth 100000 in
set_option maxHeartbeats 8000000 in
theorem getListE_any (l : List UInt8) (most : Int) (x : Value) (w : World) (M : Nat) (hx : Sl M w x l) (hM : M ≤ w.heap.size) (hl : l.length ≤ 1000000) :
    Calls Try.prog 39 #[.iface 31 (.agg #[]), x, .int .i64 most] w fun r w' => ∃ va vc es, r = .returned (.tuple #[.slice va es.length vc, .int .i64 (glE l most : Int)]) ∧ EntsAt w'.heap.size w' va es ∧ saysOf es = glS l most ∧ es.length ≤ 1000000 ∧ Below w.heap.size w w' := by
  obtain ⟨n, p1, e1, H⟩ : ∃ n p1 e1, Hid (rdN l (0, 0) = (n, (p1, e1))) := ⟨_, _, _, rfl⟩
  obtain ⟨Y, HY⟩ : ∃ Y, Hid ((if e1 ≠ 0 then e1 else if most < (n : Int) then 3 else (rdEs l 1048576 n (p1, e1)).1 : Nat) = Y) := ⟨_, rfl⟩
  have hga := fun {w1 R} (h : Rr w w1 R l 0 0) => getAll_any most 1048576 h H (by omega)
  rw [HY.out] at hga
  have HN : Hid (glS l most = [] ∨ glE l most = 0) := by
    by_cases h : glE l most = 0
    · exact .inr h
    · exact .inl (by unfold glS; rw [if_neg h])
  obtain ⟨xa, xc, rfl, -⟩ := id hx
  by_cases hY : Y = 0
  · subst hY
    have HZ : Hid (e1 = 0 ∧ (n : Int) ≤ most ∧ (rdEs l 1048576 n (p1, e1)).1 = 0) := by
      have := HY.out
      by_cases h1 : e1 = 0
      · by_cases h2 : most < (n : Int)
        · simp [h1, h2] at this
        · simp only [h1, h2, ne_eq, not_true, if_false] at this
          exact ⟨h1, by omega, by rw [h1]; exact this⟩
      · simp [h1] at this
    have HGE : Hid (glE l most = doneE l (rdEs l 1048576 n (p1, e1)).2.2.1 (rdEs l 1048576 n (p1, e1)).2.2.2) := by
      obtain ⟨a1, a2, a3⟩ := HZ.out
      show glE l most = _
      unfold glE
      simp only [H.out, a1, ne_eq, not_true, if_false]
      rw [a1] at a3
      rw [if_neg (by omega), a3]
      simp
    have HGS : Hid (glE l most = 0 → glS l most = saysN (rdEs l 1048576 n (p1, e1)).2.1) := fun h => by
      unfold glS
      rw [if_pos h]
      simp only [H.out]
    have HLN : Hid ((rdEs l 1048576 n (p1, e1)).2.1.length ≤ 1000000) := by
      have h1 := rdN_le l (0, 0) (Nat.zero_le _)
      rw [H.out] at h1
      have := rdEs_len l 1048576 n p1 h1
      rw [HZ.out.1]
      show _ ≤ _
      omega
    go_enter Try.func39, Try.ntmps39
    go_wp2_with fail
    refine (newR_any w hx (by omega)).mono ?_
    rintro r w1 ⟨R, rfl, h1⟩
    go_wp2_with fail
    refine (hga h1).mono ?_
    rintro r w2 ⟨v, es, rfl, hE, hq, hg⟩
    obtain ⟨hsy, hR⟩ := hq HZ.out.1 HZ.out.2.1 HZ.out.2.2
    obtain ⟨va, vc, rfl⟩ := ownsRow_shape hE.row
    have HE2 : Hid (EntsOw w1.heap.size w2 (.slice va es.length vc) es) := hE
    have HSY : Hid (es.map Ent.says = saysN (rdEs l 1048576 n (p1, e1)).2.1) := hsy
    have hdn := rrDone_any hR
    rw [← HGE.out] at hdn
    have HBL : Hid (Below w.heap.size w w2) := hR.bel
    clear hga hE hsy hq
    by_cases h0 : glE l most = 0
    · rw [h0] at hdn
      have HG0 : Hid (glE l most = 0) := h0
      clear h0
      go_wp2_with (go_at_call 72; refine hdn.mono ?_; rintro r w3 ⟨rfl, hB3⟩)
      go_ret2
      have hE3 : EntsOw w1.heap.size w3 (.slice va es.length vc) es := ⟨HE2.out.row.kept (row := none) (Below.grownBy' hB3 none) (by cases (Value.slice va es.length vc).ownBlock <;> simp), fun e he => (HE2.out.dat e he).below hB3 (Nat.le_refl _)⟩
      refine ⟨va, vc, es, by rw [HG0.out]; rfl, hE3.at2, ?_, ?_, HBL.out.trans (hB3.mono HBL.out.size)⟩
      · rw [HGS.out HG0.out]; exact HSY.out
      · have := congrArg List.length HSY.out
        have h2 := HLN.out
        simp [saysN] at this
        omega
    · have HS0 : Hid (glS l most = []) := HN.out.resolve_right h0
      obtain ⟨ke, hk0⟩ : ∃ ke, glE l most = ke := ⟨_, rfl⟩
      have HKE : Hid (glE l most = ke) := hk0
      rw [hk0] at hdn h0
      clear hk0
      have hke : ((ke : Int) != 0) = true := by simp; omega
      go_wp2_with (go_at_call 72; refine hdn.mono ?_; rintro r w3 ⟨rfl, hB3⟩)
      go_ret2
      exact ⟨none, 0, [], by rw [HKE.out]; rfl, .inl rfl, by rw [HS0.out]; rfl, by simp, HBL.out.trans (hB3.mono HBL.out.size)⟩
  · have HGE : Hid (glE l most = Y) := by
      show glE l most = Y
      have hy := HY.out
      unfold glE
      simp only [H.out]
      by_cases h1 : e1 = 0
      · subst h1
        by_cases h2 : most < (n : Int)
        · simp only [h2, ne_eq, not_true, if_false, if_true] at hy ⊢
          exact hy
        · simp only [h2, ne_eq, not_true, if_false] at hy ⊢
          rw [hy, if_pos hY]
      · simp only [h1, ne_eq, not_false_iff, if_true] at hy ⊢
        exact hy
    have HS0 : Hid (glS l most = []) := HN.out.resolve_right (by rw [HGE.out]; exact hY)
    rw [HGE.out, HS0.out]
    have hke : ((Y : Int) != 0) = true := by simp; omega
    have hke2 : ((Y : Int) == 0) = false := by simp; omega
    go_enter Try.func39, Try.ntmps39
    go_wp2_with fail
    refine (newR_any w hx (by omega)).mono ?_
    rintro r w1 ⟨R, rfl, h1⟩
    go_wp2_with fail
    refine (hga h1).mono ?_
    rintro r w2 ⟨v, es, rfl, hE, hq, hg⟩
    have HBL : Hid (Below w.heap.size w w2) := h1.bel.grown hg h1.bel.size (fun k e => by cases e; exact h1.rdr.le)
    clear hga hE hq
    go_wp2
    go_ret2
    exact ⟨none, 0, [], rfl, .inl rfl, rfl, by simp, HBL.out⟩


theorem rpBg {w0 w : World} {Q : Nat} {v : Value} {l t : List UInt8} {a e a' e' : Nat} {most : Int} (h : Rp w0 w Q v l a e) (hr : Hid (rdB l most (a, e) = (t, (a', e')))) :
    Calls Try.prog 83 #[.pointer (some ⟨Q, 0, none⟩), .int .i64 most] w fun r w' => ∃ u, r = .returned u ∧ Ow w.heap.size w' u t ∧ Rp w0 w' Q v l a' e' ∧ w.grownBy w' (some Q) := by
  have hr := hr.out
  have hle := rdB_le l most (a, e) h.le
  refine (qBytesP_any _ Q v l a e most w h.rrd h.len h.le).mono ?_
  rintro r w' ⟨u, rfl, hS, h', hg⟩
  rw [hr] at hle
  simp only [rdB, Prod.mk.injEq] at hr
  obtain ⟨rfl, rfl, rfl⟩ := hr
  exact ⟨u, rfl, hS, h.turn h' hg hle, hg⟩

/-- Texts stay where a block that is none of theirs is turned. -/
theorem HdsOw.turn {N R : Nat} {w w' : World} {v : Value} {hs : List Hd} {cs : Array Value} {z : Nat × Nat} (h : HdsOw N w v hs) (hg : w.grownBy w' (some R)) (hR : w.heap[R]? = some (.cells cs 135 z)) : HdsOw N w' v hs := by
  refine ⟨h.row.kept hg ?_, fun x hx => (h.dat x hx).kept hg (.inr ((h.dat x hx).not_at hR (by decide)))⟩
  rcases h.row.2 with ⟨rfl, _⟩ | ⟨g, cap, cur, rfl, _, hgb, _⟩
  · exact .inl rfl
  · refine .inr (fun e => ?_)
    simp [Value.ownBlock] at e
    subst e
    rw [hR] at hgb
    cases hgb
theorem Rp.grown {w0 w w' : World} {Q N : Nat} {v x : Value} {l : List UInt8} {p e n : Nat} {xs : List Value} (h : Rp w0 w Q v l p e) (hrow : w.ownsRow N 23 1 x n xs) (hN : w0.heap.size ≤ N) (hg : w.grownBy w' x.ownBlock) : Rp w0 w' Q v l p e := by
  have hk : ∀ k, x.ownBlock = some k → w0.heap.size ≤ k := fun k e => by have := (hrow.lt k e).1; omega
  refine ⟨h.rrd.kept hg ?_ hk, h.bel.grown hg h.bel.size hk, h.len, h.le⟩
  rcases hrow.2 with ⟨rfl, _⟩ | ⟨g, cap, cur, rfl, _, hgb, _⟩
  · simp [Value.ownBlock]
  · intro e
    simp [Value.ownBlock] at e
    subst e
    rw [h.rrd.at0] at hgb
    cases hgb

set_option maxRecDepth 100000 in
set_option maxHeartbeats 2000000 in
theorem rpFail_any {w0 w : World} {Q : Nat} {v : Value} {l : List UInt8} {p e : Nat} (h : Rp w0 w Q v l p e) :
    Calls Try.prog 82 #[.pointer (some ⟨Q, 0, none⟩), .int .i64 3] w fun r w' => r = .returned (.tuple #[]) ∧ Rp w0 w' Q v l p (if e ≠ 0 then e else 3) := by
  obtain ⟨k0, k1, k2, f1, f2⟩ := h.rrd.cells
  by_cases he : e = 0
  · subst he
    have HR : Hid (Rp w0 (w.setCell ⟨Q, 2, none⟩ (.int .i64 ((3 : Nat) : Int))) Q v l p 3) := h.turn (h.rrd.err 3) (grown_set _ _ _ _) h.le
    rw [if_neg (by simp)]
    clear h
    go_enter Try.func82, Try.ntmps82
    go_wp2
    go_end0
    exact ⟨rfl, HR.out⟩
  · have HR : Hid (Rp w0 w Q v l p e) := h
    rw [if_pos he]
    have hke : ((e : Int) == 0) = false := by simp; omega
    clear h he
    go_enter Try.func82, Try.ntmps82
    go_wp2
    go_end0
    exact ⟨rfl, HR.out⟩

theorem rdB_len (l : List UInt8) (most : Int) (s : Nat × Nat) : (rdB l most s).1.length ≤ l.length := by
  simp only [rdB, takeAt]
  split
  · simp
  · split
    · simp
    · split
      · simp
      · simp; omega

set_option maxRecDepth 100000 in
set_option maxHeartbeats 8000000 in
theorem tsRead_any (l : List UInt8) (most : Int) (x : Value) (w : World) (M : Nat) (hx : Sl M w x l) (hM : M ≤ w.heap.size) (hl : l.length ≤ 1000000) :
    Calls Try.prog 40 #[x, .int .i64 most] w fun r w' => ∃ va vc hs n, r = .returned (.tuple #[.slice va hs.length vc, .pointer (some ⟨w.heap.size, 0, none⟩), n]) ∧ HdsOw w.heap.size w' (.slice va hs.length vc) hs ∧ hs.map Hd.t = (tsX l most).1 ∧ (∀ h ∈ hs, h.t.length ≤ 1000000) ∧ hs.length ≤ 1000000 ∧ Rp w w' w.heap.size x l (tsX l most).2.1 (tsX l most).2.2 := by
  obtain ⟨n, p1, e1, H⟩ : ∃ n p1 e1, Hid (rdN l (0, 0) = (n, (p1, e1))) := ⟨_, _, _, rfl⟩
  obtain ⟨e2, HE2⟩ : ∃ e2, Hid ((if e1 ≠ 0 then e1 else if most < (n : Int) then 3 else 0) = e2) := ⟨_, rfl⟩
  obtain ⟨X, HX⟩ : ∃ X, Hid (rdTs l n (p1, e2) = X) := ⟨_, rfl⟩
  have HXX : Hid (tsX l most = X) := by
    show tsX l most = X
    unfold tsX
    simp only [H.out]
    rw [HE2.out, HX.out]
  rw [HXX.out]
  have hn62 : n ≤ 4611686018427387904 := by
    have := (pk_bd l 0 0).1
    have h2 := H.out
    simp only [rdN, Prod.mk.injEq] at h2
    omega
  have hq := newP hx hM hl
  obtain ⟨xa, xc, rfl, -⟩ := id hx
  have HLE : Hid (p1 ≤ l.length) := by have := rdN_le l (0, 0) (Nat.zero_le _); rw [H.out] at this; exact this
  obtain ⟨i0, hi, hz0, hz1, hz2⟩ := info_parts info23
  have HD : Hid (∀ m s, rdTs l (m + 1) s = if s.2 ≠ 0 then ([], s) else if (rdB l 1048576 s).2.2 ≠ 0 then ([], (rdB l 1048576 s).2) else ((rdB l 1048576 s).1 :: (rdTs l m (rdB l 1048576 s).2).1, (rdTs l m (rdB l 1048576 s).2).2)) := fun m s => rfl
  have HFE : Hid (∀ w1, Rp w w1 w.heap.size (.slice xa l.length xc) l p1 e1 → most < (n : Int) → Calls Try.prog 82 #[.pointer (some ⟨w.heap.size, 0, none⟩), .int .i64 3] w1 fun r w' => r = .returned (.tuple #[]) ∧ Rp w w' w.heap.size (.slice xa l.length xc) l p1 e2) := fun w1 h hm => by
    have := rpFail_any h
    have e0 : (if e1 ≠ 0 then e1 else 3) = e2 := by have := HE2.out; rw [if_pos hm] at this; exact this
    rw [e0] at this
    exact this
  have HEN : Hid (¬ most < (n : Int) → e2 = e1) := fun hm => by
    have := HE2.out
    rw [if_neg hm] at this
    by_cases h1 : e1 = 0
    · simp [h1] at this; omega
    · simp [h1] at this; omega
  clear hx
  go_enter Try.func40, Try.ntmps40
  go_wp2_with fail
  refine (rpI hq H).mono ?_
  rintro r w1 ⟨rfl, h1⟩
  by_cases hm : most < (n : Int)
  · have hf := HFE.out w1 h1 hm
    clear hq h1
    go_wp2_with (go_at_call 82; refine hf.mono ?_; rintro r w2 ⟨rfl, h2⟩)
    clear hf
    go_loopw [9, 10, 11] (fun tv iv _ wr => ∃ (j p2 e3 vc : Nat) (va : Option Addr) (hs : List Hd), iv = .int .i64 (j : Int) ∧ tv = .slice va hs.length vc ∧ j ≤ n ∧ HdsOw w.heap.size wr (.slice va hs.length vc) hs ∧ hs.length ≤ p2 ∧ (∀ h ∈ hs, h.t.length ≤ 1000000) ∧ Rp w wr w.heap.size (.slice xa l.length xc) l p2 e3 ∧ hs.map Hd.t ++ (rdTs l (n - j) (p2, e3)).1 = X.1 ∧ (rdTs l (n - j) (p2, e3)).2 = X.2) (fun _ iv _ _ => n - (intOf iv).toNat)
    case atStart => exact ⟨0, p1, e2, 0, none, [], rfl, rfl, Nat.zero_le _, HdsOw.nil _ _, Nat.zero_le _, by simp, h2, by simp [HX.out], by simp [HX.out]⟩
    case round =>
      obtain ⟨j, p2, e3, vc, va, hs, rfl, rfl, hj, hH, hhl, hht, hR, hX1, hX2⟩ := hrel
      have HX1 : Hid (hs.map Hd.t ++ (rdTs l (n - j) (p2, e3)).1 = X.1) := hX1
      have HX2 : Hid ((rdTs l (n - j) (p2, e3)).2 = X.2) := hX2
      have HHT : Hid (∀ h ∈ hs, h.t.length ≤ 1000000) := hht
      clear hX1 hX2 hht h2
      have hple := hR.le
      obtain ⟨k0, k1, k2, f1, f2⟩ := hR.rrd.cells
      by_cases hgo : j < n ∧ e3 = 0
      · obtain ⟨hlt, rfl⟩ := hgo
        obtain ⟨m, hm1⟩ : ∃ m, n - j = m + 1 := ⟨n - j - 1, by omega⟩
        have HM : Hid (n - (j + 1) = m) := by show n - (j + 1) = m; omega
        obtain ⟨t, p3, e4, H3⟩ : ∃ t p3 e4, Hid (rdB l 1048576 (p2, 0) = (t, (p3, e4))) := ⟨_, _, _, rfl⟩
        have hx1 := HX1.out
        have hx2 := HX2.out
        rw [hm1, HD.out] at hx1 hx2
        simp only [H3.out, ne_eq, not_true, if_false] at hx1 hx2
        have hb := rpBg hR H3
        have HQ : Hid (wr.heap[w.heap.size]? = some (.cells #[.slice xa l.length xc, .int .i64 (p2 : Int), .int .i64 ((0 : Nat) : Int)] 135 (0, 0))) := hR.rrd.at0
        have HH : Hid (HdsOw w.heap.size wr (.slice va hs.length vc) hs) := hH
        have HSZ : Hid (w.heap.size ≤ wr.heap.size) := hR.bel.size
        have htl : t.length ≤ 1000000 := by have := rdB_len l 1048576 (p2, 0); rw [H3.out] at this; simp only at this; omega
        clear hH hR hm1
        by_cases h4 : e4 = 0
        · subst h4
          have hp23 : p2 < p3 ∧ p3 ≤ l.length := by
            have hle := rdB_le l 1048576 (p2, 0) hple
            rw [H3.out] at hle
            simp only at hle
            refine ⟨?_, hle⟩
            have := H3.out
            simp only [rdB, Prod.mk.injEq] at this
            rcases takeAt_cases l p2 0 1048576 with ⟨x, hx, h⟩ | ⟨t', q, hq, h⟩
            · rw [h] at this; exact absurd this.2.2 hx
            · rw [h] at this; simp only at this; omega
          simp only [not_true, if_false] at hx1 hx2
          have HN1 : Hid (∀ u, (hs ++ [(⟨u, t⟩ : Hd)]).map Hd.t ++ (rdTs l m (p3, 0)).1 = X.1) := fun u => by
            rw [← hx1]; simp
          have HN2 : Hid ((rdTs l m (p3, 0)).2 = X.2) := hx2
          clear hx1 hx2
          go_wp2_with (first
            | (go_at_call 83; refine hb.mono ?_; rintro r w5 ⟨u5, rfl, hO5, h5, hg5⟩; obtain ⟨ua, uc, rfl, -, -⟩ := hO5.shape; obtain ⟨y0, y1, y2, -, -⟩ := h5.rrd.cells; have hH5 := HH.out.turn hg5 HQ.out; have hrow := hH5.row.alloc (.cells #[.slice ua t.length uc] 23); have hz5 := h5.bel.size)
            | (at_builtin; refine wpList_append_own _ rfl _ _ 32 rfl w.heap.size 23 i0 (.slice none 0 0) 1 24 Try.underlying32 hi hz0 hz1 hz2 rfl (by decide) _ hs.length (hs.map Hd.x) rfl hrow ⟨w5.heap.size, 0, none⟩ 1 1 [.slice ua t.length uc] rfl rfl (cell_one _ _ _) (by intro u hu; simp at hu; subst hu; rfl) (by unfold maxLen; omega) (by omega) (by simp; omega) ?_; intro v7 w7 hown7 hgrow7 _))
          have hO6 := (hO5.base (N' := w.heap.size) HSZ.out).alloc (.cells #[.slice ua t.length uc] 23)
          have hH7 := (hH5.alloc (.cells #[.slice ua t.length uc] 23)).push (e := ⟨.slice ua t.length uc, t⟩) hO6 hown7 hgrow7
          have hB6 : Below w5.heap.size w5 (w5.alloc (.cells #[.slice ua t.length uc] 23)) := (Below.refl _ w5).alloc (Nat.le_refl _) _
          have hR7 := (h5.mono hB6).grown hrow (Nat.le_refl _) hgrow7
          obtain ⟨va7, vc7, rfl⟩ := ownsRow_shape hown7
          refine ⟨⟨j + 1, p3, 0, vc7, va7, hs ++ [⟨.slice ua t.length uc, t⟩], by go_num, by simp, by omega, by simpa using hH7, by simp; omega, ?_, hR7, ?_, ?_⟩, by simp [intOf]; omega⟩
          · intro h hh
            rcases List.mem_append.1 hh with hh | hh
            · exact HHT.out h hh
            · obtain rfl := List.mem_singleton.1 hh
              exact htl
          · rw [HM.out]; exact HN1.out _
          · rw [HM.out]; exact HN2.out
        · have hke : ((e4 : Int) == 0) = false := by simp; omega
          simp only [h4, not_false_iff, if_true] at hx1 hx2
          have HN1 : Hid (hs.map Hd.t ++ (rdTs l m (p3, e4)).1 = X.1) := by
            show hs.map Hd.t ++ (rdTs l m (p3, e4)).1 = X.1
            rw [rdTs_bad l m p3 e4 h4]; exact hx1
          have HN2 : Hid ((rdTs l m (p3, e4)).2 = X.2) := by
            show (rdTs l m (p3, e4)).2 = X.2
            rw [rdTs_bad l m p3 e4 h4]; exact hx2
          have hp3 : p3 = p2 := by
            have := H3.out
            simp only [rdB, Prod.mk.injEq] at this
            rcases takeAt_cases l p2 0 1048576 with ⟨x, hx, h⟩ | ⟨t', q, hq, h⟩
            · rw [h] at this; simp only at this; omega
            · rw [h] at this; simp only at this; omega
          clear hx1 hx2
          go_wp2_with (go_at_call 83; refine hb.mono ?_; rintro r w5 ⟨u5, rfl, hO5, h5, hg5⟩; obtain ⟨ua, uc, rfl, -, -⟩ := hO5.shape; obtain ⟨y0, y1, y2, -, -⟩ := h5.rrd.cells)
          have hH5 := HH.out.turn hg5 HQ.out
          refine ⟨⟨j + 1, p3, e4, vc, va, hs, by go_num, rfl, by omega, hH5, by omega, HHT.out, h5, ?_, ?_⟩, by simp [intOf]; omega⟩
          · rw [HM.out]; exact HN1.out
          · rw [HM.out]; exact HN2.out
      · have HF : Hid (hs.map Hd.t = X.1 ∧ (p2, e3) = X.2) := by
          have hx1 := HX1.out
          have hx2 := HX2.out
          have e0 : rdTs l (n - j) (p2, e3) = ([], (p2, e3)) := by
            by_cases h3 : e3 = 0
            · have : n - j = 0 := by omega
              rw [this]; rfl
            · exact rdTs_bad l _ p2 e3 h3
          rw [e0] at hx1 hx2
          exact ⟨by simpa using hx1, hx2⟩
        have HR : Hid (Rp w wr w.heap.size (.slice xa l.length xc) l p2 e3) := hR
        have HH : Hid (HdsOw w.heap.size wr (.slice va hs.length vc) hs) := hH
        have hend : hs.length ≤ 1000000 := by omega
        by_cases hlt : j < n
        · have he3 : ¬ e3 = 0 := fun h => hgo ⟨hlt, h⟩
          have hke : ((e3 : Int) == 0) = false := by simp; omega
          clear hR hH hgo
          go_wp2
          go_ret3
          exact ⟨va, vc, hs, _, rfl, HH.out, HF.out.1, HHT.out, hend, by rw [← HF.out.2]; exact HR.out⟩
        · clear hR hH hgo
          go_wp2
          go_ret3
          exact ⟨va, vc, hs, _, rfl, HH.out, HF.out.1, HHT.out, hend, by rw [← HF.out.2]; exact HR.out⟩
  · have h2 : Rp w w1 w.heap.size (.slice xa l.length xc) l p1 e2 := by rw [HEN.out (by omega)]; exact h1
    clear hq h1
    go_wp2_with fail
    go_loopw [9, 10, 11] (fun tv iv _ wr => ∃ (j p2 e3 vc : Nat) (va : Option Addr) (hs : List Hd), iv = .int .i64 (j : Int) ∧ tv = .slice va hs.length vc ∧ j ≤ n ∧ HdsOw w.heap.size wr (.slice va hs.length vc) hs ∧ hs.length ≤ p2 ∧ (∀ h ∈ hs, h.t.length ≤ 1000000) ∧ Rp w wr w.heap.size (.slice xa l.length xc) l p2 e3 ∧ hs.map Hd.t ++ (rdTs l (n - j) (p2, e3)).1 = X.1 ∧ (rdTs l (n - j) (p2, e3)).2 = X.2) (fun _ iv _ _ => n - (intOf iv).toNat)
    case atStart => exact ⟨0, p1, e2, 0, none, [], rfl, rfl, Nat.zero_le _, HdsOw.nil _ _, Nat.zero_le _, by simp, h2, by simp [HX.out], by simp [HX.out]⟩
    case round =>
      obtain ⟨j, p2, e3, vc, va, hs, rfl, rfl, hj, hH, hhl, hht, hR, hX1, hX2⟩ := hrel
      have HX1 : Hid (hs.map Hd.t ++ (rdTs l (n - j) (p2, e3)).1 = X.1) := hX1
      have HX2 : Hid ((rdTs l (n - j) (p2, e3)).2 = X.2) := hX2
      have HHT : Hid (∀ h ∈ hs, h.t.length ≤ 1000000) := hht
      clear hX1 hX2 hht h2
      have hple := hR.le
      obtain ⟨k0, k1, k2, f1, f2⟩ := hR.rrd.cells
      by_cases hgo : j < n ∧ e3 = 0
      · obtain ⟨hlt, rfl⟩ := hgo
        obtain ⟨m, hm1⟩ : ∃ m, n - j = m + 1 := ⟨n - j - 1, by omega⟩
        have HM : Hid (n - (j + 1) = m) := by show n - (j + 1) = m; omega
        obtain ⟨t, p3, e4, H3⟩ : ∃ t p3 e4, Hid (rdB l 1048576 (p2, 0) = (t, (p3, e4))) := ⟨_, _, _, rfl⟩
        have hx1 := HX1.out
        have hx2 := HX2.out
        rw [hm1, HD.out] at hx1 hx2
        simp only [H3.out, ne_eq, not_true, if_false] at hx1 hx2
        have hb := rpBg hR H3
        have HQ : Hid (wr.heap[w.heap.size]? = some (.cells #[.slice xa l.length xc, .int .i64 (p2 : Int), .int .i64 ((0 : Nat) : Int)] 135 (0, 0))) := hR.rrd.at0
        have HH : Hid (HdsOw w.heap.size wr (.slice va hs.length vc) hs) := hH
        have HSZ : Hid (w.heap.size ≤ wr.heap.size) := hR.bel.size
        have htl : t.length ≤ 1000000 := by have := rdB_len l 1048576 (p2, 0); rw [H3.out] at this; simp only at this; omega
        clear hH hR hm1
        by_cases h4 : e4 = 0
        · subst h4
          have hp23 : p2 < p3 ∧ p3 ≤ l.length := by
            have hle := rdB_le l 1048576 (p2, 0) hple
            rw [H3.out] at hle
            simp only at hle
            refine ⟨?_, hle⟩
            have := H3.out
            simp only [rdB, Prod.mk.injEq] at this
            rcases takeAt_cases l p2 0 1048576 with ⟨x, hx, h⟩ | ⟨t', q, hq, h⟩
            · rw [h] at this; exact absurd this.2.2 hx
            · rw [h] at this; simp only at this; omega
          simp only [not_true, if_false] at hx1 hx2
          have HN1 : Hid (∀ u, (hs ++ [(⟨u, t⟩ : Hd)]).map Hd.t ++ (rdTs l m (p3, 0)).1 = X.1) := fun u => by
            rw [← hx1]; simp
          have HN2 : Hid ((rdTs l m (p3, 0)).2 = X.2) := hx2
          clear hx1 hx2
          go_wp2_with (first
            | (go_at_call 83; refine hb.mono ?_; rintro r w5 ⟨u5, rfl, hO5, h5, hg5⟩; obtain ⟨ua, uc, rfl, -, -⟩ := hO5.shape; obtain ⟨y0, y1, y2, -, -⟩ := h5.rrd.cells; have hH5 := HH.out.turn hg5 HQ.out; have hrow := hH5.row.alloc (.cells #[.slice ua t.length uc] 23); have hz5 := h5.bel.size)
            | (at_builtin; refine wpList_append_own _ rfl _ _ 32 rfl w.heap.size 23 i0 (.slice none 0 0) 1 24 Try.underlying32 hi hz0 hz1 hz2 rfl (by decide) _ hs.length (hs.map Hd.x) rfl hrow ⟨w5.heap.size, 0, none⟩ 1 1 [.slice ua t.length uc] rfl rfl (cell_one _ _ _) (by intro u hu; simp at hu; subst hu; rfl) (by unfold maxLen; omega) (by omega) (by simp; omega) ?_; intro v7 w7 hown7 hgrow7 _))
          have hO6 := (hO5.base (N' := w.heap.size) HSZ.out).alloc (.cells #[.slice ua t.length uc] 23)
          have hH7 := (hH5.alloc (.cells #[.slice ua t.length uc] 23)).push (e := ⟨.slice ua t.length uc, t⟩) hO6 hown7 hgrow7
          have hB6 : Below w5.heap.size w5 (w5.alloc (.cells #[.slice ua t.length uc] 23)) := (Below.refl _ w5).alloc (Nat.le_refl _) _
          have hR7 := (h5.mono hB6).grown hrow (Nat.le_refl _) hgrow7
          obtain ⟨va7, vc7, rfl⟩ := ownsRow_shape hown7
          refine ⟨⟨j + 1, p3, 0, vc7, va7, hs ++ [⟨.slice ua t.length uc, t⟩], by go_num, by simp, by omega, by simpa using hH7, by simp; omega, ?_, hR7, ?_, ?_⟩, by simp [intOf]; omega⟩
          · intro h hh
            rcases List.mem_append.1 hh with hh | hh
            · exact HHT.out h hh
            · obtain rfl := List.mem_singleton.1 hh
              exact htl
          · rw [HM.out]; exact HN1.out _
          · rw [HM.out]; exact HN2.out
        · have hke : ((e4 : Int) == 0) = false := by simp; omega
          simp only [h4, not_false_iff, if_true] at hx1 hx2
          have HN1 : Hid (hs.map Hd.t ++ (rdTs l m (p3, e4)).1 = X.1) := by
            show hs.map Hd.t ++ (rdTs l m (p3, e4)).1 = X.1
            rw [rdTs_bad l m p3 e4 h4]; exact hx1
          have HN2 : Hid ((rdTs l m (p3, e4)).2 = X.2) := by
            show (rdTs l m (p3, e4)).2 = X.2
            rw [rdTs_bad l m p3 e4 h4]; exact hx2
          have hp3 : p3 = p2 := by
            have := H3.out
            simp only [rdB, Prod.mk.injEq] at this
            rcases takeAt_cases l p2 0 1048576 with ⟨x, hx, h⟩ | ⟨t', q, hq, h⟩
            · rw [h] at this; simp only at this; omega
            · rw [h] at this; simp only at this; omega
          clear hx1 hx2
          go_wp2_with (go_at_call 83; refine hb.mono ?_; rintro r w5 ⟨u5, rfl, hO5, h5, hg5⟩; obtain ⟨ua, uc, rfl, -, -⟩ := hO5.shape; obtain ⟨y0, y1, y2, -, -⟩ := h5.rrd.cells)
          have hH5 := HH.out.turn hg5 HQ.out
          refine ⟨⟨j + 1, p3, e4, vc, va, hs, by go_num, rfl, by omega, hH5, by omega, HHT.out, h5, ?_, ?_⟩, by simp [intOf]; omega⟩
          · rw [HM.out]; exact HN1.out
          · rw [HM.out]; exact HN2.out
      · have HF : Hid (hs.map Hd.t = X.1 ∧ (p2, e3) = X.2) := by
          have hx1 := HX1.out
          have hx2 := HX2.out
          have e0 : rdTs l (n - j) (p2, e3) = ([], (p2, e3)) := by
            by_cases h3 : e3 = 0
            · have : n - j = 0 := by omega
              rw [this]; rfl
            · exact rdTs_bad l _ p2 e3 h3
          rw [e0] at hx1 hx2
          exact ⟨by simpa using hx1, hx2⟩
        have HR : Hid (Rp w wr w.heap.size (.slice xa l.length xc) l p2 e3) := hR
        have HH : Hid (HdsOw w.heap.size wr (.slice va hs.length vc) hs) := hH
        have hend : hs.length ≤ 1000000 := by omega
        by_cases hlt : j < n
        · have he3 : ¬ e3 = 0 := fun h => hgo ⟨hlt, h⟩
          have hke : ((e3 : Int) == 0) = false := by simp; omega
          clear hR hH hgo
          go_wp2
          go_ret3
          exact ⟨va, vc, hs, _, rfl, HH.out, HF.out.1, HHT.out, hend, by rw [← HF.out.2]; exact HR.out⟩
        · clear hR hH hgo
          go_wp2
          go_ret3
          exact ⟨va, vc, hs, _, rfl, HH.out, HF.out.1, HHT.out, hend, by rw [← HF.out.2]; exact HR.out⟩


theorem dropTs {l : List (List UInt8)} {k : Nat} (h : k < l.length) : l.drop k = l.getD k [] :: l.drop (k + 1) := by
  rw [List.drop_eq_getElem_cons h, List.getD_eq_getElem?_getD, List.getElem?_eq_getElem h]; rfl
theorem EntsOw.below {N M : Nat} {w w' : World} {v : Value} {es : List Ent} (h : EntsOw N w v es) (hB : Below M w w') (hM : w.heap.size ≤ M) : EntsOw N w' v es :=
  ⟨h.row.kept (row := none) ⟨hB.os, hB.tape, hB.output, hB.size, fun k hk _ => hB.block k (by omega)⟩ (by cases v.ownBlock <;> simp), fun x hx => (h.dat x hx).below hB hM⟩

set_option maxRecDepth 100000 in
set_option maxHeartbeats 8000000 in
theorem read_any (l : List UInt8) (most : Int) (x : Value) (w : World) (M : Nat) (hx : Sl M w x l) (hM : M ≤ w.heap.size) (hl : l.length ≤ 1000000) :
    Calls Try.prog 14 #[x, .int .i64 most] w fun r w' => r = .returned (.bool true) ∧ Below w.heap.size w w' := by
  have hgl := getListE_any l most x w M hx hM hl
  rw [(gl_ts l most).1, (gl_ts l most).2] at hgl
  have hts := fun w1 (hB : Below w.heap.size w w1) => tsRead_any l most x w1 M (hx.below (hB.mono hM)) (by have := hB.size; omega) hl
  obtain ⟨X, HX⟩ : ∃ X, Hid (tsX l most = X) := ⟨_, rfl⟩
  obtain ⟨F, HF⟩ : ∃ F, Hid (tsE l most = F) := ⟨_, rfl⟩
  obtain ⟨S, HS⟩ : ∃ S, Hid (tsS l most = S) := ⟨_, rfl⟩
  rw [HF.out, HS.out] at hgl
  rw [HX.out] at hts
  have HFX : Hid (F = if (dec X.1).1 ≠ 0 then (dec X.1).1 else doneE l X.2.1 X.2.2) := by
    show F = _
    rw [← HF.out, ← HX.out]; rfl
  have HSX : Hid (S = if F = 0 then saysN (dec X.1).2 else []) := by
    show S = _
    rw [← HS.out, ← HF.out, ← HX.out]; rfl
  obtain ⟨xa, xc, rfl, -⟩ := id hx
  obtain ⟨i0, hi, hz0, hz1, hz2⟩ := info_parts info24
  clear hx
  go_enter Try.func14, Try.ntmps14
  go_wp2_with fail
  refine hgl.mono ?_
  rintro e w1 ⟨ga, gc, gs, rfl, hG, hgs, hgl1, hB1⟩
  have HG : Hid (EntsAt w1.heap.size w1 ga gs) := hG
  have HGS : Hid (saysOf gs = S) := hgs
  have HB1 : Hid (Below w.heap.size w w1) := hB1
  clear hG hgs hgl
  go_wp2_with fail
  refine (hts w1 hB1).mono ?_
  rintro e w2 ⟨ta, tc, hs, nv, rfl, hH, ht, htl, hhl, hR⟩
  have HT : Hid (TsAt w2.heap.size w2 ta X.1) := hH.at ht
  have HTL : Hid (∀ i, i < hs.length → (X.1.getD i []).length ≤ 1000000) := fun i hi => by
    rw [← ht]
    simp only [List.getD_eq_getElem?_getD, List.getElem?_map, List.getElem?_eq_getElem hi, Option.map_some, Option.getD_some]
    exact htl _ (List.getElem_mem hi)
  have HXL : Hid (X.1.length = hs.length) := by show X.1.length = hs.length; rw [← ht]; simp
  have HR : Hid (Rp w1 w2 w1.heap.size (.slice xa l.length xc) l X.2.1 X.2.2) := hR
  have HB2 : Hid (Below w1.heap.size w1 w2) := hR.bel
  have HB2w : Hid (Below w.heap.size w w2) := hB1.trans (hR.bel.mono hB1.size)
  clear hts hB1 hH ht htl hR
  go_wp2_with fail
  go_loopw [10, 11, 12] (fun wv fv iv wr => ∃ (j f vc : Nat) (va : Option Addr) (es : List Ent), iv = .int .i64 (j : Int) ∧ fv = .int .i64 (f : Int) ∧ wv = .slice va es.length vc ∧ j ≤ hs.length ∧ EntsOw w2.heap.size wr (.slice va es.length vc) es ∧ es.length = j ∧ Below w2.heap.size w2 wr ∧ (f = 0 → (dec (X.1.drop j)).1 = (dec X.1).1 ∧ es.map Ent.says ++ saysN (dec (X.1.drop j)).2 = saysN (dec X.1).2) ∧ (f ≠ 0 → (dec X.1).1 = f)) (fun _ _ iv _ => hs.length - (intOf iv).toNat)
  case atStart => exact ⟨0, 0, 0, none, [], rfl, rfl, rfl, Nat.zero_le _, EntsOw.nil _ _, rfl, Below.refl _ _, fun _ => ⟨rfl, rfl⟩, fun h => absurd rfl h⟩
  case round =>
    obtain ⟨j, f, vc, va, es, rfl, rfl, rfl, hj, hE, hel, hB, hq1, hq2⟩ := hrel
    have HE : Hid (EntsOw w2.heap.size wr (.slice va es.length vc) es) := hE
    have HEL : Hid (es.length = j) := hel
    have HB : Hid (Below w2.heap.size w2 wr) := hB
    have HQ1 : Hid (f = 0 → (dec (X.1.drop j)).1 = (dec X.1).1 ∧ es.map Ent.says ++ saysN (dec (X.1.drop j)).2 = saysN (dec X.1).2) := hq1
    have HQ2 : Hid (f ≠ 0 → (dec X.1).1 = f) := hq2
    have hz2w := hB.size
    clear hE hel hq1 hq2
    by_cases hgo : j < hs.length ∧ f = 0
    · obtain ⟨hlt, rfl⟩ := hgo
      have hlX : j < X.1.length := by rw [HXL.out]; exact hlt
      obtain ⟨b, off, hta, hb, ya, yc, hc, hS⟩ := HT.out.at hlX
      subst hta
      have c0 := (hB.cell (p := ⟨b, off + j, none⟩) hb).trans hc
      have hS' := hS.below hB
      have hbl := HTL.out j hlt
      have HDR : Hid (X.1.drop j = X.1.getD j [] :: X.1.drop (j + 1)) := dropTs hlX
      have hq := (HQ1.out rfl)
      rw [HDR.out] at hq
      generalize X.1.getD j [] = t at *
      have hp := refGetEntryP_any t _ w2.heap.size wr hS' hz2w hbl
      obtain ⟨GE, hGE⟩ : ∃ GE, geEntry t = GE := ⟨_, rfl⟩
      obtain ⟨G, hGG⟩ : ∃ G, goEntry t = G := ⟨_, rfl⟩
      simp only [dec, hGE, hGG] at hq
      rw [hGE, hGG] at hp
      obtain ⟨G0, G1, G2, G3⟩ := G
      simp only at hp
      have HN1 : Hid (GE = 0 → (dec (X.1.drop (j + 1))).1 = (dec X.1).1 ∧ ∀ ua uc, (es ++ [(⟨(G0 : Int), (G1 : Int), (G2 : Int), ua, uc, G3⟩ : Ent)]).map Ent.says ++ saysN (dec (X.1.drop (j + 1))).2 = saysN (dec X.1).2) := fun h0 => by
        rw [if_neg (by simp [h0])] at hq
        refine ⟨hq.1, fun ua uc => ?_⟩
        have := hq.2
        simp only [saysN, List.map_cons, List.map_append, List.map_nil, Ent.says, List.append_assoc, List.cons_append, List.nil_append] at this ⊢
        exact this
      have HN2 : Hid (GE ≠ 0 → (dec X.1).1 = GE) := fun h0 => by
        rw [if_pos h0] at hq
        exact hq.1.symm
      have hi0 : (0 : Int) ≤ (j : Int) := by omega
      have hi1 : (j : Int) < (hs.length : Int) := by omega
      have HJ : Hid (es.length ≤ 1000000) := by show es.length ≤ 1000000; have := HEL.out; omega
      clear hc hS hS' hq hGE hGG hbl hlX hB
      go_wp2_with (first
        | (go_at_call 41; refine hp.mono ?_; rintro r w5 ⟨u5, rfl, hO5, hB5⟩; obtain ⟨ua, uc, rfl, -, -⟩ := hO5.shape; have hE5 := HE.out.below hB5 (Nat.le_refl _); have hz5 := hB5.size)
        | (at_builtin; refine wpList_append_own _ rfl _ _ 22 rfl w2.heap.size 26 i0 (.agg #[.int .i64 0, .int .i64 0, .int .i64 0, .slice none 0 0]) 4 48 Try.underlying22 hi hz0 hz1 hz2 rfl (by decide) _ es.length (entCells es) rfl ((((hE5).row.alloc _).alloc _)) ⟨w5.heap.size + 1, 0, none⟩ 1 1 [.int .i64 (G0 : Int), .int .i64 (G1 : Int), .int .i64 (G2 : Int), .slice ua G3.length uc] rfl rfl (by simpa using cell_four_new (w5.alloc (.cells #[.int .i64 (G0 : Int), .int .i64 (G1 : Int), .int .i64 (G2 : Int), .slice ua G3.length uc] 26)) _ _ _ _ 26) (by intro u hu; simp at hu; rcases hu with rfl | rfl | rfl | rfl <;> rfl) (by have := HJ.out; unfold maxLen; omega) (by have := HJ.out; omega) (by simp; omega) ?_; intro v7 w7 hown7 hgrow7 _))
      have hE6 := ((hE5).alloc (.cells #[.int .i64 (G0 : Int), .int .i64 (G1 : Int), .int .i64 (G2 : Int), .slice ua G3.length uc] 26)).alloc (.cells #[.int .i64 (G0 : Int), .int .i64 (G1 : Int), .int .i64 (G2 : Int), .slice ua G3.length uc] 26)
      have hO6 := ((hO5.base (N' := w2.heap.size) hz2w).alloc (.cells #[.int .i64 (G0 : Int), .int .i64 (G1 : Int), .int .i64 (G2 : Int), .slice ua G3.length uc] 26)).alloc (.cells #[.int .i64 (G0 : Int), .int .i64 (G1 : Int), .int .i64 (G2 : Int), .slice ua G3.length uc] 26)
      have hE7 := hE6.push (e := ⟨(G0 : Int), (G1 : Int), (G2 : Int), ua, uc, G3⟩) hO6 hown7 hgrow7
      have hB6 : Below w5.heap.size w5 ((w5.alloc (.cells #[.int .i64 (G0 : Int), .int .i64 (G1 : Int), .int .i64 (G2 : Int), .slice ua G3.length uc] 26)).alloc (.cells #[.int .i64 (G0 : Int), .int .i64 (G1 : Int), .int .i64 (G2 : Int), .slice ua G3.length uc] 26)) := (((Below.refl _ w5).alloc (Nat.le_refl _) _).alloc (by simp) _)
      have hB7 : Below w2.heap.size w2 w7 := ((HB.out.trans (hB5.mono hz2w)).trans (hB6.mono (by omega))).grown hgrow7 (by simp; omega) (fun k hk => (hE6.row.lt k hk).1)
      obtain ⟨va7, vc7, rfl⟩ := ownsRow_shape hown7
      exact ⟨⟨j + 1, GE, vc7, va7, es ++ [⟨(G0 : Int), (G1 : Int), (G2 : Int), ua, uc, G3⟩], by go_num, rfl, by simp, by omega, by simpa using hE7, by simp [HEL.out], hB7, fun h0 => ⟨(HN1.out h0).1, (HN1.out h0).2 ua uc⟩, HN2.out⟩, by simp [intOf]; omega⟩
    · have HG2 : Hid (∀ w', Below wr.heap.size wr w' → EntsAt w'.heap.size w' ga gs) := fun w' hB' => by
        have b1 : Below w1.heap.size w1 wr := HB2.out.trans (HB.out.mono HB2.out.size)
        have b2 := b1.trans (hB'.mono b1.size)
        exact (HG.out.below b2).mono b2.size
      have HBW : Hid (Below w.heap.size w wr) := HB2w.out.trans (HB.out.mono HB2w.out.size)
      by_cases hf : f = 0
      · subst hf
        have hje : j = hs.length := by omega
        have hq := HQ1.out rfl
        rw [List.drop_eq_nil_of_le (by rw [HXL.out]; omega)] at hq
        have HD0 : Hid ((dec X.1).1 = 0 ∧ es.map Ent.says = saysN (dec X.1).2) := ⟨hq.1.symm, by simpa [dec, saysN] using hq.2⟩
        have hdn := rpDone_any (HR.out.mono (by exact HB.out))
        have HFD : Hid (doneE l X.2.1 X.2.2 = F) := by
          show doneE l X.2.1 X.2.2 = F
          have := HFX.out
          rw [HD0.out.1] at this
          simpa using this.symm
        rw [HFD.out] at hdn
        have hnj : ¬ j < hs.length := by omega
        have hnj' : decide ((j : Int) < (hs.length : Int)) = false := by simp; omega
        clear hq hgo hB
        by_cases hF0 : F = 0
        · have HSS : Hid (S = saysOf es) := by
            show S = saysOf es
            rw [HSX.out, if_pos hF0]; exact HD0.out.2.symm
          subst hF0
          go_wp2_with (first
            | (go_at_call 42; refine hdn.mono ?_; rintro e w3 ⟨rfl, hB3⟩; have hsm := sameEntries_any ga va gc vc gs es w3.heap.size w3 (HG2.out w3 hB3) ((HE.out.below hB3 (Nat.le_refl _)).at2) (Nat.le_refl _) hgl1; rw [show decide (saysOf gs = saysOf es) = true by rw [HGS.out, HSS.out]; simp] at hsm)
            | (go_at_call 43; refine hsm.mono ?_; rintro e w4 ⟨rfl, hB4⟩)
            | (go_at_call 13; refine (num_any _ _).mono ?_; rintro e wz ⟨rfl, hwz⟩; rw [hwz]; clear hwz))
          go_ret
          exact ⟨rfl, HBW.out.trans ((hB3.trans (hB4.mono hB3.size)).mono HBW.out.size)⟩
        · have HSS : Hid (S = []) := by
            show S = []
            rw [HSX.out, if_neg hF0]
          have hke : ((F : Int) != 0) = true := by simp; omega
          go_wp2_with (first
            | (go_at_call 42; refine hdn.mono ?_; rintro e w3 ⟨rfl, hB3⟩; have hsm := sameEntries_any ga none gc 0 gs [] w3.heap.size w3 (HG2.out w3 hB3) (.inl rfl) (Nat.le_refl _) hgl1; rw [show decide (saysOf gs = saysOf []) = true by rw [HGS.out, HSS.out]; rfl] at hsm; simp only [List.length_nil] at hsm)
            | (go_at_call 43; refine hsm.mono ?_; rintro e w4 ⟨rfl, hB4⟩)
            | (go_at_call 13; refine (num_any _ _).mono ?_; rintro e wz ⟨rfl, hwz⟩; rw [hwz]; clear hwz))
          go_ret
          exact ⟨rfl, HBW.out.trans ((hB3.trans (hB4.mono hB3.size)).mono HBW.out.size)⟩
      · have hfx := HQ2.out hf
        have HFF : Hid (F = f) := by
          show F = f
          rw [HFX.out, hfx, if_pos hf]
        have HSS : Hid (S = []) := by
          show S = []
          rw [HSX.out, HFF.out, if_neg hf]
        have hke : ((f : Int) != 0) = true := by simp; omega
        have hke2 : ((f : Int) == 0) = false := by simp; omega
        have hsm := sameEntries_any ga none gc 0 gs [] wr.heap.size wr (HG2.out wr (Below.refl _ _)) (.inl rfl) (Nat.le_refl _) hgl1
        rw [show decide (saysOf gs = saysOf []) = true by rw [HGS.out, HSS.out]; rfl] at hsm
        simp only [List.length_nil] at hsm
        have hFf := HFF.out
        subst hFf
        clear hfx hgo hB hf
        by_cases hlt : j < hs.length
        · have hlt' : decide ((j : Int) < (hs.length : Int)) = true := by simp; omega
          go_wp2_with (first
            | (go_at_call 43; refine hsm.mono ?_; rintro e w4 ⟨rfl, hB4⟩)
            | (go_at_call 13; refine (num_any _ _).mono ?_; rintro e wz ⟨rfl, hwz⟩; rw [hwz]; clear hwz))
          go_ret
          exact ⟨rfl, HBW.out.trans (hB4.mono HBW.out.size)⟩
        · have hlt' : decide ((j : Int) < (hs.length : Int)) = false := by simp; omega
          go_wp2_with (first
            | (go_at_call 43; refine hsm.mono ?_; rintro e w4 ⟨rfl, hB4⟩)
            | (go_at_call 13; refine (num_any _ _).mono ?_; rintro e wz ⟨rfl, hwz⟩; rw [hwz]; clear hwz))
          go_ret
          exact ⟨rfl, HBW.out.trans (hB4.mono HBW.out.size)⟩


theorem sl_long {N : Nat} {W : World} {v : Value} {l : List UInt8} (h : Sl N W v l) : l.length ≤ 9223372036854775807 := by
  obtain ⟨_, _, _, h1, h2, _⟩ := h
  unfold maxLen at h2
  omega
theorem fk_cks (es : List Ent) : fk (es.map Ent.ck) = firstErr es := by
  induction es with
  | nil => rfl
  | cons e r ih => simp [fk, firstErr, ih]
theorem packT_pts {es : List Ent} (h : ∀ e ∈ es, e.ck = 0) : packT (es.map Ent.pt) = packs es := by
  induction es with
  | nil => rfl
  | cons e r ih =>
    have h1 := h e (by simp)
    simp only [List.map_cons, packT, packs]
    rw [ih (fun x hx => h x (by simp [hx])), show e.pt = e.tx by unfold Ent.pt; rw [if_pos h1]]
theorem ptE_pe (most : Int) (es : List Ent) : ptE most (es.map Ent.pt) (es.map Ent.ck) = peE most es := by
  unfold ptE peE
  rw [fk_cks, List.length_map]
theorem ptT_pe (most : Int) (es : List Ent) : ptT most (es.map Ent.pt) (es.map Ent.ck) = peT most es := by
  unfold ptT peT
  rw [ptE_pe, List.length_map]
  by_cases h : peE most es = 0
  · rw [if_pos h, if_pos h]
    have h2 : firstErr es = 0 := by
      unfold peE at h
      split at h
      · cases h
      · exact h
    rw [packT_pts (firstErr_all h2)]
  · rw [if_neg h, if_neg h]
theorem pt_len {es : List Ent} : ∀ t ∈ es.map Ent.pt, t.length ≤ 5000 := by
  intro t ht
  obtain ⟨e, -, rfl⟩ := List.mem_map.1 ht
  unfold Ent.pt
  by_cases h : e.ck = 0
  · rw [if_pos h]; have := ent_len h; omega
  · rw [if_neg h]; simp
theorem peT_len (most : Int) (es : List Ent) (hn : es.length ≤ 100) : (peT most es).length ≤ 1000000 := by
  unfold peT
  by_cases h : peE most es = 0
  · rw [if_pos h]
    have h2 : firstErr es = 0 := by
      unfold peE at h
      split at h
      · cases h
      · exact h
    have := packs_len (firstErr_all h2)
    have := numB_len es.length
    simp
    omega
  · rw [if_neg h]; simp

set_option maxRecDepth 100000 in
set_option maxHeartbeats 20000000 in
theorem codecLists_walk (a : Option Addr) (ca : Nat) (es : List Ent) (limit : Int) (xa : Option Addr) (xc : Nat) (l : List UInt8) (w : World) (hE : EntsAt w.heap.size w a es) (hx : Sl w.heap.size w (.slice xa l.length xc) l) (hl : es.length ≤ 9223372036854775807) :
    Calls Try.prog 3 #[.slice a es.length ca, .int .i64 limit, .slice xa l.length xc] w fun e w' => e = .returned (.bool true) ∧ Below w.heap.size w w' := by
  have HE : Hid (EntsAt w.heap.size w a es) := hE
  have HX : Hid (Sl w.heap.size w (.slice xa l.length xc) l) := hx
  have hlx := sl_long hx
  clear hE hx
  go_enter Try.func3, Try.ntmps3
  go_wp2_with fail
  refine (first_any w).mono ?_
  rintro e w1 ⟨rfl, hB1⟩
  have HB1 : Hid (Below w.heap.size w w1) := hB1
  clear hB1
  go_wp2
  go_loopw [8, 9] (fun sv iv wr => ∃ (k : Nat) (m : Int), iv = .int .i64 (k : Int) ∧ sv = .int .i64 m ∧ k ≤ es.length ∧ Below w.heap.size w wr) (fun _ iv _ => es.length - (intOf iv).toNat)
  case atStart => exact ⟨0, 0, rfl, rfl, Nat.zero_le _, HB1.out⟩
  case round =>
    obtain ⟨k, m, rfl, rfl, hk, hB⟩ := hrel
    have HB : Hid (Below w.heap.size w wr) := hB
    by_cases hlt : k < es.length
    · have hi0 : (k : Int) < (es.length : Int) := by omega
      obtain ⟨b, off, rfl, hb, ho⟩ := HE.out.at hlt
      obtain ⟨c0, c1, c2, c3, c4⟩ := ho.below hb hB
      have q1 := sl_long c4
      generalize es.getD k nilEnt = e at *
      obtain ⟨et, ei, ek, eaa, ecc, ed⟩ := e
      unfold Ent.x at c3
      simp only at c0 c1 c2 c3 q1
      clear ho hB c4 c0 c1 c2
      have hk0 : (0 : Int) ≤ (k : Int) := by omega
      rcases Int.lt_or_le 20000 (ed.length : Int) with h1 | h1
      all_goals (go_wp2; exact ⟨⟨k + 1, _, by go_num, rfl, by omega, HB.out.trans ⟨rfl, rfl, rfl, Nat.le_refl _, fun _ _ => rfl⟩⟩, by simp [intOf]; omega⟩)
    · have hi0 : decide ((k : Int) < (es.length : Int)) = false := by simp; omega
      clear hB
      by_cases h100 : (100 : Int) < (es.length : Int)
      · go_wp2
        go_ret
        exact ⟨rfl, HB.out⟩
      have h100' : decide ((100 : Int) < (es.length : Int)) = false := by simpa using h100
      by_cases hmm : (20000 : Int) < m
      · go_wp2
        go_ret
        exact ⟨rfl, HB.out⟩
      have hmm' : decide ((20000 : Int) < m) = false := by simpa using hmm
      by_cases hbb : (20000 : Int) < (l.length : Int)
      · go_wp2
        go_ret
        exact ⟨rfl, HB.out⟩
      have hbb' : decide ((20000 : Int) < (l.length : Int)) = false := by simpa using hbb
      have hn : es.length ≤ 100 := by omega
      have hl20 : l.length ≤ 1000000 := by omega
      have hpl := putListE_any a ca es limit wr w.heap.size (HE.out.below HB.out) HB.out.size hn
      have HPL : Hid ((peT limit es).length ≤ 1000000) := peT_len limit es hn
      go_wp2_with fail
      refine hpl.mono ?_
      rintro e w2 ⟨t, rfl, hO2, hB2⟩
      have HB2 : Hid (Below w.heap.size w w2) := HB.out.trans (hB2.mono HB.out.size)
      have HO2 : Hid (Ow wr.heap.size w2 t (peT limit es)) := hO2
      obtain ⟨ta, tc, ht, -, -⟩ := hO2.shape
      subst ht
      clear hpl hO2 hB2
      have htx := texts_any a ca es w2 ((HE.out.below HB2.out).mono HB2.out.size) hn
      go_wp2_with fail
      refine htx.mono ?_
      rintro e w3 ⟨va, vc, ka, kc, hs, rfl, hH, hht, hK, hB3⟩
      have HB3 : Hid (Below w.heap.size w w3) := HB2.out.trans (hB3.mono HB2.out.size)
      have HO3 : Hid (Ow wr.heap.size w3 (.slice ta (peT limit es).length tc) (peT limit es)) := HO2.out.below hB3 (Nat.le_refl _)
      have hT := hH.at hht
      have hKs := ks_at hK
      have hpt := putTexts_any va ka vc kc (es.map Ent.pt) (es.map Ent.ck) limit w3 hT hKs (by simp) (by simpa using hn) pt_len
      rw [ptE_pe, ptT_pe, List.length_map] at hpt
      clear htx hH hht hK hB3 hT hKs
      go_wp2_with fail
      refine hpt.mono ?_
      rintro e w4 ⟨u, rfl, hS4, hB4⟩
      have HB4 : Hid (Below w.heap.size w w4) := HB3.out.trans (hB4.mono HB3.out.size)
      have HO4 : Hid (Ow wr.heap.size w4 (.slice ta (peT limit es).length tc) (peT limit es)) := HO3.out.below hB4 (Nat.le_refl _)
      have hsm := same_any w4.heap.size _ u _ _ w4 (HO4.out.sl (Nat.le_refl _)) hS4
      rw [show decide (peT limit es = peT limit es) = true from by simp] at hsm
      obtain ⟨ua, uc, hu, -⟩ := id hS4
      subst hu
      generalize peE limit es = E at *
      generalize peT limit es = P at *
      clear hpt hB4 hS4
      have hr1 := fun w' (hB : Below w.heap.size w w') => read_any l limit _ w' w.heap.size (HX.out.below hB) hB.size hl20
      go_wp2_with (first
        | (go_at_call 12; refine hsm.mono ?_; rintro e w5 ⟨rfl, nn, rfl⟩)
        | (go_at_call 13; refine (num_any _ _).mono ?_; rintro e wz ⟨rfl, hwz⟩; rw [hwz]; clear hwz))
      refine (hr1 (w4.drewN nn) (HB4.out.trans ⟨rfl, rfl, rfl, Nat.le_refl _, fun _ _ => rfl⟩)).mono ?_
      rintro e w6 ⟨rfl, hB6⟩
      have hO5 : Ow wr.heap.size (w4.drewN nn) (.slice ta P.length tc) P := HO4.out.below (B := w4.heap.size) ⟨rfl, rfl, rfl, Nat.le_refl _, fun _ _ => rfl⟩ (Nat.le_refl _)
      have hO6 := hO5.below hB6 (Nat.le_refl _)
      have hr2 := read_any P limit _ w6 w6.heap.size (hO6.sl (Nat.le_refl _)) (Nat.le_refl _) HPL.out
      clear hr1 hsm hO5 hO6
      go_wp2_with fail
      refine hr2.mono ?_
      rintro e w7 ⟨rfl, hB7⟩
      clear hr2
      go_wp2
      go_ret
      have b4 : Below w.heap.size w (w4.drewN nn) := HB4.out.trans ⟨rfl, rfl, rfl, Nat.le_refl _, fun _ _ => rfl⟩
      have b6 := b4.trans (hB6.mono b4.size)
      exact ⟨rfl, b6.trans (hB7.mono b6.size)⟩
end Go.Proofs.Ytfnnbfgfmbiabab
