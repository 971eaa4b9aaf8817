/-
  A line's words.
-/
import Derived.Test.YtbckogojnjmjcaaGreatDoorA5
namespace Go.Proofs.YtbckogojnjmjcaaGreatDoor
open Go.RowKit Go.Shelf

theorem SOw.below {N : Nat} {w w' : World} {v : Value} {l : List Bs} (h : SOw N w v l) (hB : Below w.heap.size w w') : SOw N w' v l := row_below h hB
/-- So far, and the rest. -/
structure Far (s : Bs) (done : List Bs) (rest : Bs) : Prop where
  to : ∀ ws, Ln rest ws → Ln s (done ++ ws)
  of : ∀ vs, Ln s vs → ∃ ws, vs = done ++ ws ∧ Ln rest ws
  head : rest.head? ≠ some 32
  len : done.length + rest.length ≤ s.length
theorem trim_head (s : Bs) : (Lib.trimLeftB s 32).head? ≠ some 32 := by
  unfold Lib.trimLeftB
  induction s with
  | nil => simp
  | cons c s ih =>
    by_cases h : c = 32
    · subst h; simpa using ih
    · simp [h]
theorem trim_len (s : Bs) : (Lib.trimLeftB s 32).length ≤ s.length := by
  unfold Lib.trimLeftB
  exact (List.dropWhile_sublist _).length_le
theorem Far.start (s : Bs) : Far s [] (Lib.trimLeftB s 32) := ⟨fun ws h => (Ln.trim s ws).1 h, fun vs h => ⟨vs, rfl, (Ln.trim s vs).2 h⟩, trim_head s, by have := trim_len s; simp; omega⟩
theorem Far.next {s : Bs} {done : List Bs} {rest t w r : Bs} (h : Far s done rest) (hw : Wd t w) (hf : Fit r) (e : rest = t ++ r) : Far s (done ++ [w]) (Lib.trimLeftB r 32) ∧ (Lib.trimLeftB r 32).length < rest.length := by
  obtain ⟨c, q, hc, _⟩ := hw.ne
  have hl : (Lib.trimLeftB r 32).length < rest.length := by
    have := trim_len r
    rw [e, hc]; simp; omega
  refine ⟨⟨fun ws k => ?_, fun vs k => ?_, trim_head r, ?_⟩, hl⟩
  · have := h.to (w :: ws) (by rw [e]; exact .word hw hf ((Ln.trim r ws).1 k))
    simpa using this
  · obtain ⟨ws, rfl, k2⟩ := h.of vs k
    rw [e] at k2
    obtain ⟨ws', rfl, k3⟩ := Ln.first hw hf k2
    exact ⟨ws', by simp, (Ln.trim r ws').2 k3⟩
  · have := h.len
    simp; omega
theorem Far.no {s : Bs} {done : List Bs} {rest : Bs} (h : Far s done rest) (hne : rest ≠ []) (hn : NoWd rest) (ws : List Bs) : ¬ Ln s ws := by
  intro k
  obtain ⟨vs, -, k2⟩ := h.of ws k
  cases rest with
  | nil => exact hne rfl
  | cons c r => exact hn.no (fun e => h.head (by rw [e]; rfl)) vs k2
/-- What Words answers. -/
def WsR (N : Nat) (s : Bs) (e : Ending) (w' : World) : Prop :=
  (4096 < s.length ∧ e = .returned (.tuple #[.slice none 0 0, .int .i64 3])) ∨ (s.length ≤ 4096 ∧ (∀ ws, ¬ Ln s ws) ∧ e = .returned (.tuple #[.slice none 0 0, .int .i64 4])) ∨
  (s.length ≤ 4096 ∧ ∃ ws v, Ln s ws ∧ ws.length ≤ s.length ∧ SOw N w' v ws ∧ e = .returned (.tuple #[v, .int .i64 0]))
set_option maxRecDepth 100000 in
theorem words_any (s : Bs) (hl : s.length ≤ 1000000) (w : World) (hv : Vars w) : Calls Tryz.prog 8 #[str s] w fun e w' => WsR w.heap.size s e w' ∧ Below w.heap.size w w' := by
  have hz : (⟨s.toArray⟩ : ByteArray).size = s.length := by show s.toArray.size = _; simp
  have HPB : Hid (∀ l w, Calls Tryz.prog 33 #[.string ⟨l.toArray⟩] w fun e w' => e = .returned (.string ⟨(Lib.trimLeftB l 32).toArray⟩) ∧ w' = w) := fun l w => passBlanks_any l w
  unfold str
  by_cases h4 : s.length ≤ 4096
  case neg =>
    go_enter Tryz.func8, Tryz.ntmps8
    go_wp2
    go_ret2
    exact ⟨.inl ⟨by omega, rfl⟩, Below.refl _ _⟩
  have HVA : Hid (∀ W, Below w.heap.size w W → Vars W) := fun W h => hv.below h
  clear hv
  go_enter Tryz.func8, Tryz.ntmps8
  go_wp2_with (go_at_call 33; refine (HPB.out _ _).mono ?_; rintro e w1 ⟨rfl, hw⟩; subst w1)
  go_loopw [4, 5] (fun vo vr wr => ∃ (done : List Bs) (rest : Bs), vr = .string ⟨rest.toArray⟩ ∧ Hid (Far s done rest) ∧ SOw w.heap.size wr vo done ∧ Below w.heap.size w wr) (fun _ v _ => strLen v)
  case atStart => exact ⟨[], _, rfl, Far.start s, ⟨rfl, .inl ⟨rfl, rfl⟩⟩, Below.refl _ _⟩
  case round =>
    obtain ⟨done, rest, rfl, hfar, hO, hbel⟩ := hrel
    have HFAR : Hid (Far s done rest) := hfar
    have HO : Hid (SOw w.heap.size wr _ done) := hO
    have HBE : Hid (Below w.heap.size w wr) := hbel
    have hsz : w.heap.size ≤ wr.heap.size := hbel.size
    have hlen := hfar.out.len
    obtain ⟨a, c, rfl, hc1, hc2⟩ := row_shape hO
    clear hfar hO hbel
    have hrz : (⟨rest.toArray⟩ : ByteArray).size = rest.length := by show rest.toArray.size = _; simp
    by_cases hnil : rest = []
    · subst hnil
      have HL : Hid (Ln s done) := by have := HFAR.out.to [] .nil; rwa [List.append_nil] at this
      go_wp2
      go_ret2
      exact ⟨.inr (.inr ⟨h4, done, _, HL.out, by simp at hlen; omega, HO.out, rfl⟩), HBE.out⟩
    have hem := emp hnil
    have HTW := takeWord_any rest hnil (by omega) wr (HVA.out wr HBE.out)
    unfold str at HTW
    have HNIL : Hid (rest ≠ []) := hnil
    clear hnil
    go_wp2_with fail
    refine HTW.mono ?_
    rintro e w1 ⟨⟨t, wd, r, hw, hf, he, rfl⟩ | ⟨hn, x, y, rfl⟩, hB1⟩
    · obtain ⟨hF, hlt⟩ := HFAR.out.next hw hf he
      have HF : Hid (Far s (done ++ [wd]) (Lib.trimLeftB r 32)) := hF
      have HLT : Hid ((Lib.trimLeftB r 32).length < rest.length) := hlt
      have HO1 : Hid (SOw w.heap.size w1 (.slice a done.length c) done) := HO.out.below hB1
      have HB1 : Hid (Below w.heap.size w w1) := HBE.out.trans (hB1.mono hsz)
      have hs1 : w.heap.size ≤ w1.heap.size := Nat.le_trans hsz hB1.size
      unfold str
      clear hF hlt hB1 HTW hw hf he
      go_wp2_with (first
        | (go_at_call 33; refine (HPB.out _ _).mono ?_; rintro e w2 ⟨rfl, hw⟩; subst w2)
        | (at_builtin; refine wpList_app tyS rfl _ _ rfl w.heap.size (.slice a done.length c) done.length (done.map encStr) ⟨w1.heap.size, 0, none⟩ 1 1 [encStr wd] rfl (World.ownsRow.alloc HO1.out _) rfl rfl (news_at w1 #[encStr wd] 9) (fun u hu => by cases List.mem_singleton.1 hu; rfl) (by omega) (by simp; omega) ?_; intro v6 w6 r1 r2 r3))
      refine ⟨⟨done ++ [wd], _, rfl, HF.out, ?_, (HB1.out.alloc hs1 _).grown r2 (by simp; omega) (fun g hg => (World.ownsRow.lt HO1.out g hg).1)⟩, ?_⟩
      · unfold SOw
        rw [List.length_append, List.map_append]
        exact r1
      · rw [strLen_mk, strLen_mk]
        exact HLT.out
    · have HNO : Hid (∀ ws, ¬ Ln s ws) := fun ws => HFAR.out.no HNIL.out hn ws
      unfold str
      go_wp2
      go_ret2
      exact ⟨.inr (.inl ⟨h4, HNO.out, rfl⟩), HBE.out.trans (hB1.mono hsz)⟩
end Go.Proofs.YtbckogojnjmjcaaGreatDoor
