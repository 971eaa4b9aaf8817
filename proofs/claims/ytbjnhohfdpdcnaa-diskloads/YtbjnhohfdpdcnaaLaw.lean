/-
  The walk's laws on a disk's map and struct; the leaves: ofName, isName, New, Has, fails, Down, Arm.
-/
import Derived.Test.YtbjnhohfdpdcnaaDk
namespace Go.Proofs.Ytbjnhohfdpdcnaa
open Go.RowKit

theorem law9 : Maps.Keyed Try.prog 9 := Maps.string_keyed Try.underlying9
theorem key9 (nm : List UInt8) (hn : nm.length ≤ maxLen) : keyOf Try.prog 9 (.string ⟨nm.toArray⟩) = some (.string nm) := by
  have := Go.WideMaps.keyOf_string_mk (P := Try.prog) (k := 9) Try.underlying9 (s := ⟨nm.toArray⟩) (by simpa [ByteArray.size] using hn)
  simpa using this
theorem zero63 (w : World) : (zeroValue 63).run Try.prog w = .ok (.pointer none) w := by kernel_rfl
theorem heap_set {W : World} {B : Nat} {cs : Array Value} {t : TypeId} {z : Nat × Nat} (h : W.heap[B]? = some (.cells cs t z)) (o : Nat) (u : Value) : (W.setCell ⟨B, o, none⟩ u).heap[B]? = some (.cells (cs.setIfInBounds o u) t z) := by
  simp only [World.setCell, Array.getElem?_modify, if_pos]
  rw [h]; rfl
theorem size_set (W : World) (a : Addr) (u : Value) : (W.setCell a u).heap.size = W.heap.size := by simp [World.setCell]

section
variable {ops : Array Oper} {rest : List Oper} {o : Oper} {a : Act} {Q : Exit → Act → World → Prop} {w : World}

theorem wpList_look_some (hg : o.guard = none) (m x : Operand) (hop : o.op = Op.lookup 62 m x true) (B n : Nat) (rs : List Rw) (hm : a.eval m = .map (some B)) (hown : w.ownsMap Try.prog 9 ptrElem B n (.map (rs.map Rw.ent))) (nm : List UInt8) (hx : a.eval x = .string ⟨nm.toArray⟩) (hn : nm.length ≤ maxLen) (r : Rw) (hf : look nm rs = some r)
    (hK : wpList Try.prog ops Q rest (a.put o.dst (.tuple #[.pointer (some ⟨r.b, 0, none⟩), .bool true])) w) : wpList Try.prog ops Q (o :: rest) a w := by
  refine wpList_lookup_own_ok w hg m x 62 hop 9 63 law9 Try.underlying62 ptrElem (zero63 w) .nil [] rfl B n _ hm hown _ _ hx (key9 nm hn) (fun v ps hv => ?_)
  rw [atKey_ents, hf] at hv
  rw [ptrElem_at hv, has_ents, hf]
  exact hK
theorem wpList_look_none (hg : o.guard = none) (m x : Operand) (hop : o.op = Op.lookup 62 m x true) (B n : Nat) (rs : List Rw) (hm : a.eval m = .map (some B)) (hown : w.ownsMap Try.prog 9 ptrElem B n (.map (rs.map Rw.ent))) (nm : List UInt8) (hx : a.eval x = .string ⟨nm.toArray⟩) (hn : nm.length ≤ maxLen) (hf : look nm rs = none)
    (hK : wpList Try.prog ops Q rest (a.put o.dst (.tuple #[.pointer none, .bool false])) w) : wpList Try.prog ops Q (o :: rest) a w := by
  refine wpList_lookup_own_ok w hg m x 62 hop 9 63 law9 Try.underlying62 ptrElem (zero63 w) .nil [] rfl B n _ hm hown _ _ hx (key9 nm hn) (fun v ps hv => ?_)
  rw [atKey_ents, hf] at hv
  rw [ptrElem_nil hv, has_ents, hf]
  exact hK
theorem wpList_mapLen (hg : o.guard = none) (m : Operand) (hop : o.op = Op.call { callee := Callee.builtin Builtin.len, args := #[m], argTypes := #[62] }) (B n : Nat) (rs : List Rw) (hm : a.eval m = .map (some B)) (hown : w.ownsMap Try.prog 9 ptrElem B n (.map (rs.map Rw.ent)))
    (hK : wpList Try.prog ops Q rest (a.put o.dst (.int .i64 (rs.length : Int))) w) : wpList Try.prog ops Q (o :: rest) a w := by
  refine wpList_len_own w hg m 62 hop 9 63 Try.underlying62 ptrElem B n _ hm hown ?_
  rw [Maps.size_eq, List.length_map]
  exact hK
theorem wpList_mapDel (hg : o.guard = none) (m x : Operand) (hop : o.op = Op.call { callee := Callee.builtin Builtin.delete, args := #[m, x], argTypes := #[62, 9] }) (B n : Nat) (rs : List Rw) (hm : a.eval m = .map (some B)) (hown : w.ownsMap Try.prog 9 ptrElem B n (.map (rs.map Rw.ent))) (nm : List UInt8) (hx : a.eval x = .string ⟨nm.toArray⟩) (hn : nm.length ≤ maxLen)
    (hK : ∀ w', w'.ownsMap Try.prog 9 ptrElem B n (.map ((delR nm rs).map Rw.ent)) → w.mapTurned w' B → wpList Try.prog ops Q rest (a.put o.dst (.tuple #[])) w') : wpList Try.prog ops Q (o :: rest) a w := by
  refine wpList_delete_own w hg m x 62 9 hop 63 law9 Try.underlying62 ptrElem B n _ hm hown _ _ hx (key9 nm hn) (fun w' h1 h2 => ?_)
  rw [del_ents] at h1
  exact hK w' h1 h2
theorem wpList_mapPut (hg : o.guard = none) (m x v : Operand) (hop : o.op = Op.mapUpdate 62 m x v) (B n : Nat) (rs : List Rw) (hm : a.eval m = .map (some B)) (hown : w.ownsMap Try.prog 9 ptrElem B n (.map (rs.map Rw.ent))) (r : Rw) (hx : a.eval x = .string ⟨r.nm.toArray⟩) (hn : r.nm.length ≤ maxLen) (hv : a.eval v = .pointer (some ⟨r.b, 0, none⟩)) (hl : n ≤ 1000)
    (hK : ∀ w', w'.ownsMap Try.prog 9 ptrElem B (n + 1) (.map ((insR r (delR r.nm rs)).map Rw.ent)) → w.mapTurned w' B → wpList Try.prog ops Q rest (a.put o.dst undef) w') : wpList Try.prog ops Q (o :: rest) a w := by
  refine wpList_mapUpdate_in w hg m x v 62 hop 9 63 law9 Try.underlying62 ptrElem B n _ hm hown (by unfold maxLen; omega) _ _ _ hx hv (key9 r.nm hn) (.lit (.int .i64 (r.b : Int))) [] rfl (fun w' h1 h2 => ?_)
  rw [put_ents] at h1
  exact hK w' h1 h2
end

open Go.ChangeMaps Go.MapKept Go.WideShapes in
theorem turned_size {w w' : World} {b : Nat} (h : w.mapTurned w' b) : w'.heap.size = w.heap.size := by
  obtain ⟨es, clock, es', clock', hb, rfl⟩ := h
  simp [setBlock]
theorem turned_out {w w' : World} {b : Nat} (h : w.mapTurned w' b) : Out (· = b) w w' := Out.grown h.grown (fun j hj => by simpa using hj.symm)

/-- The struct's cells. -/
theorem DkC.cells {S : Nat → Prop} {w : World} {d : Nat} {k : DS} (h : DkC S w d k) :
    (w.cell? ⟨d, 0, none⟩ = some (.map (some k.m)) ∧ w.cell? ⟨d, 1, none⟩ = some (ptrV k.last) ∧ w.cell? ⟨d, 2, none⟩ = some (.int .i64 (k.arm : Int)) ∧ w.cell? ⟨d, 3, none⟩ = some (.bool k.dn)) ∧
    (w.frozen? ⟨d, 1, none⟩ = false ∧ w.frozen? ⟨d, 2, none⟩ = false ∧ w.frozen? ⟨d, 3, none⟩ = false) := by
  have := h.hd
  refine ⟨⟨?_, ?_, ?_, ?_⟩, ?_, ?_, ?_⟩ <;> simp [World.cell?, World.frozen?, this]
/-- A file's cells. -/
theorem FileAt.cells {w : World} {r : Rw} (h : FileAt w r) :
    (w.cell? ⟨r.b, 0, none⟩ = some r.v ∧ w.cell? ⟨r.b, 1, none⟩ = some (.int .i64 (r.syn : Int))) ∧ (w.frozen? ⟨r.b, 0, none⟩ = false ∧ w.frozen? ⟨r.b, 1, none⟩ = false) := by
  have := h.cell
  refine ⟨⟨?_, ?_⟩, ?_, ?_⟩ <;> simp [World.cell?, World.frozen?, this]

/-- A sign of a name. -/
def ofNm (n : Nat) : Bool := (decide (97 ≤ n) && decide (n ≤ 122)) || (decide (48 ≤ n) && decide (n ≤ 57)) || decide (n = 45) || decide (n = 46)
def isNm (nm : List UInt8) : Bool := decide (1 ≤ nm.length) && decide (nm.length ≤ 32) && nm.all (fun x => ofNm x.toNat)

set_option maxRecDepth 100000 in
theorem ofName_45 (w : World) : Calls Try.prog 63 #[.int .u8 ((45 : Nat) : Int)] w fun r w' => r = .returned (.bool (ofNm 45)) ∧ w' = w := by
  go_enter Try.func63, Try.ntmps63
  go_wp2
  go_ret
  exact ⟨rfl, rfl⟩
set_option maxRecDepth 100000 in
theorem ofName_46 (w : World) : Calls Try.prog 63 #[.int .u8 ((46 : Nat) : Int)] w fun r w' => r = .returned (.bool (ofNm 46)) ∧ w' = w := by
  go_enter Try.func63, Try.ntmps63
  go_wp2
  go_ret
  exact ⟨rfl, rfl⟩

set_option maxRecDepth 100000 in
set_option maxHeartbeats 2000000 in
theorem ofName_any (n : Nat) (w : World) : Calls Try.prog 63 #[.int .u8 (n : Int)] w fun r w' => r = .returned (.bool (ofNm n)) ∧ w' = w := by
  by_cases h1 : 97 ≤ n
  · by_cases h2 : n ≤ 122
    · skip
      have a1 : decide (97 ≤ (n : Int)) = true := by simp; omega
      have a2 : decide ((n : Int) ≤ 122) = true := by simp; omega
      skip
      have e : ofNm n = true := by simp [ofNm]; omega
      rw [e]; clear e
      go_enter Try.func63, Try.ntmps63
      go_wp2
      go_ret
      exact ⟨rfl, rfl⟩
    · skip
      have a1 : decide (97 ≤ (n : Int)) = true := by simp; omega
      have a2 : decide ((n : Int) ≤ 122) = false := by simp; omega
      have a3 : decide (48 ≤ (n : Int)) = true := by simp; omega
      have a4 : decide ((n : Int) ≤ 57) = false := by simp; omega
      have a5 : ((n : Int) == 45) = false := by simp; omega
      have a6 : ((n : Int) == 46) = false := by simp; omega
      have e : ofNm n = false := by simp [ofNm]; omega
      rw [e]; clear e
      go_enter Try.func63, Try.ntmps63
      go_wp2
      go_ret
      exact ⟨rfl, rfl⟩
  · by_cases h3 : 48 ≤ n
    · by_cases h4 : n ≤ 57
      · skip
        have a1 : decide (97 ≤ (n : Int)) = false := by simp; omega
        have a3 : decide (48 ≤ (n : Int)) = true := by simp; omega
        have a4 : decide ((n : Int) ≤ 57) = true := by simp; omega
        have e : ofNm n = true := by simp [ofNm]; omega
        rw [e]; clear e
        go_enter Try.func63, Try.ntmps63
        go_wp2
        go_ret
        exact ⟨rfl, rfl⟩
      · skip
        have a1 : decide (97 ≤ (n : Int)) = false := by simp; omega
        have a3 : decide (48 ≤ (n : Int)) = true := by simp; omega
        have a4 : decide ((n : Int) ≤ 57) = false := by simp; omega
        have a5 : ((n : Int) == 45) = false := by simp; omega
        have a6 : ((n : Int) == 46) = false := by simp; omega
        have e : ofNm n = false := by simp [ofNm]; omega
        rw [e]; clear e
        go_enter Try.func63, Try.ntmps63
        go_wp2
        go_ret
        exact ⟨rfl, rfl⟩
    · by_cases h5 : n = 45
      · subst h5
        exact (ofName_45 w)
      · by_cases h6 : n = 46
        · subst h6
          exact (ofName_46 w)
        · skip
          have a1 : decide (97 ≤ (n : Int)) = false := by simp; omega
          have a3 : decide (48 ≤ (n : Int)) = false := by simp; omega
          have a5 : ((n : Int) == 45) = false := by simp; omega
          have a6 : ((n : Int) == 46) = false := by simp; omega
          have e : ofNm n = false := by simp [ofNm]; omega
          rw [e]; clear e
          go_enter Try.func63, Try.ntmps63
          go_wp2
          go_ret
          exact ⟨rfl, rfl⟩

/-- One write more, that has no error of its own. -/
def DS.fail (k : DS) : DS := if k.arm = 0 then k else { k with arm := k.arm - 1, dn := k.arm == 1 }
def DS.fell (k : DS) : Bool := k.arm == 1
theorem fell_dn {k : DS} (h : k.dn = false) : k.fail.dn = k.fell := by
  unfold DS.fail DS.fell
  split
  · rename_i e; simp [h, e]
  · rfl

set_option maxRecDepth 100000 in
set_option maxHeartbeats 2000000 in
theorem fails_any {S : Nat → Prop} {w0 w : World} {d : Nat} {k : DS} (h : At S w0 w d k) : Calls Try.prog 56 #[.pointer (some ⟨d, 0, none⟩)] w fun r w' => r = .returned (.bool k.fell) ∧ At S w0 w' d k.fail ∧ w'.heap.size = w.heap.size := by
  obtain ⟨⟨c0, c1, c2, c3⟩, f1, f2, f3⟩ := h.dk.cells
  by_cases hz : k.arm = 0
  · have e : k.fell = false := by simp [DS.fell, hz]
    have e2 : k.fail = k := by simp [DS.fail, hz]
    rw [e, e2]
    rw [hz] at c2
    clear e e2 hz
    go_enter Try.func56, Try.ntmps56
    go_wp2
    go_ret
    exact ⟨rfl, h, rfl⟩
  · have HK : Hid (k.fail = { k with arm := k.arm - 1, dn := k.arm == 1 }) := by show k.fail = _; simp [DS.fail, hz]
    have HF : Hid (k.fell = (k.arm == 1)) := rfl
    have harm := h.dk.arm
    obtain ⟨n, hn⟩ : ∃ n, k.arm = n + 1 := ⟨k.arm - 1, by omega⟩
    have HN : Hid (k.arm = n + 1) := hn
    rw [hn] at c2
    have e1 : (((n + 1 : Nat) : Int) == 0) = false := by simp; omega
    have hnb : n < 9223372036854775807 := by omega
    have HH : Hid (At S w0 w d k) := h
    clear h hz hn
    by_cases hn0 : n = 0
    · subst hn0
      go_enter Try.func56, Try.ntmps56
      go_wp2
      go_ret
      refine ⟨by rw [HF.out, HN.out]; rfl, ?_, by simp [World.setCell]⟩
      rw [HK.out, HN.out]
      have h := HH.out
      refine h.go ((Out.set h.dk.Sd).trans (Out.set h.dk.Sd) (fun i hi _ => hi)) ?_
      have h1 := heap_set (heap_set h.dk.hd 2 (.int .i64 0)) 3 (.bool true)
      exact (h.dk.turnD ((Out.set (X := (· = d)) rfl).trans (Out.set (X := (· = d)) rfl) (fun i hi _ => hi)) k.last 0 true h1 h.dk.la (by omega) (by simp [World.setCell])).mono (fun i hi => grew_mono (by simp [World.setCell]) hi) (fun i hi => by have := h.dk.inn i (grew_mono (by simp [World.setCell]) hi); simpa [World.setCell] using this)
    · have e3 : (((n : Nat) : Int) == 0) = false := by simp; omega
      clear hn0
      go_enter Try.func56, Try.ntmps56
      go_wp2
      go_ret
      have e4 : ((n : Int) == 0) = (n + 1 == 1) := by rw [e3]; symm; simp; rintro rfl; simp at e3
      refine ⟨by rw [HF.out, HN.out, ← e4, e3]; rfl, ?_, by simp [World.setCell]⟩
      rw [HK.out, HN.out]
      have h := HH.out
      refine h.go ((Out.set h.dk.Sd).trans (Out.set h.dk.Sd) (fun i hi _ => hi)) ?_
      have h1 := heap_set (heap_set h.dk.hd 2 (.int .i64 (n : Int))) 3 (.bool false)
      exact (h.dk.turnD ((Out.set (X := (· = d)) rfl).trans (Out.set (X := (· = d)) rfl) (fun i hi _ => hi)) k.last n (n + 1 == 1) (by rw [← e4, e3]; exact h1) h.dk.la (by omega) (by simp [World.setCell])).mono (fun i hi => grew_mono (by simp [World.setCell]) hi) (fun i hi => by have := h.dk.inn i (grew_mono (by simp [World.setCell]) hi); simpa [World.setCell] using this)

set_option maxRecDepth 100000 in
set_option maxHeartbeats 2000000 in
theorem isName_any (nm : List UInt8) (w : World) (hl : nm.length ≤ maxLen) : Calls Try.prog 55 #[.string ⟨nm.toArray⟩] w fun r w' => r = .returned (.bool (isNm nm)) ∧ w' = w := by
  unfold maxLen at hl
  by_cases h1 : 1 ≤ nm.length
  case neg =>
    have e : isNm nm = false := by simp [isNm]; omega
    rw [e]; clear e
    go_enter Try.func55, Try.ntmps55
    go_wp2
    go_ret
    exact ⟨rfl, rfl⟩
  by_cases h2 : nm.length ≤ 32
  case neg =>
    have e : isNm nm = false := by simp [isNm]; omega
    rw [e]; clear e
    go_enter Try.func55, Try.ntmps55
    go_wp2
    go_ret
    exact ⟨rfl, rfl⟩
  have HI : Hid (isNm nm = nm.all (fun x => ofNm x.toNat)) := by show isNm nm = _; simp [isNm, h1, h2]
  go_enter Try.func55, Try.ntmps55
  go_wp2
  go_loopw [14] (fun iv wr => ∃ k : Nat, iv = .int .i64 (k : Int) ∧ k ≤ nm.length ∧ wr = w ∧ (nm.take k).all (fun x => ofNm x.toNat) = true) (fun iv _ => nm.length - (intOf iv).toNat)
  case atStart => exact ⟨0, rfl, Nat.zero_le _, rfl, by simp⟩
  case round =>
    obtain ⟨k, rfl, hk, rfl, hall⟩ := hrel
    have HA : Hid ((nm.take k).all (fun x => ofNm x.toNat) = true) := hall
    clear hall
    by_cases hlt : k < nm.length
    · have HX : Hid (nm.take (k + 1) = nm.take k ++ [nm[k]]) := List.take_succ_eq_append_getElem hlt
      by_cases hx : ofNm nm[k].toNat = true
      · have hc : ∀ w, Calls Try.prog 63 #[.int .u8 ((nm[k].toNat : Nat) : Int)] w fun r w' => r = .returned (.bool true) ∧ w' = w := fun w => by have := ofName_any nm[k].toNat w; rwa [hx] at this
        go_wp2_with fail
        refine (hc _).mono ?_
        rintro r w' ⟨rfl, rfl⟩
        go_wp2
        refine ⟨⟨k + 1, by go_num, by omega, trivial, ?_⟩, by simp [intOf]; omega⟩
        rw [HX.out, List.all_append, HA.out]
        simpa using hx
      · have hx' : ofNm nm[k].toNat = false := by simpa using hx
        have hc : ∀ w, Calls Try.prog 63 #[.int .u8 ((nm[k].toNat : Nat) : Int)] w fun r w' => r = .returned (.bool false) ∧ w' = w := fun w => by have := ofName_any nm[k].toNat w; rwa [hx'] at this
        have HE : Hid (isNm nm = false) := by
          show isNm nm = false
          rw [HI.out, List.all_eq_false]
          exact ⟨nm[k], List.getElem_mem hlt, hx⟩
        clear hx hx'
        go_wp2_with fail
        refine (hc _).mono ?_
        rintro r w' ⟨rfl, rfl⟩
        go_wp2
        go_ret
        exact ⟨by rw [HE.out]; rfl, rfl⟩
    · have HE : Hid (isNm nm = true) := by show isNm nm = true; rw [HI.out]; have := HA.out; rwa [List.take_of_length_le (by omega)] at this
      go_wp2
      go_ret
      exact ⟨by rw [HE.out]; rfl, rfl⟩

set_option maxRecDepth 100000 in
theorem new_any (w : World) : Calls Try.prog 11 #[] w fun r w' => r = .returned (.pointer (some ⟨w.heap.size + 1, 0, none⟩)) ∧ w' = (w.alloc (.map #[] 0)).alloc (.cells #[.map (some w.heap.size), .pointer none, .int .i64 0, .bool false] 65) := by
  have hmm := @run_makeMap Try.prog
  go_enter Try.func11, Try.ntmps11
  go_wp2
  go_ret
  exact ⟨rfl, rfl⟩

/-- A new disk. -/
theorem new_dk (w : World) : DkC (fun i => w.heap.size ≤ i ∧ i < w.heap.size + 2) ((w.alloc (.map #[] 0)).alloc (.cells #[.map (some w.heap.size), .pointer none, .int .i64 0, .bool false] 65)) (w.heap.size + 1) ⟨w.heap.size, [], none, 0, false⟩ :=
  ⟨by have := heap_alloc_new (w.alloc (.map #[] 0)) (.cells #[.map (some w.heap.size), .pointer none, .int .i64 0, .bool false] 65); rw [World.size_alloc] at this; exact this, (World.ownsMap_made w Try.prog 9 ptrElem).alloc _, by simp, by simp, by simp, by simp, by simp [sumLen], by simp, ⟨by omega, by omega⟩, ⟨by simp, by simp⟩, by simp, fun i hi => by simp; omega⟩

set_option maxRecDepth 100000 in
theorem has_any {S : Nat → Prop} {w : World} {d : Nat} {k : DS} (h : DkC S w d k) (nm : List UInt8) (hn : nm.length ≤ maxLen) : Calls Try.prog 46 #[.pointer (some ⟨d, 0, none⟩), .string ⟨nm.toArray⟩] w fun r w' => r = .returned (.bool (look nm k.rs).isSome) ∧ w' = w := by
  obtain ⟨⟨c0, c1, c2, c3⟩, f1, f2, f3⟩ := h.cells
  have hm := h.hm
  cases hf : look nm k.rs with
  | none =>
    go_enter Try.func46, Try.ntmps46
    go_wp2_with (at_lookup; refine wpList_look_none rfl _ _ rfl _ _ _ rfl hm nm rfl hn hf ?_)
    go_ret
    exact ⟨rfl, rfl⟩
  | some r =>
    go_enter Try.func46, Try.ntmps46
    go_wp2_with (at_lookup; refine wpList_look_some rfl _ _ rfl _ _ _ rfl hm nm rfl hn r hf ?_)
    go_ret
    exact ⟨rfl, rfl⟩

set_option maxRecDepth 100000 in
theorem down_any {S : Nat → Prop} {w : World} {d : Nat} {k : DS} (h : DkC S w d k) : Calls Try.prog 29 #[.pointer (some ⟨d, 0, none⟩)] w fun r w' => r = .returned (.bool k.dn) ∧ w' = w := by
  obtain ⟨⟨c0, c1, c2, c3⟩, f1, f2, f3⟩ := h.cells
  go_enter Try.func29, Try.ntmps29
  go_wp2
  go_ret
  exact ⟨rfl, rfl⟩

set_option maxRecDepth 100000 in
theorem arm_any {S : Nat → Prop} {w : World} {d : Nat} {k : DS} (h : DkC S w d k) (n : Int) (hn : n < 9223372036854775808) : Calls Try.prog 42 #[.pointer (some ⟨d, 0, none⟩), .int .i64 n] w fun r w' => r = .returned (.tuple #[]) ∧ At S w w' d { k with arm := n.toNat } := by
  obtain ⟨⟨c0, c1, c2, c3⟩, f1, f2, f3⟩ := h.cells
  have HA : Hid (∀ m : Nat, m < 9223372036854775808 → At S w (w.setCell ⟨d, 2, none⟩ (.int .i64 (m : Int))) d { k with arm := m }) := fun m hm => by
    have h0 := At.start h
    refine h0.go (Out.set h0.dk.Sd) ?_
    exact (h0.dk.turnD (Out.set (X := (· = d)) rfl) k.last m k.dn (heap_set h.hd 2 _) h.la hm (by simp [World.setCell])).mono (fun i hi => grew_mono (by simp [World.setCell]) hi) (fun i hi => by have := h0.dk.inn i (grew_mono (by simp [World.setCell]) hi); simpa [World.setCell] using this)
  by_cases h0 : 0 ≤ n
  · obtain ⟨m, rfl⟩ : ∃ m : Nat, n = (m : Int) := ⟨n.toNat, by omega⟩
    go_enter Try.func42, Try.ntmps42
    go_wp2
    go_end0
    exact ⟨rfl, HA.out m (by omega)⟩
  · have e : n.toNat = 0 := by omega
    rw [e]
    clear e
    go_enter Try.func42, Try.ntmps42
    go_wp2
    go_end0
    exact ⟨rfl, HA.out 0 (by omega)⟩

end Go.Proofs.Ytbjnhohfdpdcnaa
