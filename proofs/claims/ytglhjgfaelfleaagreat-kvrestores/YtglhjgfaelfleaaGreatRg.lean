/-
  A range over a function whose elements lie in memory: the iterator tells the round, beside the element, a fact G about it in the world in which it is yielded, and how great the heap was when the iterator went on.
-/
import Derived.Test.YtglhjgfaelfleaaGreatRj
import Derived.RangeFuncNested
import Derived.RangeFuncBound
import Derived.Deep.CutRange
namespace Go.Proofs.YtglhjgfaelfleaaGreat
open Go.RowKit Go.Shelf


/-- An iterator's word: the elements x come with 'G pre x m' in the world of their yield, pre being what has come, m the heap's size when the iterator went on; between yields it only lays new blocks; a round that goes on keeps Kp; S: what has come when it ends; Sp: what may have come when it was left. -/
def Yields {α : Type} (n gf : Nat) (lb : Array Value) (encs : α → Array Value) (G : List α → α → Nat → World → Prop) (Kp : World → World → Prop) (S Sp : List α → Prop) (N : Nat) (w : World) : Prop :=
  ∀ (l : Nat) (J Jx : List α → World → Prop) (W : World), Below w.heap.size w W →
    (∀ s A B, J s A → Below A.heap.size A B → J s B) → (∀ s A B, Jx s A → Below A.heap.size A B → Jx s B) →
    (∀ pre x W0 W1, J pre W0 → Below W0.heap.size W0 W1 → G pre x W0.heap.size W1 → pre.length < N → YieldAt Fence.wide (n - 1) Tryz.prog l (encs x) W1 fun e W' =>
      (e = .returned (.bool true) ∧ J (pre ++ [x]) W' ∧ Kp W1 W') ∨ (e = .returned (.bool false) ∧ Jx (pre ++ [x]) W')) →
    J [] W →
    CallsIn Fence.wide n Tryz.prog gf (#[.func (.yield l) #[] #[]] ++ lb) W fun e W' => (∃ v, e = .returned v) ∧ ((∃ xs, S xs ∧ J xs W') ∨ (∃ pre, Sp pre ∧ Jx pre W'))

theorem ownFrom_step {β : Type} {B : Nat} {I : β → World → Prop} (h : OwnFrom B I) {s : β} {A C : World} (hs : I s A) (hB : Below A.heap.size A C) : I s C :=
  h s A C none hs (Below.grownBy' hB none) (fun r e => by cases e)

theorem below_heap {A C : World} {k : Nat} {o : Obj} (hB : Below A.heap.size A C) (h : A.heap[k]? = some o) : C.heap[k]? = some o :=
  ((Below.grownBy' hB none).block k (Array.getElem?_eq_some_iff.1 h).1 (by simp)).trans h

set_option maxHeartbeats 1000000 in
theorem range_yields {α : Type} {g : Operand} {ps : Array Tmp} {assign body : Code} {Q : Exit → Act → World → Prop} {a : Act} {w : World} {n : Nat}
    {gf : Nat} {lb : Array Value} (hg : a.eval g = .func (.func gf) #[] lb) (eg : ∀ args w, (callFunc gf args).run Tryz.prog w = .ok (.enter gf args) w)
    {encs : α → Array Value} {G : List α → α → Nat → World → Prop} {Kp : World → World → Prop} {S Sp : List α → Prop} {N : Nat} {w0 : World} (hseq : Yields (n - 1) gf lb encs G Kp S Sp N w0)
    (hKt : ∀ {A B C : World}, Kp A B → Kp B C → Kp A C) (hKb : ∀ (W : World) (l : Nat) (o o' : Obj), w.heap.size ≤ l → W.heap[l]? = some o → o.isCells = false → Kp W (W.putObj l o'))
    (hb0 : Below w0.heap.size w0 w) (hps : ∀ x, (encs x).size = ps.size)
    (I : List α → World → Prop) (Ix : Code → List α → World → Prop) (hI : OwnFrom w.heap.size I) (hIx : ∀ c, OwnFrom w.heap.size (Ix c)) (hG : ∀ pre m, OwnFrom w.heap.size (fun x W => G pre x m W)) (h0 : I [] w) (a₁ : α → Act)
    (hassign : ∀ (l : Nat) (x : α) (W : World) (K : Act → World → Prop), K (a₁ x) W →
      assign.wpIn (Fence.wide.inRound l) (n - 1 - 1) Tryz.prog (Exit.then K (fun _ _ _ => False)) { tmps := (ps.zip (encs x)).foldl (fun t (p, v) => t.setIfInBounds p v) a.tmps, defers := [] } W)
    (hbody : ∀ (l : Nat) (pre : List α) (x : α) (W0 W : World), I pre W0 → I pre W → G pre x W0.heap.size W → pre.length < N → body.wpIn (Fence.wide.inRound l) (n - 1 - 1) Tryz.prog (ownPostG w.heap.size Kp I Ix (pre ++ [x]) W) (a₁ x) W)
    (hdone : ∀ (D : Nat) (xs : List α) (W : World), w.heap.size ≤ D → S xs → I xs W → W.heap[D]? = some (.deferred (some [])) → Q .normal { a with defers := { target := .collected D, args := #[] } :: a.defers } W)
    (hstop : ∀ (D : Nat) (c : Code) (pre : List α) (W : World), w.heap.size ≤ D → Sp pre → Ix c pre W → W.heap[D]? = some (.deferred (some [])) → c.wpIn Fence.wide n Tryz.prog Q { a with defers := { target := .collected D, args := #[] } :: a.defers } W) :
    (Code.rangeFunc g ps assign body).wpIn Fence.wide n Tryz.prog Q a w := by
  refine wpIn_rangeFunc fun fn hfn => ?_
  -- the loop's record, whatever its state
  obtain ⟨R, hR⟩ : ∃ R : LoopState → Option Code → Obj, ∀ st pe, R st pe = .loop { state := st, pending := pe, fn, tmps := a.tmps, params := ps, assign, body, defers := w.heap.size } := ⟨_, fun _ _ => rfl⟩
  obtain ⟨V, hV⟩ : ∃ V, V = (w.alloc (.deferred (some []))).alloc (R .ready none) := ⟨_, rfl⟩
  have hVL : V.heap[w.heap.size + 1]? = some (R .ready none) := by
    have := World.alloc_heap_new (w.alloc (.deferred (some []))) (R .ready none)
    rw [World.size_alloc] at this
    rw [hV]; exact this
  have hwV : Below w.heap.size w V := by rw [hV]; exact ((Below.refl _ w).alloc (Nat.le_refl _) _).alloc (by simp) _
  have hVD : V.heap[w.heap.size]? = some (.deferred (some [])) := by
    rw [hV]; exact below_heap ((Below.refl _ _).alloc (Nat.le_refl _) _) (World.alloc_heap_new w _)
  refine ⟨w.heap.size + 1, [{ target := .collected w.heap.size, args := #[] }], V, { target := .fn (.func gf) lb, args := #[.func (.yield (w.heap.size + 1)) #[] #[]] }, V, gf, #[.func (.yield (w.heap.size + 1)) #[] #[]] ++ lb, V,
    by rw [hV, hR]; exact run_enterLoop_outer _ _ _ _ _, by simp only [resolve, hg]; simp [go_sem], fun _ _ => trivial, (by simp [invoke, go_sem, eg]), (fun h => by cases h), ?_⟩
  -- what a world must have for the book-keeping
  obtain ⟨Bk, hBk⟩ : ∃ Bk : LoopState → Option Code → World → Prop, ∀ st pe W, Bk st pe W ↔ (W.heap[w.heap.size + 1]? = some (R st pe) ∧ W.heap[w.heap.size]? = some (.deferred (some []))) := ⟨_, fun _ _ _ => Iff.rfl⟩
  have hstep : ∀ {st pe A C}, Bk st pe A → Below A.heap.size A C → Bk st pe C := fun hb hB => by
    rw [hBk] at hb ⊢; exact ⟨below_heap hB hb.1, below_heap hB hb.2⟩
  have hkeep : ∀ {st pe A C}, Bk st pe A → KeepsFrom w.heap.size A C → Bk st pe C := fun hb hk => by
    rw [hBk] at hb ⊢
    exact ⟨hk.same _ _ (by omega) hb.1 (by rw [hR]; rfl), hk.same _ _ (Nat.le_refl _) hb.2 rfl⟩
  have hput : ∀ {st pe A} (st' pe'), Bk st pe A → Bk st' pe' (A.putObj (w.heap.size + 1) (R st' pe')) := fun st' pe' hb => by
    rw [hBk] at hb ⊢
    exact ⟨World.putObj_heap_same (Array.getElem?_eq_some_iff.1 hb.1).1, (World.putObj_heap_other (by omega)).trans hb.2⟩
  have hIp : ∀ {s st pe A} (o : Obj), I s A → Bk st pe A → I s (A.putObj (w.heap.size + 1) o) := fun o hi hb => hI.putObj o hi (by omega) ((hBk _ _ _).1 hb).1 (by rw [hR]; rfl)
  have hKp : ∀ {st pe A} (o : Obj), Bk st pe A → Kp A (A.putObj (w.heap.size + 1) o) := fun o hb => hKb _ _ _ o (by omega) ((hBk _ _ _).1 hb).1 (by rw [hR]; rfl)
  refine (hseq (w.heap.size + 1) (fun pre W => I pre W ∧ Bk .ready none W) (fun pre W => ∃ c, Ix c pre W ∧ Bk .done (some c) W) V (hb0.trans (hwV.mono hb0.size))
    (fun s A C hs hB => ⟨ownFrom_step hI hs.1 hB, hstep hs.2 hB⟩) (fun s A C hs hB => by obtain ⟨c, h1, h2⟩ := hs; exact ⟨c, ownFrom_step (hIx c) h1 hB, hstep h2 hB⟩)
    ?round ⟨ownFrom_step hI h0 hwV, (hBk _ _ _).2 ⟨hVL, hVD⟩⟩).mono ?behind
  case round =>
    rintro pre x W0 W ⟨hi0, hb⟩ hB hg' hlen
    have hi := ownFrom_step hI hi0 hB
    replace hb := hstep hb hB
    have hl := ((hBk _ _ _).1 hb).1
    rw [hR] at hl
    refine ⟨fn, _, assign, body, run_yield hl (hps x), roundIn_of_wpIn hfn (hassign _ x W _ ⟨_, run_beginRound hl rfl, ?_⟩)⟩
    rw [← hR .busy none]
    refine wpIn_mono (hbody _ pre x W0 _ hi0 (hIp _ hi hb) ((hG _ _).putObj _ hg' (by omega) hl rfl) hlen) ?_
    have hbusy := hput .busy none hb
    have ends : ∀ (jump : Option Code) (C : World), KeepsFrom w.heap.size (W.putObj (w.heap.size + 1) (R .busy none)) C →
        Bk .busy none C ∧ (Instr.endRound (w.heap.size + 1) jump).run Tryz.prog C = .ok (.bool jump.isNone) (C.putObj (w.heap.size + 1) (R (if jump.isNone then .ready else .done) jump)) := fun jump C hk => by
      have hC := hkeep hbusy hk
      have h1 := ((hBk _ _ _).1 hC).1
      rw [hR] at h1
      exact ⟨hC, by rw [hR]; exact run_endRound jump h1⟩
    intro e a3 C hp
    cases e with
    | normal =>
      obtain ⟨hC, hr⟩ := ends none C hp.1
      exact ⟨_, _, hr, .inl ⟨rfl, ⟨hIp _ hp.2.2 hC, hput _ _ hC⟩, hKt (hKt (hKp _ hb) hp.2.1) (hKp _ hC)⟩⟩
    | ret =>
      obtain ⟨hC, hr⟩ := ends (some .ret) C hp.1
      exact ⟨_, _, hr, .inr ⟨rfl, .ret, (hIx _).putObj _ hp.2 (by omega) ((hBk _ _ _).1 hC).1 (by rw [hR]; rfl), hput _ _ hC⟩⟩
    | exit id =>
      obtain ⟨hC, hr⟩ := ends (some (.exit id)) C hp.1
      exact ⟨_, _, hr, .inr ⟨rfl, .exit id, (hIx _).putObj _ hp.2 (by omega) ((hBk _ _ _).1 hC).1 (by rw [hR]; rfl), hput _ _ hC⟩⟩
    | goto t =>
      obtain ⟨hC, hr⟩ := ends (some (.goto t)) C hp.1
      exact ⟨_, _, hr, .inr ⟨rfl, .goto t, (hIx _).putObj _ hp.2 (by omega) ((hBk _ _ _).1 hC).1 (by rw [hR]; rfl), hput _ _ hC⟩⟩
    | panic ch => exact hp.elim
    | outgrown => exact hp.elim
  case behind =>
    rintro e C ⟨⟨v, rfl⟩, hE⟩
    rcases hE with ⟨xs, hS, hi, hb⟩ | ⟨pre, hSp, c, hi, hb⟩
    · have hl := ((hBk _ _ _).1 hb).1
      rw [hR] at hl
      exact ⟨none, _, run_endLoop hl (by simp), hdone _ xs _ (Nat.le_refl _) hS (hI.putObj _ hi (by omega) hl rfl) ((World.putObj_heap_other (by omega)).trans ((hBk _ _ _).1 hb).2)⟩
    · have hl := ((hBk _ _ _).1 hb).1
      rw [hR] at hl
      exact ⟨some c, _, run_endLoop hl (by simp), hstop _ c pre _ (Nat.le_refl _) hSp ((hIx c).putObj _ hi (by omega) hl rfl) ((World.putObj_heap_other (by omega)).trans ((hBk _ _ _).1 hb).2)⟩
/-- The marks of ranges that have ended. -/
def Marks (N : Nat) (w : World) (ds : List Deferred) : Prop :=
  ∃ Ds : List Nat, ds = Ds.map (fun D => { target := .collected D, args := #[] }) ∧ Ds.Nodup ∧ ∀ D ∈ Ds, N ≤ D ∧ w.heap[D]? = some (.deferred (some []))

theorem Marks.nil (N : Nat) (w : World) : Marks N w [] := ⟨[], rfl, List.nodup_nil, fun _ h => by cases h⟩

theorem Marks.keep {N : Nat} {w w' : World} {ds : List Deferred} (h : Marks N w ds) (hk : ∀ D : Nat, N ≤ D → w.heap[D]? = some (Obj.deferred (some [])) → w'.heap[D]? = some (Obj.deferred (some []))) : Marks N w' ds := by
  obtain ⟨Ds, h1, h2, h3⟩ := h
  exact ⟨Ds, h1, h2, fun D hD => ⟨(h3 D hD).1, hk D (h3 D hD).1 (h3 D hD).2⟩⟩

/-- A mark more, of a block that was made since. -/
theorem Marks.cons {N : Nat} {w w' : World} {ds : List Deferred} (h : Marks N w ds) (hk : ∀ D : Nat, N ≤ D → w.heap[D]? = some (Obj.deferred (some [])) → w'.heap[D]? = some (Obj.deferred (some []))) (D : Nat) (hN : N ≤ D) (hD : w.heap.size ≤ D) (hd : w'.heap[D]? = some (.deferred (some []))) :
    Marks N w' ({ target := .collected D, args := #[] } :: ds) := by
  obtain ⟨Ds, rfl, h2, h3⟩ := h
  refine ⟨D :: Ds, rfl, List.nodup_cons.2 ⟨fun hm => ?_, h2⟩, fun E hE => ?_⟩
  · have := (Array.getElem?_eq_some_iff.1 (h3 D hm).2).1
    omega
  · rcases List.mem_cons.1 hE with rfl | hE
    · exact ⟨hN, hd⟩
    · exact ⟨(h3 E hE).1, hk E (h3 E hE).1 (h3 E hE).2⟩

theorem results_cell {fn : Func} {t : Tmp} (h : fn.results = #[.cell t 4]) (tmps : Array Value) (w : World) (B : Nat) (v : Bool) (ht : tmps.getD t undef = .pointer (some ⟨B, 0, none⟩)) (hb : Boxed w B 4 (.bool v)) :
    (results fn tmps).run Tryz.prog w = .ok (.bool v) w := by
  have hc := hb.cell
  have ht' : tmps[t]?.getD undef = .pointer (some ⟨B, 0, none⟩) := by rw [← Array.getD_eq_getD_getElem?]; exact ht
  simp [results, h, ht', asAddr, loadVar, hc, go_sem]

theorem leave_marks {fn : Func} {tmps : Array Value} {R : Ending → World → Prop} {n : Nat} (N : Nat) : ∀ (Ds : List Nat) (w : World), Ds.Nodup → (∀ D ∈ Ds, N ≤ D ∧ w.heap[D]? = some (.deferred (some []))) →
    (∀ w', Below N w w' → (∀ (k : Nat) (o : Obj), w.heap[k]? = some o → o.isCells = true → w'.heap[k]? = some o) → ∃ v, (results fn tmps).run Tryz.prog w' = .ok v w' ∧ R (.returned v) w') → N ≤ w.heap.size →
    LeavesInM Fence.wide n Tryz.prog fn tmps R (Ds.map (fun D => { target := .collected D, args := #[] })) .returning w := by
  intro Ds
  induction Ds with
  | nil => intro w _ _ hR hN; exact hR w (Below.refl _ _) (fun _ _ h _ => h)
  | cons D Ds ih =>
    intro w hnd hm hR hN
    obtain ⟨hD, hd⟩ := hm D (by simp)
    have hlt := (Array.getElem?_eq_some_iff.1 hd).1
    refine ⟨by simp, .inl ⟨D, _, rfl, run_takeDeferred hd, ?_⟩⟩
    have hB : Below N w (w.putObj D (.deferred none)) := (Below.refl N w).grown (grownBy_putObj' w D _) hN (fun k e => by cases e; exact hD)
    refine ih _ (List.nodup_cons.1 hnd).2 (fun E hE => ?_) (fun w' hB' hc' => hR w' (hB.trans hB') (fun k o hk ho => hc' k o ?_ ho)) (Nat.le_trans hN hB.size)
    · obtain ⟨e1, e2⟩ := hm E (by simp [hE])
      refine ⟨e1, (World.putObj_heap_other (fun e => ?_)).trans e2⟩
      subst e
      exact (List.nodup_cons.1 hnd).1 hE
    · refine (World.putObj_heap_other (fun e => ?_)).trans hk
      subst e
      rw [hd] at hk; cases hk; cases ho
end Go.Proofs.YtglhjgfaelfleaaGreat
