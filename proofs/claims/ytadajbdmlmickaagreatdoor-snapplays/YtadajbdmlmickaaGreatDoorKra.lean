/-
  checkOne, tooMuch, checkAll: which files may be loaded. Load: a disk of files. DiskLoaded: the names of a disk; what a disk of a disk's files is; the walk of the law. The document's disk in memory: names, places, sizes. The document's disk: a file is put among the others. The document's disk: put. The document's disk: put into none. The document's names. The document's disk: Create, of a disk that is up and not armed. The document's disk: does this write fail?
-/
import Derived.Test.YtadajbdmlmickaaGreatDoorJDd
import Derived.BigQuiet
import Derived.WideAt
import Derived.WideShapes
import Derived.Test.YtadajbdmlmickaaGreatDoorJDa
namespace Go.Proofs.YtadajbdmlmickaaGreatDoor
open Go.RowKit
set_option linter.unusedVariables false

theorem zero87 (w : World) : (zeroValue 123).run Tryz.prog w = .ok (.agg #[]) w := by kernel_rfl
/-- Block B is a set of names. -/
def SetIs (w : World) (B : Nat) (A : List (List UInt8)) : Prop := ∃ n, ∃ D : DataW Unit, w.ownsMap Tryz.prog 9 unitElem B n D ∧ n ≤ A.length ∧ ∀ nm, Maps.has D (.string nm) = A.contains nm
theorem SetIs.below {w w' : World} {B : Nat} {A : List (List UInt8)} (h : SetIs w B A) (hB : Below w.heap.size w w') : SetIs w' B A := by
  obtain ⟨n, D, h1, h2, h3⟩ := h
  exact ⟨n, D, ownsMap_out (X := fun _ => False) h1 (Out.of_below hB) id, h2, h3⟩
def chkFl (A : List (List UInt8)) (f : Fl) : Nat := if isNm f.nm = false then 7 else if A.contains f.nm then 9 else if f.syn < 0 ∨ (f.dat.length : Int) < f.syn then 1 else 0
def chkFls (A : List (List UInt8)) : List Fl → Nat
  | [] => 0
  | f :: r => if chkFl A f ≠ 0 then chkFl A f else chkFls (A ++ [f.nm]) r
def sumF (fs : List Fl) : Nat := (fs.map fun f => f.dat.length).sum
/-- Load's error. -/
def loadE (fs : List Fl) : Nat := if chkFls [] fs ≠ 0 then chkFls [] fs else if 256 < fs.length ∨ 16777216 < sumF fs then 10 else 0

theorem sumF_take {fs : List Fl} {i : Nat} (h : i < fs.length) : sumF (fs.take (i + 1)) = sumF (fs.take i) + (fs.getD i nilFl).dat.length := by
  rw [take_fl h]
  simp [sumF]
theorem sumF_le {fs : List Fl} (h : ∀ f ∈ fs, f.dat.length ≤ 1099511627776) : sumF fs ≤ fs.length * 1099511627776 := by
  induction fs with
  | nil => simp [sumF]
  | cons f r ih =>
    have h1 := h f (by simp)
    have h2 := ih (fun x hx => h x (by simp [hx]))
    simp only [sumF, List.map_cons, List.sum_cons, List.length_cons] at *
    omega
theorem sumF_take_le (fs : List Fl) (i : Nat) : sumF (fs.take i) ≤ sumF fs := by
  unfold sumF
  conv => rhs; rw [← List.take_append_drop i fs, List.map_append, List.sum_append]
  omega
theorem getD_fl {fs : List Fl} {i : Nat} (h : i < fs.length) : fs.getD i nilFl ∈ fs := by
  rw [List.getD_eq_getElem?_getD, List.getElem?_eq_getElem h]; exact List.getElem_mem h

theorem chkFls_step (fs : List Fl) {i : Nat} (h : i < fs.length) (A : List (List UInt8)) : chkFls A (fs.drop i) = if chkFl A (fs.getD i nilFl) ≠ 0 then chkFl A (fs.getD i nilFl) else chkFls (A ++ [(fs.getD i nilFl).nm]) (fs.drop (i + 1)) := by
  rw [drop_fl h]; rfl
theorem names_take {fs : List Fl} {i : Nat} (h : i < fs.length) : (fs.take (i + 1)).map Fl.nm = (fs.take i).map Fl.nm ++ [(fs.getD i nilFl).nm] := by
  rw [take_fl h, List.map_append]; rfl
theorem SetIs.add {w' : World} {B n : Nat} {A : List (List UInt8)} {D : DataW Unit} {nm : List UInt8} (h : w'.ownsMap Tryz.prog 9 unitElem B (n + 1) (D.put (.string nm) (.agg []))) (hi : Maps.IsMap D) (hn : n ≤ A.length) (hD : ∀ nm, Maps.has D (.string nm) = A.contains nm) : SetIs w' B (A ++ [nm]) := by
  refine ⟨n + 1, _, h, by simp; omega, fun x => ?_⟩
  obtain ⟨es, rfl⟩ := hi
  have h2 := hD x
  unfold DataW.put
  simp only [Maps.has_eq] at h2 ⊢
  rw [Maps.any_insert]
  by_cases e : x = nm
  · subst e
    simp [Lit.sameKey]
  · have e1 : (Lit.string nm).sameKey (.string x) = false := by simp [Lit.sameKey]; exact fun e2 => e e2.symm
    rw [Maps.any_filter_keep (fun p hp => by
      cases hp1 : p.1 with
      | string y =>
        rw [hp1] at hp
        simp [Lit.sameKey] at hp ⊢
        rw [hp]; exact e
      | _ => simp [Lit.sameKey]) es, h2]
    simp only [e1, Bool.false_or]
    simp [e]

end Go.Proofs.YtadajbdmlmickaaGreatDoor
namespace Go.Proofs.YtadajbdmlmickaaGreatDoor
open Go.RowKit
set_option linter.unusedVariables false

def Fl.pf (f : Fl) : PF := ⟨f.nm, f.dat, f.syn.toNat, false⟩
/-- The disk of files. -/
def loadP (fs : List Fl) : PD := ⟨fs.foldl (fun l f => insP f.pf (delP f.nm l)) [], 0, false⟩
theorem loadP_step {fs : List Fl} {i : Nat} (h : i < fs.length) : (loadP (fs.take (i + 1))).fs = insP (fs.getD i nilFl).pf (delP (fs.getD i nilFl).nm (loadP (fs.take i)).fs) := by
  unfold loadP
  rw [take_fl h, List.foldl_append]; rfl

/-- What an errorless list of files keeps to. -/
theorem chkFls_ok : ∀ {fs : List Fl} {A : List (List UInt8)}, chkFls A fs = 0 → ∀ f ∈ fs, isNm f.nm = true ∧ 0 ≤ f.syn ∧ f.syn ≤ (f.dat.length : Int)
  | [], _, _, _, hf => by simp at hf
  | g :: r, A, h, f, hf => by
    unfold chkFls at h
    by_cases hz : chkFl A g = 0
    · rw [if_neg (by simpa using hz)] at h
      rcases List.mem_cons.1 hf with rfl | hf
      · unfold chkFl at hz
        cases hn : isNm f.nm with
        | false => rw [hn] at hz; simp at hz
        | true =>
          rw [hn] at hz
          simp only [Bool.true_eq_false, if_false] at hz
          split at hz
          · simp at hz
          · split at hz
            · simp at hz
            · rename_i h9
              exact ⟨rfl, by omega, by omega⟩
      · exact chkFls_ok h f hf
    · rw [if_pos hz] at h
      exact absurd h hz
theorem chkFls_names : ∀ {fs : List Fl} {A : List (List UInt8)}, chkFls A fs = 0 → (∀ f ∈ fs, f.nm ∉ A) ∧ (fs.map Fl.nm).Nodup
  | [], _, _ => by simp
  | g :: r, A, h => by
    unfold chkFls at h
    by_cases hz : chkFl A g = 0
    · rw [if_neg (by simpa using hz)] at h
      obtain ⟨h1, h2⟩ := chkFls_names h
      have hg : g.nm ∉ A := fun hm => by
        unfold chkFl at hz
        split at hz
        · simp at hz
        · rw [if_pos (by simpa using hm)] at hz
          simp at hz
      refine ⟨fun f hf => ?_, ?_⟩
      · rcases List.mem_cons.1 hf with rfl | hf
        · exact hg
        · exact fun hm => h1 f hf (by simp [hm])
      · rw [List.map_cons, List.nodup_cons]
        refine ⟨fun hm => ?_, h2⟩
        obtain ⟨f, hf, he⟩ := List.mem_map.1 hm
        exact h1 f hf (by simp [he])
    · rw [if_pos hz] at h
      exact absurd h hz

/-- One file more, in new memory. -/
theorem At.loaded {S : Nat → Prop} {w0 w w1 w' : World} {d n : Nat} {k : DS} {r : Rw} (h : At S w0 w d k) (hB : Below w.heap.size w w1) (hb : r.b = w1.heap.size) (hO : Ow w.heap.size w1 r.v r.dat) (hsyn : r.syn ≤ r.dat.length) (hnm : r.nm.length ≤ 32)
    (hm : w'.ownsMap Tryz.prog 9 ptrElem k.m n (.map ((insR r (delR r.nm k.rs)).map Rw.ent))) (ht : (w1.alloc (.cells #[r.v, .int .i64 (r.syn : Int)] 112)).mapTurned w' k.m) (hl : k.last = none) (hfew : k.rs.length < 256) (hsum : sumLen k.rs + r.dat.length ≤ 16777216) :
    At S w0 w' d { k with rs := insR r (delR r.nm k.rs) } := by
  have hsz := turned_size ht
  have h1 := (h.below hB).alloc (.cells #[r.v, .int .i64 (r.syn : Int)] 112)
  have hlt := h.out.size
  have hz1 := hB.size
  refine h1.go ((turned_out ht).mono (fun i hi => by rw [hi]; exact h1.dk.Sm)) ?_
  have hold : ∀ q ∈ delR r.nm k.rs, q ∈ k.rs := fun q hq => (mem_delR.1 hq).1
  have hown : ∀ g, r.v.ownBlock = some g → w.heap.size ≤ g ∧ g < w1.heap.size := fun g hg => World.ownsRow.lt hO g hg
  have hdk := h1.dk.turnM (turned_out ht) hsz _ hm ?_ (apart_insR (apart_delR h.dk.ap) ?_) ?_ ?_ ?_
  · exact hdk.mono (fun i hi => grew_mono (by omega) hi) (fun i hi => by have := h1.dk.inn i (grew_mono (by omega) hi); omega)
  · intro q hq
    rcases mem_insR.1 hq with rfl | hq
    · refine ⟨⟨by rw [hb]; exact heap_alloc_new w1 _, (hO.base (Nat.zero_le _)).alloc _, hsyn, hnm⟩, .inr ⟨by omega, by rw [hb]; simp⟩, fun g hg => .inr ⟨by have := hown g hg; omega, by have := hown g hg; simp; omega⟩⟩
    · exact ⟨h1.dk.fs q (hold q hq), h1.dk.Sf q (hold q hq)⟩
  · intro q hq
    have hq1 := h.dk.inn _ (h.dk.Sf q (hold q hq)).1
    refine ⟨fun e => by omega, fun g hg he => ?_⟩
    have := h.dk.inn _ ((h.dk.Sf q (hold q hq)).2 g he)
    have := hown g hg
    omega
  · intro b hb'
    rw [hl] at hb'
    cases hb'
  · rw [len_insR]
    have := len_delR r.nm k.rs
    omega
  · rw [sum_insR]
    have := sum_delR r.nm k.rs
    omega

theorem sum_pd (k : DS) : sumP k.pd.fs = sumLen k.rs := sum_pf _ _
theorem sumP_insP (f : PF) (l : List PF) : sumP (insP f l) = f.dat.length + sumP l := by
  induction l with
  | nil => rfl
  | cons y q ih =>
    unfold insP
    split
    · simp [sumP]
    · simp only [sumP, List.map_cons, List.sum_cons] at *
      omega
theorem sumP_delP (nm : List UInt8) (l : List PF) : sumP (delP nm l) ≤ sumP l := by
  induction l with
  | nil => simp [delP, sumP]
  | cons y q ih =>
    unfold delP sumP at *
    by_cases h : y.nm == nm <;> simp [h] <;> omega
theorem len_insP (f : PF) (l : List PF) : (insP f l).length = l.length + 1 := by
  induction l with
  | nil => rfl
  | cons y q ih => unfold insP; split <;> simp [ih]
theorem load_bounds (fs : List Fl) : ∀ i, i ≤ fs.length → (loadP (fs.take i)).fs.length ≤ i ∧ sumP (loadP (fs.take i)).fs ≤ sumF (fs.take i)
  | 0, _ => by simp [loadP, sumP]
  | i + 1, hi => by
    obtain ⟨h1, h2⟩ := load_bounds fs i (by omega)
    rw [loadP_step (by omega), sumF_take (by omega), len_insP, sumP_insP]
    have h3 : (delP (fs.getD i nilFl).nm (loadP (fs.take i)).fs).length ≤ (loadP (fs.take i)).fs.length := List.length_filter_le _ _
    have h4 := sumP_delP (fs.getD i nilFl).nm (loadP (fs.take i)).fs
    have h5 : (fs.getD i nilFl).pf.dat.length = (fs.getD i nilFl).dat.length := rfl
    omega

end Go.Proofs.YtadajbdmlmickaaGreatDoor
namespace Go.Proofs.YtadajbdmlmickaaGreatDoor
open Go.RowKit
set_option linter.unusedVariables false

/-- All names are names. -/
def NamesOk (fs : List PF) : Prop := ∀ f ∈ fs, isNm f.nm = true
theorem NamesOk.map {fs : List PF} (h : NamesOk fs) (g : PF → PF) (hg : ∀ f, (g f).nm = f.nm) : NamesOk (fs.map g) := fun f hf => by
  obtain ⟨q, hq, rfl⟩ := List.mem_map.1 hf
  rw [hg]; exact h q hq
theorem NamesOk.del {fs : List PF} (h : NamesOk fs) (nm : List UInt8) : NamesOk (delP nm fs) := fun f hf => h f (List.mem_filter.1 hf).1
theorem mem_insP {x f : PF} {l : List PF} : x ∈ insP f l ↔ x = f ∨ x ∈ l := by
  induction l with
  | nil => simp [insP]
  | cons y q ih =>
    unfold insP
    split
    · simp
    · simp only [List.mem_cons, ih]
      constructor
      · rintro (h | h | h) <;> simp [h]
      · rintro (h | h | h) <;> simp [h]
theorem NamesOk.ins {fs : List PF} (h : NamesOk fs) {f : PF} (hf : isNm f.nm = true) : NamesOk (insP f fs) := fun x hx => by
  rcases mem_insP.1 hx with rfl | hx
  · exact hf
  · exact h x hx
theorem fail_fs' (p : PD) (fs : List PF) : ({ p.fail with fs := fs } : PD).fs = fs := rfl
theorem told_names {p : PD} (h : NamesOk p.fs) (o : Opn) : NamesOk (toldP p o).2.fs := by
  have hf : NamesOk p.fail.fs := by rw [pd_fail_fs]; exact h
  unfold toldP
  split
  · unfold doCreate
    repeat' split
    all_goals first | exact h | exact hf | (refine NamesOk.ins (h.del _) ?_; simp_all)
  split
  · unfold doAppend
    repeat' split
    all_goals first | exact h | exact hf | (refine NamesOk.map h _ (fun f => ?_); unfold appP; split <;> rfl)
  split
  · unfold doSync
    repeat' split
    all_goals first | exact h | exact hf | (refine NamesOk.map h _ (fun f => ?_); unfold syncP; split <;> rfl)
  split
  · unfold doCut
    repeat' split
    all_goals first | exact h | exact hf | (refine NamesOk.map h _ (fun f => ?_); unfold cutP; split <;> rfl)
  split
  · unfold doRename
    repeat' split
    all_goals first | exact h | exact hf | (refine NamesOk.ins (((h.del _).del _).del _) ?_; simp_all)
  split
  · unfold doRemove
    repeat' split
    all_goals first | exact h | exact hf | exact h.del _
  split
  · exact h
  split
  · exact NamesOk.map h _ (fun f => rfl)
  · exact h
theorem made_names (os : List Opn) : NamesOk (madeP os).fs := by
  unfold madeP
  have key : ∀ (os : List Opn) (p : PD), NamesOk p.fs → NamesOk (os.foldl (fun p o => (toldP p o).2) p).fs := by
    intro os
    induction os with
    | nil => exact fun p h => h
    | cons o r ih => exact fun p h => ih _ (told_names h o)
  exact key os _ (fun f hf => by simp at hf)

theorem before_asymm : ∀ {a b : List UInt8}, bytesBefore a b = true → bytesBefore b a = false
  | [], [], h => by simp [bytesBefore] at h
  | [], _ :: _, _ => by simp [bytesBefore]
  | _ :: _, [], h => by simp [bytesBefore] at h
  | x :: r, y :: s, h => by
    simp only [bytesBefore, Bool.or_eq_true, Bool.and_eq_true, decide_eq_true_eq, beq_iff_eq] at h
    simp only [bytesBefore, Bool.or_eq_false_iff, Bool.and_eq_false_iff, decide_eq_false_iff_not]
    rcases h with h | ⟨rfl, h⟩
    · exact ⟨fun h2 => absurd (UInt8.lt_trans h h2) (UInt8.lt_irrefl _), .inl (by simpa using fun e => absurd (e ▸ h) (UInt8.lt_irrefl _))⟩
    · exact ⟨UInt8.lt_irrefl _, .inr (before_asymm h)⟩
theorem ins_end {f : PF} : ∀ {l : List PF}, (∀ y ∈ l, bytesBefore y.nm f.nm = true) → insP f (delP f.nm l) = l ++ [f]
  | [], _ => rfl
  | y :: r, h => by
    have hy := h y (by simp)
    have e1 : delP f.nm (y :: r) = y :: delP f.nm r := by
      have := before_ne hy
      simp [delP, this]
    rw [e1, insP, if_neg (by rw [before_asymm hy]; simp), ins_end (fun z hz => h z (by simp [hz]))]
    rfl
/-- The files, none the last one. -/
def calmP (f : PF) : PF := { f with late := false }
theorem load_same {fs : List Fl} {p : List PF} (hs : saysF fs = p.map PF.says) (hr : p.Pairwise (fun f g => bytesBefore f.nm g.nm = true)) : (loadP fs).fs = p.map calmP := by
  have e : fs.map Fl.pf = p.map calmP := by
    have := congrArg (List.map (fun x : List UInt8 × List UInt8 × Int => PF.mk x.1 x.2.1 x.2.2.toNat false)) hs
    simp only [saysF, List.map_map] at this
    exact this
  show fs.foldl (fun l f => insP f.pf (delP f.nm l)) [] = _
  have key : ∀ (fs : List Fl) (acc : List PF), (acc ++ fs.map Fl.pf).Pairwise (fun f g => bytesBefore f.nm g.nm = true) → fs.foldl (fun l f => insP f.pf (delP f.nm l)) acc = acc ++ fs.map Fl.pf := by
    intro fs
    induction fs with
    | nil => simp
    | cons f r ih =>
      intro acc h
      have h1 : insP f.pf (delP f.nm acc) = acc ++ [f.pf] := ins_end (f := f.pf) (fun y hy => (List.pairwise_append.1 h).2.2 y hy f.pf (by simp))
      rw [List.foldl_cons, h1, ih _ (by simpa using h)]
      simp
  rw [key fs [] (by rw [List.nil_append, e]; exact List.pairwise_map.2 (hr.imp (fun h => h))), List.nil_append, e]
theorem load_fine {fs : List Fl} {p : List PF} (hs : saysF fs = p.map PF.says) (hr : p.Pairwise (fun f g => bytesBefore f.nm g.nm = true)) (hn : NamesOk p) (hy : ∀ f ∈ p, f.syn ≤ f.dat.length) (hl : p.length ≤ 256) (hsum : sumP p ≤ 16777216) : loadE fs = 0 := by
  have hlen : fs.length = p.length := by have := congrArg List.length hs; simpa [saysF] using this
  have e1 : fs.map (fun f => f.dat.length) = p.map (fun f => f.dat.length) := by
    have := congrArg (List.map (fun x : List UInt8 × List UInt8 × Int => x.2.1.length)) hs
    simp only [saysF, List.map_map] at this
    exact this
  have e2 : sumF fs = sumP p := by unfold sumF sumP; rw [e1]
  have key : ∀ (fs : List Fl) (p : List PF) (A : List (List UInt8)), saysF fs = p.map PF.says → p.Pairwise (fun f g => bytesBefore f.nm g.nm = true) → NamesOk p → (∀ f ∈ p, f.syn ≤ f.dat.length) → (∀ f ∈ p, f.nm ∉ A) → chkFls A fs = 0 := by
    intro fs
    induction fs with
    | nil => intros; rfl
    | cons f r ih =>
      intro p A h1 h2 h3 h4 h5
      cases p with
      | nil => simp [saysF] at h1
      | cons g q =>
        simp only [saysF, List.map_cons, List.cons.injEq] at h1
        obtain ⟨hfg, h1⟩ := h1
        obtain ⟨r1, r2⟩ := List.pairwise_cons.1 h2
        obtain ⟨nm, fa, fc, dat, syn⟩ := f
        simp only [Fl.says, PF.says, Prod.mk.injEq] at hfg
        obtain ⟨rfl, rfl, rfl⟩ := hfg
        have z : chkFl A ⟨g.nm, fa, fc, g.dat, (g.syn : Int)⟩ = 0 := by
          have z1 := h3 g (by simp)
          have z2 := h4 g (by simp)
          have z3 := h5 g (by simp)
          unfold chkFl
          simp only
          rw [if_neg (by rw [z1]; simp), if_neg (by simpa using z3), if_neg (by omega)]
        unfold chkFls
        rw [if_neg (by simpa using z)]
        refine ih q _ h1 r2 (fun x hx => h3 x (by simp [hx])) (fun x hx => h4 x (by simp [hx])) (fun x hx hm => ?_)
        simp only [List.mem_append, List.mem_singleton] at hm
        rcases hm with hm | hm
        · exact h5 x (by simp [hx]) hm
        · exact before_ne (r1 x hx) hm.symm
  unfold loadE
  rw [key fs p [] hs hr hn hy (by simp), if_neg (by simp), hlen, e2, if_neg (by omega)]
theorem Dsk.shape {N : Nat} {S : Nat → Prop} {w : World} {d : Nat} {p : PD} (h : Dsk N w S d p) : p.fs.Pairwise (fun f g => bytesBefore f.nm g.nm = true) ∧ (∀ f ∈ p.fs, f.syn ≤ f.dat.length) ∧ p.fs.length ≤ 256 ∧ sumP p.fs ≤ 16777216 := by
  obtain ⟨k, hk, rfl, hS⟩ := h
  refine ⟨List.pairwise_map.2 (hk.rise.imp (fun h => h)), fun f hf => ?_, by simpa [DS.pd] using hk.few, by rw [sum_pd]; exact hk.all⟩
  obtain ⟨r, hr, rfl⟩ := List.mem_map.1 hf
  exact (hk.fs r hr).syn
theorem crash_calm (p : PD) : doCrash ⟨p.fs.map calmP, 0, false⟩ 5 = doCrash p 0 := by
  unfold doCrash
  congr 1
  simp only [List.map_map]
  refine List.map_congr_left fun f _ => ?_
  show crashP 5 (calmP f) = crashP 0 f
  unfold crashP calmP
  cases f.late <;> simp
theorem size_dsk {N : Nat} {S : Nat → Prop} {w : World} {d : Nat} {p : PD} (h : Dsk N w S d p) : Calls Tryz.prog 50 #[.pointer (some ⟨d, 0, none⟩)] w fun r w' => r = .returned (.int .i64 (sumP p.fs : Int)) ∧ Below w.heap.size w w' := by
  obtain ⟨k, hk, rfl, hS⟩ := h
  rw [sum_pd]
  exact size_any hk

/-- The disk behind more operations. -/
def moreP (p : PD) (os : List Opn) : PD := os.foldl (fun p o => (toldP p o).2) p
theorem moreP_step {p : PD} {os : List Opn} {k : Nat} (h : k < os.length) : moreP p (os.take (k + 1)) = (toldP (moreP p (os.take k)) (os.getD k nilOp)).2 := by
  unfold moreP
  rw [take_op h, List.foldl_append]; rfl

end Go.Proofs.YtadajbdmlmickaaGreatDoor
namespace Go.Proofs.YtadajbdmlmickaaGreatDoor
open Go.RowKit Go.Shelf
set_option linter.unusedVariables false

/-- Block B holds the document's disk. -/
structure RD (N : Nat) (w : World) (B : Nat) (p : PD) (v : Value) (fs : List Fl) (lt : List UInt8) : Prop where
  le : N ≤ B
  hd : w.heap[B]? = some (.cells #[v, .int .i64 (p.arm : Int), .bool p.dn, .string ⟨lt.toArray⟩] 30 (0, 0))
  fi : FilesIn N w v fs
  sy : fs.map Fl.says = p.fs.map PF.says
  fw : fs.length ≤ 256
  sm : sumP p.fs ≤ 16777216
  la : ∀ f ∈ p.fs, f.late = (f.nm == lt)
theorem RD.lt {N : Nat} {w : World} {B : Nat} {p : PD} {v : Value} {fs : List Fl} {l : List UInt8} (h : RD N w B p v fs l) : B < w.heap.size := (Array.getElem?_eq_some_iff.1 h.hd).1
theorem RD.cells {N : Nat} {w : World} {B : Nat} {p : PD} {v : Value} {fs : List Fl} {l : List UInt8} (h : RD N w B p v fs l) :
    w.cell? ⟨B, 0, none⟩ = some v ∧ w.cell? ⟨B, 1, none⟩ = some (.int .i64 (p.arm : Int)) ∧ w.cell? ⟨B, 2, none⟩ = some (.bool p.dn) ∧ w.cell? ⟨B, 3, none⟩ = some (.string ⟨l.toArray⟩) ∧ w.frozen? ⟨B, 0, none⟩ = false ∧ w.frozen? ⟨B, 1, none⟩ = false ∧ w.frozen? ⟨B, 2, none⟩ = false ∧ w.frozen? ⟨B, 3, none⟩ = false := by
  have hR := h.hd
  exact ⟨by simp [World.cell?, hR], by simp [World.cell?, hR], by simp [World.cell?, hR], by simp [World.cell?, hR], by simp [World.frozen?, hR], by simp [World.frozen?, hR], by simp [World.frozen?, hR], by simp [World.frozen?, hR]⟩
theorem RD.len {N : Nat} {w : World} {B : Nat} {p : PD} {v : Value} {fs : List Fl} {l : List UInt8} (h : RD N w B p v fs l) : fs.length = p.fs.length := by
  have := congrArg List.length h.sy
  simpa using this

theorem sumF_append (a b : List Fl) : sumF (a ++ b) = sumF a + sumF b := by simp [sumF]
theorem sum_says : ∀ {fs : List Fl} {ps : List PF}, fs.map Fl.says = ps.map PF.says → sumF fs = sumP ps
  | [], [], _ => rfl
  | [], _ :: _, h => by simp at h
  | _ :: _, [], h => by simp at h
  | f :: r, q :: s, h => by
    simp only [List.map_cons, List.cons.injEq, Fl.says, PF.says, Prod.mk.injEq] at h
    have := sum_says h.2
    simp only [sumF, sumP, List.map_cons, List.sum_cons] at this ⊢
    rw [this, h.1.2.1]
set_option maxRecDepth 100000 in
set_option maxHeartbeats 2000000 in
theorem refSize_any {N : Nat} {w : World} {B : Nat} {p : PD} {v : Value} {fs : List Fl} {l : List UInt8} (h : RD N w B p v fs l) :
    Calls Tryz.prog 51 #[.pointer (some ⟨B, 0, none⟩)] w fun r w' => r = .returned (.int .i64 (sumP p.fs : Int)) ∧ w' = w := by
  obtain ⟨a, c, hv, hc1, hc2, hF⟩ := h.fi.at
  subst hv
  obtain ⟨k0, k1, k2, k3, -⟩ := h.cells
  have HF : Hid (FlsAt w.heap.size w a fs) := hF
  have hsm := sum_says h.sy
  have HS : Hid (sumF fs = sumP p.fs) := hsm
  have hs2 : sumF fs ≤ 16777216 := by rw [hsm]; exact h.sm
  have hfw := h.fw
  clear h hF hsm
  go_enter Tryz.func51, Tryz.ntmps51
  go_wp2
  go_loopw [3, 4] (fun sv iv wr => ∃ (k m : Nat), iv = .int .i64 (k : Int) ∧ sv = .int .i64 (m : Int) ∧ k ≤ fs.length ∧ m = sumF (fs.take k) ∧ wr = w) (fun _ iv _ => fs.length - (intOf iv).toNat)
  case atStart => exact ⟨0, 0, rfl, rfl, Nat.zero_le _, rfl, rfl⟩
  case round =>
    obtain ⟨k, m, rfl, rfl, hk, hm, rfl⟩ := hrel
    by_cases hlt : k < fs.length
    · obtain ⟨b, off, hea, hb, he⟩ := HF.out.at hlt
      subst hea
      have HT : Hid (fs.take (k + 1) = fs.take k ++ [fs.getD k nilFl]) := take_fl hlt
      have hle := sumF_take_le fs (k + 1)
      rw [HT.out, sumF_append] at hle
      generalize fs.getD k nilFl = f at *
      obtain ⟨fn, fa, fc, fd, fy⟩ := f
      obtain ⟨c0, c1, c2, c3⟩ := he
      unfold Fl.x at c1
      simp only at c0 c1 c2
      have hone : sumF [(⟨fn, fa, fc, fd, fy⟩ : Fl)] = fd.length := by simp [sumF]
      rw [hone] at hle
      have HM : Hid (m + fd.length = sumF (fs.take (k + 1))) := by show m + fd.length = _; rw [HT.out, sumF_append, hone, hm]
      have hmb : m + fd.length ≤ 16777216 := by omega
      have hi1 : (k : Int) < (fs.length : Int) := by omega
      have hi0 : (0 : Int) ≤ (k : Int) := by omega
      clear hm hle c3 hone
      go_wp2
      exact ⟨⟨k + 1, m + fd.length, by go_num, by go_num, by omega, HM.out, trivial⟩, by simp [intOf]; omega⟩
    · have HM : Hid (m = sumP p.fs) := by show m = _; rw [hm, List.take_of_length_le (by omega), HS.out]
      clear hm
      go_wp2
      go_ret
      exact ⟨by rw [← HM.out]; rfl, rfl⟩

set_option maxRecDepth 100000 in
set_option maxHeartbeats 2000000 in
theorem refAt_any {N : Nat} {w : World} {B : Nat} {p : PD} {v : Value} {fs : List Fl} {l : List UInt8} (h : RD N w B p v fs l) (nm : List UInt8) :
    Calls Tryz.prog 82 #[.pointer (some ⟨B, 0, none⟩), .string ⟨nm.toArray⟩] w fun r w' => ∃ i : Int, r = .returned (.int .i64 i) ∧ ((i = -1 ∧ ∀ f ∈ fs, f.nm ≠ nm) ∨ ∃ j : Nat, i = (j : Int) ∧ j < fs.length ∧ (fs.getD j nilFl).nm = nm) ∧ w' = w := by
  obtain ⟨a, c, hv, hc1, hc2, hF⟩ := h.fi.at
  subst hv
  obtain ⟨k0, k1, k2, k3, -⟩ := h.cells
  have HF : Hid (FlsAt w.heap.size w a fs) := hF
  have hfw := h.fw
  clear h hF
  go_enter Tryz.func82, Tryz.ntmps82
  go_wp2
  go_loopw [5] (fun iv wr => ∃ (k : Nat), iv = .int .i64 (k : Int) ∧ k ≤ fs.length ∧ (∀ f ∈ fs.take k, f.nm ≠ nm) ∧ wr = w) (fun iv _ => fs.length - (intOf iv).toNat)
  case atStart => exact ⟨0, rfl, Nat.zero_le _, by simp, rfl⟩
  case round =>
    obtain ⟨k, rfl, hk, hm, rfl⟩ := hrel
    have HM : Hid (∀ f ∈ fs.take k, f.nm ≠ nm) := hm
    clear hm
    by_cases hlt : k < fs.length
    · obtain ⟨b, off, hea, hb, he⟩ := HF.out.at hlt
      subst hea
      have HT : Hid (fs.take (k + 1) = fs.take k ++ [fs.getD k nilFl]) := take_fl hlt
      obtain ⟨f, hf⟩ : ∃ f, fs.getD k nilFl = f := ⟨_, rfl⟩
      have HFE : Hid (fs.getD k nilFl = f) := hf
      rw [hf] at he HT
      clear hf
      obtain ⟨fn, fa, fc, fd, fy⟩ := f
      obtain ⟨c0, c1, c2, c3⟩ := he
      unfold Fl.x at c1
      simp only at c0 c1 c2
      have hi1 : (k : Int) < (fs.length : Int) := by omega
      have hi0 : (0 : Int) ≤ (k : Int) := by omega
      clear c3
      by_cases hn : fn = nm
      · subst hn
        go_wp2
        go_ret
        exact ⟨(k : Int), rfl, .inr ⟨k, rfl, hlt, by rw [HFE.out]⟩, rfl⟩
      · have hn' : (fn == nm) = false := by simpa using hn
        have HN : Hid (fn ≠ nm) := hn
        clear hn
        go_wp2
        refine ⟨⟨k + 1, by go_num, by omega, fun f hf => ?_, trivial⟩, by simp [intOf]; omega⟩
        rw [HT.out] at hf
        rcases List.mem_append.1 hf with hf | hf
        · exact HM.out f hf
        · obtain rfl := List.mem_singleton.1 hf
          exact HN.out
    · go_wp2
      go_ret
      have hm := HM.out
      rw [List.take_of_length_le (by omega)] at hm
      exact ⟨-1, rfl, .inl ⟨rfl, hm⟩, rfl⟩

set_option maxRecDepth 100000 in
set_option maxHeartbeats 2000000 in
theorem refFails0_any {N : Nat} {w : World} {B : Nat} {p : PD} {v : Value} {fs : List Fl} {l : List UInt8} (h : RD N w B p v fs l) (h0 : p.arm = 0) :
    Calls Tryz.prog 105 #[.pointer (some ⟨B, 0, none⟩)] w fun r w' => r = .returned (.bool false) ∧ w' = w := by
  obtain ⟨k0, k1, k2, k3, -⟩ := h.cells
  rw [h0] at k1
  clear h
  go_enter Tryz.func105, Tryz.ntmps105
  go_wp2
  go_ret
  exact ⟨rfl, rfl⟩
end Go.Proofs.YtadajbdmlmickaaGreatDoor
namespace Go.Proofs.YtadajbdmlmickaaGreatDoor
open Go.RowKit Go.Shelf Go.WideShapes Go.WideAt
set_option linter.unusedVariables false

/-- Where a file of that name goes. -/
def spot (nm : List UInt8) : List Fl → Nat
  | [] => 0
  | f :: r => if Op.bytesLess f.nm nm then spot nm r + 1 else 0
def insF (f : Fl) : List Fl → List Fl
  | [] => [f]
  | y :: q => if Op.bytesLess y.nm f.nm then y :: insF f q else f :: y :: q
theorem spot_le (nm : List UInt8) : ∀ fs : List Fl, spot nm fs ≤ fs.length
  | [] => Nat.le_refl _
  | f :: r => by
    have := spot_le nm r
    unfold spot
    split <;> simp <;> omega
theorem insF_spot (f : Fl) : ∀ fs : List Fl, insF f fs = fs.take (spot f.nm fs) ++ [f] ++ fs.drop (spot f.nm fs)
  | [] => rfl
  | y :: q => by
    have ih := insF_spot f q
    unfold insF spot
    split
    · rw [ih]; simp
    · simp
theorem cellsOf_append (a b : List Fl) : cellsOf (a ++ b) = cellsOf a ++ cellsOf b := by simp [cellsOf]
theorem cellsOf_len (a : List Fl) : (cellsOf a).length = a.length * 3 := by
  induction a with
  | nil => rfl
  | cons f r ih => simp only [cellsOf, List.map_cons, List.flatten_cons, List.length_append, List.length_cons] at *; rw [ih]; simp [Fl.cells]; omega
theorem getD_take {fs : List Fl} {i j : Nat} (h : j < i) : (fs.take i).getD j nilFl = fs.getD j nilFl := by
  simp only [List.getD_eq_getElem?_getD]
  rw [List.getElem?_take_of_lt h]
theorem getD_drop {fs : List Fl} {i j : Nat} : (fs.drop i).getD j nilFl = fs.getD (i + j) nilFl := by
  simp only [List.getD_eq_getElem?_getD]
  rw [List.getElem?_drop]
theorem cellsOf_one {fs : List Fl} : ∀ u ∈ cellsOf fs, u.oneCell' = true := by
  intro u hu
  simp only [cellsOf, List.mem_flatten, List.mem_map] at hu
  obtain ⟨l, ⟨f, -, rfl⟩, hu⟩ := hu
  simp [Fl.cells, Fl.x] at hu
  rcases hu with rfl | rfl | rfl <;> rfl
theorem less_before : ∀ a b : List UInt8, Op.bytesLess a b = bytesBefore a b
  | [], [] => rfl
  | [], _ :: _ => rfl
  | _ :: _, [] => rfl
  | a :: r, b :: s => by simp [Op.bytesLess, bytesBefore, less_before r s]
/-- Among names that rise, where no name is twice: the same place. -/
theorem insF_says (f : Fl) (g : PF) (hfg : f.says = g.says) : ∀ {fs : List Fl} {ps : List PF}, fs.map Fl.says = ps.map PF.says → (∀ q ∈ ps, q.nm ≠ g.nm) → (insF f fs).map Fl.says = (insP g ps).map PF.says
  | [], [], _, _ => by simp [insF, insP, hfg]
  | [], _ :: _, h, _ => by simp at h
  | _ :: _, [], h, _ => by simp at h
  | y :: r, q :: s, h, hn => by
    have h0 := h
    simp only [List.map_cons, List.cons.injEq] at h
    have e1 : y.nm = q.nm := by have := h.1; simp [Fl.says, PF.says] at this; exact this.1
    have e2 : f.nm = g.nm := by have := hfg; simp [Fl.says, PF.says] at this; exact this.1
    have hne := hn q (by simp)
    have ih := insF_says f g hfg h.2 (fun q hq => hn q (by simp [hq]))
    unfold insF insP
    rw [e1, e2, less_before]
    cases hb : bytesBefore q.nm g.nm
    · have : bytesBefore g.nm q.nm = true := (bytes_total q.nm g.nm hne).resolve_left (by simp [hb])
      rw [this]
      simp [hfg, h.1, h.2]
    · have : bytesBefore g.nm q.nm = false := by
        cases hc : bytesBefore g.nm q.nm
        · rfl
        · have := bytes_trans _ _ _ hb hc
          rw [bytes_irrefl] at this
          cases this
      rw [this]
      simp [h.1, ih]

/-- Cells of files that lie in memory. -/
theorem FlsAt.cellsAt {N : Nat} {w : World} {b off : Nat} {fs : List Fl} (h : ∀ i, i < fs.length → FlAt N w b (off + i * 3) (fs.getD i nilFl)) : ∀ j u, (cellsOf fs)[j]? = some u → w.cell? ⟨b, off + j, none⟩ = some u := by
  intro j u hj
  have hl : j < (cellsOf fs).length := (List.getElem?_eq_some_iff.1 hj).1
  rw [cellsOf_len] at hl
  have e := cellsOf_at fs (j / 3) (j % 3) (by omega) (by omega)
  rw [show j / 3 * 3 + j % 3 = j by omega, hj] at e
  obtain ⟨c0, c1, c2, -⟩ := h (j / 3) (by omega)
  have hm : j % 3 = 0 ∨ j % 3 = 1 ∨ j % 3 = 2 := by omega
  rcases hm with hm | hm | hm
  · rw [hm] at e
    have : u = .string ⟨(fs.getD (j / 3) nilFl).nm.toArray⟩ := by simpa [Fl.cells] using e
    rw [this, ← c0]; congr 2; omega
  · rw [hm] at e
    have : u = (fs.getD (j / 3) nilFl).x := by simpa [Fl.cells] using e
    rw [this, ← c1]; congr 2; omega
  · rw [hm] at e
    have : u = .int .i64 (fs.getD (j / 3) nilFl).syn := by simpa [Fl.cells] using e
    rw [this, ← c2]; congr 2; omega
end Go.Proofs.YtadajbdmlmickaaGreatDoor
namespace Go.Proofs.YtadajbdmlmickaaGreatDoor
open Go.RowKit Go.Shelf
set_option linter.unusedVariables false

theorem row_shape {w : World} {N s n : Nat} {e : TypeId} {v : Value} {x : List Value} (h : w.ownsRow N e s v n x) : ∃ a c, v = .slice a n c := by
  rcases h.2 with ⟨hv, h0⟩ | ⟨g, cap, cur, hv, r⟩
  · rw [h0]; exact ⟨_, _, hv⟩
  · exact ⟨_, _, hv⟩
theorem cell_three_new (w : World) (a b c : Value) (t : TypeId) : ∀ j u, [a, b, c][j]? = some u → (w.alloc (.cells #[a, b, c] t)).cell? ((⟨w.heap.size, 0, none⟩ : Addr).add j) = some u := by
  intro j u hj
  have hh := heap_alloc_new w (.cells #[a, b, c] t)
  rw [Addr.add_lit]
  simp only [World.cell?, hh, Nat.zero_add]
  simpa using hj
theorem row_out {X : Nat → Prop} {N s n : Nat} {e : TypeId} {w w' : World} {v : Value} {xs : List Value} (h : w.ownsRow N e s v n xs) (hO : Out X w w') (hx : ∀ g, v.ownBlock = some g → ¬ X g) : w'.ownsRow N e s v n xs := by
  refine ⟨h.1, ?_⟩
  rcases h.2 with h2 | ⟨g, cap, cur, rfl, hg, hb, r⟩
  · exact .inl h2
  · exact .inr ⟨g, cap, cur, rfl, hg, (hO.block g (Array.getElem?_eq_some_iff.1 hb).1 (hx g rfl)).trans hb, r⟩
theorem row_base {w : World} {N N' s n : Nat} {e : TypeId} {v : Value} {x : List Value} (h : w.ownsRow N e s v n x) (hN : N' ≤ N) : w.ownsRow N' e s v n x :=
  ⟨h.1, h.2.imp id (fun ⟨g, cap, cur, e, hg, r⟩ => ⟨g, cap, cur, e, Nat.le_trans hN hg, r⟩)⟩
theorem put_done {N : Nat} {w w3 : World} {B : Nat} {p : PD} {v v3 : Value} {fs : List Fl} {l : List UInt8} {fn : List UInt8} {fa : Option Addr} {fc : Nat} {fd : List UInt8} {fy : Int} {k : Nat} (h : RD N w B p v fs l) (hBlt : B < w.heap.size) (hN : N ≤ w.heap.size) (hx : Ow N w (.slice fa fd.length fc) fd) (hB3 : Below w.heap.size w w3)
    (hown3 : w3.ownsRow w.heap.size 71 3 v3 (k + 1 + (fs.length - k)) (cellsOf (fs.take k) ++ [.string ⟨fn.toArray⟩, .slice fa fd.length fc, .int .i64 fy] ++ cellsOf (fs.drop k))) (hK : spot fn fs = k) (hk : k ≤ fs.length) :
    (w3.setCell ⟨B, 0, none⟩ v3).heap[B]? = some (.cells #[v3, .int .i64 (p.arm : Int), .bool p.dn, .string ⟨l.toArray⟩] 30 (0, 0)) ∧ FilesIn N (w3.setCell ⟨B, 0, none⟩ v3) v3 (insF ⟨fn, fa, fc, fd, fy⟩ fs) ∧ Out (· = B) w (w3.setCell ⟨B, 0, none⟩ v3) ∧ ∀ g, v3.ownBlock = some g → w.heap.size ≤ g := by
  have hR3 := (hB3.block B hBlt).trans h.hd
  have hset : Out (· = B) w3 (w3.setCell ⟨B, 0, none⟩ v3) := Out.set rfl
  have e0 : insF ⟨fn, fa, fc, fd, fy⟩ fs = fs.take k ++ [⟨fn, fa, fc, fd, fy⟩] ++ fs.drop k := by have := insF_spot ⟨fn, fa, fc, fd, fy⟩ fs; simp only [hK] at this; exact this
  refine ⟨by simpa using heap_set hR3 0 v3, ⟨?_, ?_⟩, (Out.of_below hB3).trans hset (fun i hi _ => hi), fun g hg => (hown3.lt g hg).1⟩
  · rw [e0]
    have hlen : (fs.take k ++ [(⟨fn, fa, fc, fd, fy⟩ : Fl)] ++ fs.drop k).length = k + 1 + (fs.length - k) := by simp; omega
    rw [hlen]
    have := row_base (row_out hown3 hset (fun g hg e => by have := (hown3.lt g hg).1; omega)) hN
    simpa [cellsOf_append, cellsOf, Fl.cells, Fl.x] using this
  · intro f hf
    have hO : Ow N w f.x f.dat := by
      rw [e0] at hf
      rcases List.mem_append.1 hf with hf | hf
      · rcases List.mem_append.1 hf with hf | hf
        · exact h.fi.own f (List.mem_of_mem_take hf)
        · obtain rfl := List.mem_singleton.1 hf
          exact hx
      · exact h.fi.own f (List.mem_of_mem_drop hf)
    have hO3 := hO.below hB3 (Nat.le_refl _)
    exact hO3.out hset (fun g hg e => hO3.not_at hR3 (by decide) (by rw [hg, e]))
theorem drop_f {l : List Fl} {k : Nat} (h : k < l.length) : l.drop k = l.getD k nilFl :: l.drop (k + 1) := drop_fl h

set_option maxRecDepth 100000 in
set_option maxHeartbeats 8000000 in
theorem refPut_any {N : Nat} {w : World} {B : Nat} {p : PD} {v : Value} {fs : List Fl} {l : List UInt8} (h : RD N w B p v fs l) (fn : List UInt8) (fa : Option Addr) (fc : Nat) (fd : List UInt8) (fy : Int) (hx : Ow N w (.slice fa fd.length fc) fd) (hfw : fs.length < 256) (hN : N ≤ w.heap.size) (g cap : Nat) (hv : v = .slice (some ⟨g, 0, none⟩) fs.length cap) :
    Calls Tryz.prog 108 #[.pointer (some ⟨B, 0, none⟩), .agg #[.string ⟨fn.toArray⟩, .slice fa fd.length fc, .int .i64 fy]] w fun r w' => r = .returned (.tuple #[]) ∧ ∃ v', w'.heap[B]? = some (.cells #[v', .int .i64 (p.arm : Int), .bool p.dn, .string ⟨l.toArray⟩] 30 (0, 0)) ∧ FilesIn N w' v' (insF ⟨fn, fa, fc, fd, fy⟩ fs) ∧ Out (· = B) w w' ∧ ∀ g, v'.ownBlock = some g → w.heap.size ≤ g := by
  subst hv
  obtain ⟨a', c', hv, hc1, hc2, hF⟩ := h.fi.at
  cases hv
  have hBlt := h.lt
  have HF : Hid (FlsAt w.heap.size w (some ⟨g, 0, none⟩) fs) := hF
  have HH : Hid (RD N w B p (.slice (some ⟨g, 0, none⟩) fs.length cap) fs l) := h
  have HBC : Hid (∀ w', Below w.heap.size w w' → w'.cell? ⟨B, 0, none⟩ = some (.slice (some ⟨g, 0, none⟩) fs.length cap) ∧ w'.cell? ⟨B, 1, none⟩ = some (.int .i64 (p.arm : Int)) ∧ w'.cell? ⟨B, 2, none⟩ = some (.bool p.dn) ∧ w'.cell? ⟨B, 3, none⟩ = some (.string ⟨l.toArray⟩) ∧ w'.frozen? ⟨B, 0, none⟩ = false ∧ w'.heap[B]? = some (.cells #[.slice (some ⟨g, 0, none⟩) fs.length cap, .int .i64 (p.arm : Int), .bool p.dn, .string ⟨l.toArray⟩] 30 (0, 0))) := fun w' hB => by
    have hR := (hB.block B hBlt).trans h.hd
    exact ⟨by simp [World.cell?, hR], by simp [World.cell?, hR], by simp [World.cell?, hR], by simp [World.cell?, hR], by simp [World.frozen?, hR], hR⟩
  obtain ⟨W0, hW0⟩ : ∃ W0, w.alloc (.cells #[.string ⟨fn.toArray⟩, .slice fa fd.length fc, .int .i64 fy] 71) = W0 := ⟨_, rfl⟩
  have HW0 : Hid (w.alloc (.cells #[.string ⟨fn.toArray⟩, .slice fa fd.length fc, .int .i64 fy] 71) = W0) := hW0
  have HS0 : Hid (W0.heap.size = w.heap.size + 1) := by show W0.heap.size = _; rw [← hW0]; simp
  have HBw0 : Hid (Below w.heap.size w W0) := by show Below w.heap.size w W0; rw [← hW0]; exact (Below.refl _ w).alloc (Nat.le_refl _) _
  have HC : Hid (∀ w', Below W0.heap.size W0 w' → w'.cell? ⟨B, 0, none⟩ = some (.slice (some ⟨g, 0, none⟩) fs.length cap) ∧ w'.cell? ⟨B, 1, none⟩ = some (.int .i64 (p.arm : Int)) ∧ w'.cell? ⟨B, 2, none⟩ = some (.bool p.dn) ∧ w'.cell? ⟨B, 3, none⟩ = some (.string ⟨l.toArray⟩)) := fun w' hB => by
    obtain ⟨x0, x1, x2, x3, -⟩ := HBC.out w' (HBw0.out.trans (hB.mono (by have := HS0.out; omega)))
    exact ⟨x0, x1, x2, x3⟩
  have HFC : Hid (∀ w', Below W0.heap.size W0 w' → w'.cell? ⟨w.heap.size, 0, none⟩ = some (.string ⟨fn.toArray⟩) ∧ w'.cell? ⟨w.heap.size, 1, none⟩ = some (.slice fa fd.length fc) ∧ w'.cell? ⟨w.heap.size, 2, none⟩ = some (.int .i64 fy)) := fun w' hB => by
    have hh : W0.heap[w.heap.size]? = some (.cells #[.string ⟨fn.toArray⟩, .slice fa fd.length fc, .int .i64 fy] 71 (0, 0)) := by rw [← hW0]; exact heap_alloc_new w _
    have hR := (hB.block w.heap.size (by have := HS0.out; omega)).trans hh
    exact ⟨by simp [World.cell?, hR], by simp [World.cell?, hR], by simp [World.cell?, hR]⟩
  have HST : Hid (∀ w', Below w.heap.size w w' → ∀ k j u, (cellsOf (fs.take k))[j]? = some u → w'.cell? ⟨g, 0 + j, none⟩ = some u) := fun w' hB k j u hj => by
    have hlt : j < (cellsOf (fs.take k)).length := (List.getElem?_eq_some_iff.1 hj).1
    rcases HF.out.below hB with hz | ⟨b, off, e, hb, hc⟩
    · subst hz; simp [cellsOf] at hlt
    · cases e
      exact FlsAt.cellsAt (N := w.heap.size) (fs := fs.take k) (fun i hi => by rw [getD_take (by simp at hi; omega)]; exact hc i (by simp at hi; omega)) j u hj
  have HSR : Hid (∀ w', Below w.heap.size w w' → ∀ k j u, (cellsOf (fs.drop k))[j]? = some u → w'.cell? ⟨g, k * 3 + j, none⟩ = some u) := fun w' hB k j u hj => by
    have hlt : j < (cellsOf (fs.drop k)).length := (List.getElem?_eq_some_iff.1 hj).1
    rcases HF.out.below hB with hz | ⟨b, off, e, hb, hc⟩
    · subst hz; simp [cellsOf] at hlt
    · cases e
      exact FlsAt.cellsAt (N := w.heap.size) (fs := fs.drop k) (fun i hi => by rw [getD_drop]; have := hc (k + i) (by simp at hi; omega); rw [show k * 3 + i * 3 = 0 + (k + i) * 3 by omega]; exact this) j u hj
  obtain ⟨i0, hi, hz0, hz1, hz2⟩ := info_parts info37
  unfold maxLen at hc2
  clear h hF hW0
  go_enter Tryz.func108, Tryz.ntmps108
  go_wp2_with fail
  rw [HW0.out]
  go_loopw [4] (fun iv wr => ∃ (k : Nat), iv = .int .i64 (k : Int) ∧ k ≤ fs.length ∧ spot fn fs = k + spot fn (fs.drop k) ∧ Below W0.heap.size W0 wr) (fun iv _ => fs.length - (intOf iv).toNat)
  case atStart => exact ⟨0, rfl, Nat.zero_le _, by simp, Below.refl _ _⟩
  case round =>
    obtain ⟨k, rfl, hk, hsp, hB⟩ := hrel
    have HSP : Hid (spot fn fs = k + spot fn (fs.drop k)) := hsp
    have HB : Hid (Below W0.heap.size W0 wr) := hB
    obtain ⟨k0, z1, z2, z3⟩ := HC.out wr hB
    obtain ⟨f0, f1, f2⟩ := HFC.out wr hB
    clear hsp
    by_cases hlt : k < fs.length
    · obtain ⟨b, off, hea, hb, he⟩ := HF.out.at hlt
      cases hea
      obtain ⟨c0, c1, c2, -⟩ := he.below hb (HBw0.out.trans (hB.mono (by have := HS0.out; omega)))
      have HD : Hid (fs.drop k = fs.getD k nilFl :: fs.drop (k + 1)) := drop_f hlt
      generalize fs.getD k nilFl = q at *
      obtain ⟨qn, qa, qc, qd, qy⟩ := q
      unfold Fl.x at c1
      simp only [Nat.zero_add] at c0 c1 c2
      have hi1 : (k : Int) < (fs.length : Int) := by omega
      have hi1' : decide ((k : Int) < (fs.length : Int)) = true := by simpa using hlt
      have hi0 : (0 : Int) ≤ (k : Int) := by omega
      cases hls : Op.bytesLess qn fn
      · have HK : Hid (spot fn fs = k) := by show spot fn fs = k; rw [HSP.out, HD.out]; simp [spot, hls]
        clear hB
        go_wp2_with fail
        go_quiet (fail)
        clear c0 c1 c2 hi1 hi1'
        have j0 : (0 : Int) ≤ (k : Int) := by omega
        have j1 : (k : Int) ≤ (cap : Int) := by omega
        have j2 : (k : Int) ≤ (fs.length : Int) := by omega
        have j3 : (fs.length : Int) ≤ (cap : Int) := by omega
        have j4 : k ≤ cap := by omega
        have HBX : Hid (Below W0.heap.size W0 (wr.drewN nq)) := HB.out.trans ⟨rfl, rfl, rfl, Nat.le_refl _, fun _ _ => rfl⟩
        clear k0 z1 z2 z3 f0 f1 f2
        generalize wr.drewN nq = wx at *
        have hkn : k ≤ fs.length := by omega
        have hk256 : k ≤ 256 := by omega
        have hB0 := HBX.out
        have hs0 : w.heap.size ≤ wx.heap.size := by have := hB0.size; have := HS0.out; omega
        have hBw : Below w.heap.size w wx := HBw0.out.trans (hB0.mono (by have := HS0.out; omega))
        obtain ⟨k0, z1, z2, z3⟩ := HC.out (wx.alloc (.cells #[] 71)) (hB0.alloc hB0.size _)
        have hown0 : (wx.alloc (.cells #[] 71)).ownsRow w.heap.size 71 3 (.slice (some ⟨wx.heap.size, 0, none⟩) 0 0) 0 [] := ⟨rfl, .inr ⟨wx.heap.size, 0, #[], rfl, hs0, heap_alloc_new wx _, Nat.le_refl _, by unfold maxLen; omega, rfl, rfl⟩⟩
        have hbe : ∀ w1, (wx.alloc (.cells #[] 71)).grownBy w1 (some wx.heap.size) → Below wx.heap.size wx w1 := fun w1 hg => ((Below.refl _ wx).alloc (Nat.le_refl _) _).grown hg (by simp) (fun j e => by cases e; exact Nat.le_refl _)
        go_wp2_with (first
          | (at_builtin; refine wpList_append_own _ rfl _ _ 28 rfl w.heap.size 71 i0 _ 3 48 Tryz.underlying28 hi hz0 hz1 hz2 rfl (by decide) _ k (cellsOf (fs.take k)) rfl (hown1.alloc _) ⟨w1.heap.size, 0, none⟩ 1 1 [.string ⟨fn.toArray⟩, .slice fa fd.length fc, .int .i64 fy] rfl rfl (cell_three_new _ _ _ _ _) (by intro u hu; simp at hu; rcases hu with rfl | rfl | rfl <;> rfl) (by unfold maxLen; omega) (by omega) (by have := hB1.size; simp; omega) ?_; intro v2 w2 hown2 hg2 _; have hB2 : Below w.heap.size w w2 := (hB1.alloc hB1.size _).grown hg2 (by have := hB1.size; simp; omega) (fun j e => (hown1.lt j e).1); obtain ⟨x0, x1, x2, x3, -⟩ := HBC.out w2 hB2; have hsrc3 := HSR.out w2 hB2 k; obtain ⟨a2, c2, rfl⟩ := row_shape hown2)
          | (at_builtin; refine wpList_append_own _ rfl _ _ 28 rfl w.heap.size 71 i0 _ 3 48 Tryz.underlying28 hi hz0 hz1 hz2 rfl (by decide) _ 0 [] rfl hown0 ⟨g, 0, none⟩ k cap (cellsOf (fs.take k)) rfl (by rw [cellsOf_len]; simp; omega) (fun j u hj => by rw [Addr.add_lit]; simpa using HST.out (wx.alloc (.cells #[] 71)) (hBw.alloc hs0 _) k j u hj) cellsOf_one (by unfold maxLen; omega) (by omega) (by simp; omega) ?_; intro v1 w1 hown1 hg1 _; have hbe1 := hbe w1 hg1; have hB1 : Below w.heap.size w w1 := hBw.trans (hbe1.mono hs0); obtain ⟨x0, x1, x2, x3, -⟩ := HBC.out w1 hB1; obtain ⟨f0, f1, f2⟩ := HFC.out w1 (hB0.trans (hbe1.mono hB0.size)); rw [Nat.zero_add, List.nil_append] at hown1; obtain ⟨a1, c1, rfl⟩ := row_shape hown1)
          | (at_builtin; refine wpList_append_own _ rfl _ _ 28 rfl w.heap.size 71 i0 _ 3 48 Tryz.underlying28 hi hz0 hz1 hz2 rfl (by decide) _ (k + 1) _ rfl hown2 ⟨g, k * 3, none⟩ (fs.length - k) _ (cellsOf (fs.drop k)) rfl (by rw [cellsOf_len]; simp) (fun j u hj => by rw [Addr.add_lit]; exact hsrc3 j u hj) cellsOf_one (by unfold maxLen; omega) (by omega) (by have := hB2.size; omega) ?_; intro v3 w3 hown3 hg3 _; have hB3 : Below w.heap.size w w3 := hB2.grown hg3 hB2.size (fun j e => (hown2.lt j e).1); have y0 := (HBC.out w3 hB3).1; have y4 := (HBC.out w3 hB3).2.2.2.2.1; obtain ⟨a3, c3, rfl⟩ := row_shape hown3))
        go_end0
        exact ⟨rfl, _, put_done HH.out hBlt hN hx hB3 hown3 HK.out hkn⟩
      · have HK : Hid (spot fn fs = k + 1 + spot fn (fs.drop (k + 1))) := by show spot fn fs = _; rw [HSP.out, HD.out]; simp [spot, hls]; omega
        clear hB
        go_wp2_with fail
        go_quiet (fail)
        go_wp2
        exact ⟨⟨k + 1, by go_num, by omega, HK.out, HB.out.trans ⟨rfl, rfl, rfl, Nat.le_refl _, fun _ _ => rfl⟩⟩, by simp [intOf]; omega⟩
    · have hi1' : decide ((k : Int) < (fs.length : Int)) = false := by simp; omega
      have HK : Hid (spot fn fs = k) := by show spot fn fs = k; rw [HSP.out, List.drop_eq_nil_of_le (by omega)]; rfl
      clear hB
      go_wp2_with fail
      go_quiet (fail)
      clear hi1'
      by_cases hcz : cap = k
      · have hcz2 : k = cap := hcz.symm
        clear hcz
        subst hcz2
        have j0 : (0 : Int) ≤ (k : Int) := by omega
        have j1 : (k : Int) ≤ (k : Int) := by omega
        have j2 : (k : Int) ≤ (fs.length : Int) := by omega
        have j3 : (fs.length : Int) ≤ (k : Int) := by omega
        have j4 : k ≤ k := by omega
        have HBX : Hid (Below W0.heap.size W0 (wr.drewN nq)) := HB.out.trans ⟨rfl, rfl, rfl, Nat.le_refl _, fun _ _ => rfl⟩
        clear k0 z1 z2 z3 f0 f1 f2
        generalize wr.drewN nq = wx at *
        have hkn : k ≤ fs.length := by omega
        have hk256 : k ≤ 256 := by omega
        have hB0 := HBX.out
        have hs0 : w.heap.size ≤ wx.heap.size := by have := hB0.size; have := HS0.out; omega
        have hBw : Below w.heap.size w wx := HBw0.out.trans (hB0.mono (by have := HS0.out; omega))
        obtain ⟨k0, z1, z2, z3⟩ := HC.out (wx.alloc (.cells #[] 71)) (hB0.alloc hB0.size _)
        have hown0 : (wx.alloc (.cells #[] 71)).ownsRow w.heap.size 71 3 (.slice (some ⟨wx.heap.size, 0, none⟩) 0 0) 0 [] := ⟨rfl, .inr ⟨wx.heap.size, 0, #[], rfl, hs0, heap_alloc_new wx _, Nat.le_refl _, by unfold maxLen; omega, rfl, rfl⟩⟩
        have hbe : ∀ w1, (wx.alloc (.cells #[] 71)).grownBy w1 (some wx.heap.size) → Below wx.heap.size wx w1 := fun w1 hg => ((Below.refl _ wx).alloc (Nat.le_refl _) _).grown hg (by simp) (fun j e => by cases e; exact Nat.le_refl _)
        go_wp2_with (first
          | (at_builtin; refine wpList_append_own _ rfl _ _ 28 rfl w.heap.size 71 i0 _ 3 48 Tryz.underlying28 hi hz0 hz1 hz2 rfl (by decide) _ k (cellsOf (fs.take k)) rfl (hown1.alloc _) ⟨w1.heap.size, 0, none⟩ 1 1 [.string ⟨fn.toArray⟩, .slice fa fd.length fc, .int .i64 fy] rfl rfl (cell_three_new _ _ _ _ _) (by intro u hu; simp at hu; rcases hu with rfl | rfl | rfl <;> rfl) (by unfold maxLen; omega) (by omega) (by have := hB1.size; simp; omega) ?_; intro v2 w2 hown2 hg2 _; have hB2 : Below w.heap.size w w2 := (hB1.alloc hB1.size _).grown hg2 (by have := hB1.size; simp; omega) (fun j e => (hown1.lt j e).1); obtain ⟨x0, x1, x2, x3, -⟩ := HBC.out w2 hB2; have hsrc3 := HSR.out w2 hB2 k; obtain ⟨a2, c2, rfl⟩ := row_shape hown2)
          | (at_builtin; refine wpList_append_own _ rfl _ _ 28 rfl w.heap.size 71 i0 _ 3 48 Tryz.underlying28 hi hz0 hz1 hz2 rfl (by decide) _ 0 [] rfl hown0 ⟨g, 0, none⟩ k k (cellsOf (fs.take k)) rfl (by rw [cellsOf_len]; simp; omega) (fun j u hj => by rw [Addr.add_lit]; simpa using HST.out (wx.alloc (.cells #[] 71)) (hBw.alloc hs0 _) k j u hj) cellsOf_one (by unfold maxLen; omega) (by omega) (by simp; omega) ?_; intro v1 w1 hown1 hg1 _; have hbe1 := hbe w1 hg1; have hB1 : Below w.heap.size w w1 := hBw.trans (hbe1.mono hs0); obtain ⟨x0, x1, x2, x3, -⟩ := HBC.out w1 hB1; obtain ⟨f0, f1, f2⟩ := HFC.out w1 (hB0.trans (hbe1.mono hB0.size)); rw [Nat.zero_add, List.nil_append] at hown1; obtain ⟨a1, c1, rfl⟩ := row_shape hown1)
          | (at_builtin; refine wpList_append_own _ rfl _ _ 28 rfl w.heap.size 71 i0 _ 3 48 Tryz.underlying28 hi hz0 hz1 hz2 rfl (by decide) _ (k + 1) _ rfl hown2 _ 0 _ [] rfl rfl (fun j u hj => by simp at hj) (by simp) (by unfold maxLen; omega) (by omega) (by have := hB2.size; omega) ?_; intro v3 w3 hown3 hg3 _; have hB3 : Below w.heap.size w w3 := hB2.grown hg3 hB2.size (fun j e => (hown2.lt j e).1); have y0 := (HBC.out w3 hB3).1; have y4 := (HBC.out w3 hB3).2.2.2.2.1; obtain ⟨a3, c3, rfl⟩ := row_shape hown3))
        go_end0
        exact ⟨rfl, _, put_done HH.out hBlt hN hx hB3 (v3 := _) (by rw [show fs.length - k = 0 by omega, List.drop_eq_nil_of_le (show fs.length ≤ k by omega)]; exact hown3) HK.out hkn⟩
      · have j5 : k < cap := by omega
        have j6 : ¬ cap - k = 0 := by omega
        have j7 : ¬ cap ≤ k := by omega
        have j0 : (0 : Int) ≤ (k : Int) := by omega
        have j1 : (k : Int) ≤ (cap : Int) := by omega
        have j2 : (k : Int) ≤ (fs.length : Int) := by omega
        have j3 : (fs.length : Int) ≤ (cap : Int) := by omega
        have j4 : k ≤ cap := by omega
        have HBX : Hid (Below W0.heap.size W0 (wr.drewN nq)) := HB.out.trans ⟨rfl, rfl, rfl, Nat.le_refl _, fun _ _ => rfl⟩
        clear k0 z1 z2 z3 f0 f1 f2
        generalize wr.drewN nq = wx at *
        have hkn : k ≤ fs.length := by omega
        have hk256 : k ≤ 256 := by omega
        have hB0 := HBX.out
        have hs0 : w.heap.size ≤ wx.heap.size := by have := hB0.size; have := HS0.out; omega
        have hBw : Below w.heap.size w wx := HBw0.out.trans (hB0.mono (by have := HS0.out; omega))
        obtain ⟨k0, z1, z2, z3⟩ := HC.out (wx.alloc (.cells #[] 71)) (hB0.alloc hB0.size _)
        have hown0 : (wx.alloc (.cells #[] 71)).ownsRow w.heap.size 71 3 (.slice (some ⟨wx.heap.size, 0, none⟩) 0 0) 0 [] := ⟨rfl, .inr ⟨wx.heap.size, 0, #[], rfl, hs0, heap_alloc_new wx _, Nat.le_refl _, by unfold maxLen; omega, rfl, rfl⟩⟩
        have hbe : ∀ w1, (wx.alloc (.cells #[] 71)).grownBy w1 (some wx.heap.size) → Below wx.heap.size wx w1 := fun w1 hg => ((Below.refl _ wx).alloc (Nat.le_refl _) _).grown hg (by simp) (fun j e => by cases e; exact Nat.le_refl _)
        go_wp2_with (first
          | (at_builtin; refine wpList_append_own _ rfl _ _ 28 rfl w.heap.size 71 i0 _ 3 48 Tryz.underlying28 hi hz0 hz1 hz2 rfl (by decide) _ k (cellsOf (fs.take k)) rfl (hown1.alloc _) ⟨w1.heap.size, 0, none⟩ 1 1 [.string ⟨fn.toArray⟩, .slice fa fd.length fc, .int .i64 fy] rfl rfl (cell_three_new _ _ _ _ _) (by intro u hu; simp at hu; rcases hu with rfl | rfl | rfl <;> rfl) (by unfold maxLen; omega) (by omega) (by have := hB1.size; simp; omega) ?_; intro v2 w2 hown2 hg2 _; have hB2 : Below w.heap.size w w2 := (hB1.alloc hB1.size _).grown hg2 (by have := hB1.size; simp; omega) (fun j e => (hown1.lt j e).1); obtain ⟨x0, x1, x2, x3, -⟩ := HBC.out w2 hB2; have hsrc3 := HSR.out w2 hB2 k; obtain ⟨a2, c2, rfl⟩ := row_shape hown2)
          | (at_builtin; refine wpList_append_own _ rfl _ _ 28 rfl w.heap.size 71 i0 _ 3 48 Tryz.underlying28 hi hz0 hz1 hz2 rfl (by decide) _ 0 [] rfl hown0 ⟨g, 0, none⟩ k cap (cellsOf (fs.take k)) rfl (by rw [cellsOf_len]; simp; omega) (fun j u hj => by rw [Addr.add_lit]; simpa using HST.out (wx.alloc (.cells #[] 71)) (hBw.alloc hs0 _) k j u hj) cellsOf_one (by unfold maxLen; omega) (by omega) (by simp; omega) ?_; intro v1 w1 hown1 hg1 _; have hbe1 := hbe w1 hg1; have hB1 : Below w.heap.size w w1 := hBw.trans (hbe1.mono hs0); obtain ⟨x0, x1, x2, x3, -⟩ := HBC.out w1 hB1; obtain ⟨f0, f1, f2⟩ := HFC.out w1 (hB0.trans (hbe1.mono hB0.size)); rw [Nat.zero_add, List.nil_append] at hown1; obtain ⟨a1, c1, rfl⟩ := row_shape hown1)
          | (at_builtin; refine wpList_append_own _ rfl _ _ 28 rfl w.heap.size 71 i0 _ 3 48 Tryz.underlying28 hi hz0 hz1 hz2 rfl (by decide) _ (k + 1) _ rfl hown2 ⟨g, k * 3, none⟩ (fs.length - k) _ (cellsOf (fs.drop k)) rfl (by rw [cellsOf_len]; simp) (fun j u hj => by rw [Addr.add_lit]; exact hsrc3 j u hj) cellsOf_one (by unfold maxLen; omega) (by omega) (by have := hB2.size; omega) ?_; intro v3 w3 hown3 hg3 _; have hB3 : Below w.heap.size w w3 := hB2.grown hg3 hB2.size (fun j e => (hown2.lt j e).1); have y0 := (HBC.out w3 hB3).1; have y4 := (HBC.out w3 hB3).2.2.2.2.1; obtain ⟨a3, c3, rfl⟩ := row_shape hown3))
        go_end0
        exact ⟨rfl, _, put_done HH.out hBlt hN hx hB3 hown3 HK.out hkn⟩
end Go.Proofs.YtadajbdmlmickaaGreatDoor
namespace Go.Proofs.YtadajbdmlmickaaGreatDoor
open Go.RowKit Go.Shelf
set_option linter.unusedVariables false

theorem row_some {w : World} {N s n : Nat} {e : TypeId} {v : Value} {x : List Value} (h : w.ownsRow N e s v n x) (hn : 0 < n) : ∃ g c, v = .slice (some ⟨g, 0, none⟩) n c ∧ n ≤ c := by
  rcases h.2 with ⟨hv, h0⟩ | ⟨g, cap, cur, hv, _, _, h1, _⟩
  · omega
  · exact ⟨_, _, hv, h1⟩
set_option maxRecDepth 100000 in
set_option maxHeartbeats 8000000 in
theorem refPutNil_any {N : Nat} {w : World} {B : Nat} {p : PD} {l : List UInt8} (h : RD N w B p (.slice none 0 0) [] l) (fn : List UInt8) (fa : Option Addr) (fc : Nat) (fd : List UInt8) (fy : Int) (hx : Ow N w (.slice fa fd.length fc) fd) (hN : N ≤ w.heap.size) :
    Calls Tryz.prog 108 #[.pointer (some ⟨B, 0, none⟩), .agg #[.string ⟨fn.toArray⟩, .slice fa fd.length fc, .int .i64 fy]] w fun r w' => r = .returned (.tuple #[]) ∧ ∃ v', w'.heap[B]? = some (.cells #[v', .int .i64 (p.arm : Int), .bool p.dn, .string ⟨l.toArray⟩] 30 (0, 0)) ∧ FilesIn N w' v' (insF ⟨fn, fa, fc, fd, fy⟩ []) ∧ Out (· = B) w w' ∧ ∀ g, v'.ownBlock = some g → w.heap.size ≤ g := by
  have hBlt := h.lt
  have HH : Hid (RD N w B p (.slice none 0 0) [] l) := h
  have HBC : Hid (∀ w', Below w.heap.size w w' → w'.cell? ⟨B, 0, none⟩ = some (.slice none 0 0) ∧ w'.frozen? ⟨B, 0, none⟩ = false) := fun w' hB => by
    have hR := (hB.block B hBlt).trans h.hd
    exact ⟨by simp [World.cell?, hR], by simp [World.frozen?, hR]⟩
  obtain ⟨W0, hW0⟩ : ∃ W0, w.alloc (.cells #[.string ⟨fn.toArray⟩, .slice fa fd.length fc, .int .i64 fy] 71) = W0 := ⟨_, rfl⟩
  have HW0 : Hid (w.alloc (.cells #[.string ⟨fn.toArray⟩, .slice fa fd.length fc, .int .i64 fy] 71) = W0) := hW0
  have HS0 : Hid (W0.heap.size = w.heap.size + 1) := by show W0.heap.size = _; rw [← hW0]; simp
  have HBw0 : Hid (Below w.heap.size w W0) := by show Below w.heap.size w W0; rw [← hW0]; exact (Below.refl _ w).alloc (Nat.le_refl _) _
  have HFC : Hid (∀ w', Below W0.heap.size W0 w' → w'.cell? ⟨w.heap.size, 0, none⟩ = some (.string ⟨fn.toArray⟩) ∧ w'.cell? ⟨w.heap.size, 1, none⟩ = some (.slice fa fd.length fc) ∧ w'.cell? ⟨w.heap.size, 2, none⟩ = some (.int .i64 fy)) := fun w' hB => by
    have hh : W0.heap[w.heap.size]? = some (.cells #[.string ⟨fn.toArray⟩, .slice fa fd.length fc, .int .i64 fy] 71 (0, 0)) := by rw [← hW0]; exact heap_alloc_new w _
    have hR := (hB.block w.heap.size (by have := HS0.out; omega)).trans hh
    exact ⟨by simp [World.cell?, hR], by simp [World.cell?, hR], by simp [World.cell?, hR]⟩
  obtain ⟨i0, hi, hz0, hz1, hz2⟩ := info_parts info37
  clear h hW0
  go_enter Tryz.func108, Tryz.ntmps108
  go_wp2_with fail
  rw [HW0.out]
  go_loopw [4] (fun iv wr => iv = .int .i64 0 ∧ Below W0.heap.size W0 wr) (fun iv _ => 0)
  case atStart => exact ⟨rfl, Below.refl _ _⟩
  case round =>
    obtain ⟨rfl, hB⟩ := hrel
    have HB : Hid (Below W0.heap.size W0 wr) := hB
    obtain ⟨k0, -⟩ := HBC.out wr (HBw0.out.trans (hB.mono (by have := HS0.out; omega)))
    clear hB
    go_wp2_with fail
    go_quiet (fail)
    have HBX : Hid (Below W0.heap.size W0 (wr.drewN nq)) := HB.out.trans ⟨rfl, rfl, rfl, Nat.le_refl _, fun _ _ => rfl⟩
    clear k0
    generalize wr.drewN nq = wx at *
    have hB0 := HBX.out
    have hs0 : w.heap.size ≤ wx.heap.size := by have := hB0.size; have := HS0.out; omega
    have hBw : Below w.heap.size w wx := HBw0.out.trans (hB0.mono (by have := HS0.out; omega))
    have hb1 := hBw.alloc hs0 (.cells #[] 71)
    obtain ⟨k0, -⟩ := HBC.out (wx.alloc (.cells #[] 71)) hb1
    obtain ⟨f0, f1, f2⟩ := HFC.out (wx.alloc (.cells #[] 71)) (hB0.alloc hB0.size _)
    have hown0 : (wx.alloc (.cells #[] 71)).ownsRow w.heap.size 71 3 (.slice (some ⟨wx.heap.size, 0, none⟩) 0 0) 0 [] := ⟨rfl, .inr ⟨wx.heap.size, 0, #[], rfl, hs0, heap_alloc_new wx _, Nat.le_refl _, by unfold maxLen; omega, rfl, rfl⟩⟩
    go_wp2_with (first
      | (at_builtin; refine wpList_append_own _ rfl _ _ 28 rfl w.heap.size 71 i0 _ 3 48 Tryz.underlying28 hi hz0 hz1 hz2 rfl (by decide) _ 0 [] rfl (hown0.alloc _) ⟨wx.heap.size + 1, 0, none⟩ 1 1 [.string ⟨fn.toArray⟩, .slice fa fd.length fc, .int .i64 fy] rfl rfl (by simpa using cell_three_new (wx.alloc (.cells #[] 71)) (.string ⟨fn.toArray⟩) (.slice fa fd.length fc) (.int .i64 fy) 71) (by intro u hu; simp at hu; rcases hu with rfl | rfl | rfl <;> rfl) (by unfold maxLen; omega) (by omega) (by simp; omega) ?_; intro v2 w2 hown2 hg2 _; have hB2 : Below w.heap.size w w2 := (hb1.alloc hb1.size _).grown hg2 (by have := hb1.size; simp; omega) (fun j e => (hown0.lt j e).1); obtain ⟨x0, x4⟩ := HBC.out w2 hB2; rw [Nat.zero_add, List.nil_append] at hown2; obtain ⟨g2, c2, rfl, hc2⟩ := row_some hown2 (by omega))
      | fail)
    go_end0
    exact ⟨rfl, _, put_done (k := 0) (fs := []) HH.out hBlt hN hx hB2 (by simpa [cellsOf] using hown2) rfl (Nat.le_refl _)⟩
end Go.Proofs.YtadajbdmlmickaaGreatDoor
namespace Go.Proofs.YtadajbdmlmickaaGreatDoor
open Go.RowKit
set_option linter.unusedVariables false
set_option linter.unusedSimpArgs false

set_option maxRecDepth 100000 in
set_option maxHeartbeats 4000000 in
theorem refName_any (nm : List UInt8) (w : World) (hl : nm.length ≤ maxLen) : Calls Tryz.prog 107 #[.string ⟨nm.toArray⟩] w fun r w' => r = .returned (.bool (isNm nm)) ∧ w' = w := by
  unfold maxLen at hl
  have HI : Hid (nm.all (fun x => ofNm x.toNat) = true → isNm nm = (decide (1 ≤ nm.length) && decide (nm.length ≤ 32))) := fun h => by simp [isNm, h]
  go_enter Tryz.func107, Tryz.ntmps107
  go_wp2
  go_loopw [3] (fun iv wr => ∃ k : Nat, iv = .int .i64 (k : Int) ∧ k ≤ nm.length ∧ wr = w ∧ (nm.take k).all (fun x => ofNm x.toNat) = true) (fun iv _ => nm.length - (intOf iv).toNat)
  case atStart => exact ⟨0, rfl, Nat.zero_le _, rfl, by simp⟩
  case round =>
    obtain ⟨k, rfl, hk, rfl, hall⟩ := hrel
    have HA : Hid ((nm.take k).all (fun x => ofNm x.toNat) = true) := hall
    clear hall
    by_cases hlt : k < nm.length
    · have HX : Hid (nm.take (k + 1) = nm.take k ++ [nm[k]]) := List.take_succ_eq_append_getElem hlt
      have HZ : Hid (ofNm nm[k].toNat = false → isNm nm = false) := fun hx => by
        have : nm.all (fun x => ofNm x.toNat) = false := by
          rw [List.all_eq_false]
          exact ⟨nm[k], List.getElem_mem hlt, by simp [hx]⟩
        simp [isNm, this]
      have HB : Hid (({ data := nm.toArray } : ByteArray)[k].toNat = nm[k].toNat) := rfl
      go_wp2
      all_goals first
        | (go_ret; refine ⟨?_, rfl⟩; rw [HZ.out (by have hcv := HB.out; (try simp only [bne_iff_ne, ne_eq, bne_eq_false_iff_eq] at *); simp only [ofNm, Bool.or_eq_false_iff, Bool.and_eq_false_iff, decide_eq_false_iff_not]; omega)]; rfl)
        | (refine ⟨⟨k + 1, by go_num, by omega, trivial, ?_⟩, by simp [intOf]; omega⟩; rw [HX.out, List.all_append, HA.out]; have hof : ofNm nm[k].toNat = true := (by have hcv := HB.out; (try simp only [bne_iff_ne, ne_eq, bne_eq_false_iff_eq] at *); simp only [ofNm, Bool.or_eq_true, Bool.and_eq_true, decide_eq_true_eq]; omega); simpa using hof)
    · have hall := HA.out
      rw [List.take_of_length_le (by omega)] at hall
      have HE := HI.out hall
      by_cases h1 : 1 ≤ nm.length
      · by_cases h2 : nm.length ≤ 32
        · have HE2 : Hid (isNm nm = true) := by show isNm nm = true; rw [HE]; simp [h1, h2]
          clear hall HE
          go_wp2
          go_ret
          exact ⟨by rw [HE2.out]; show Ending.returned (.bool (decide ((nm.length : Int) ≤ 32))) = _; rw [decide_eq_true (by omega)], rfl⟩
        · have HE2 : Hid (isNm nm = false) := by show isNm nm = false; rw [HE]; simp [h2]
          clear hall HE
          go_wp2
          go_ret
          exact ⟨by rw [HE2.out]; show Ending.returned (.bool (decide ((nm.length : Int) ≤ 32))) = _; rw [decide_eq_false (by omega)], rfl⟩
      · have HE2 : Hid (isNm nm = false) := by show isNm nm = false; rw [HE]; simp [h1]
        clear hall HE
        go_wp2
        go_ret
        exact ⟨by rw [HE2.out]; rfl, rfl⟩
end Go.Proofs.YtadajbdmlmickaaGreatDoor
namespace Go.Proofs.YtadajbdmlmickaaGreatDoor
open Go.RowKit Go.Shelf
set_option linter.unusedVariables false

theorem says_nm : ∀ {fs : List Fl} {ps : List PF}, fs.map Fl.says = ps.map PF.says → ∀ nm, (∃ f ∈ fs, f.nm = nm) ↔ (lookP nm ps).isSome = true
  | [], [], _, nm => by simp [lookP]
  | [], _ :: _, h, _ => by simp at h
  | _ :: _, [], h, _ => by simp at h
  | f :: r, q :: s, h, nm => by
    simp only [List.map_cons, List.cons.injEq, Fl.says, PF.says, Prod.mk.injEq] at h
    have ih := says_nm h.2 nm
    unfold lookP at ih ⊢
    rw [List.find?_cons]
    by_cases hq : q.nm = nm
    · simp [hq, h.1.1]
    · have : (q.nm == nm) = false := by simpa using hq
      rw [this]
      simp only [List.mem_cons, exists_eq_or_imp, h.1.1, hq, false_or]
      exact ih
theorem sumF_ins (f : Fl) : ∀ fs : List Fl, sumF (insF f fs) = f.dat.length + sumF fs
  | [] => by simp [insF, sumF]
  | y :: q => by
    have ih := sumF_ins f q
    unfold insF
    split
    · simp only [sumF, List.map_cons, List.sum_cons] at *; omega
    · simp [sumF]
theorem len_ins (f : Fl) : ∀ fs : List Fl, (insF f fs).length = fs.length + 1
  | [] => rfl
  | y :: q => by
    have ih := len_ins f q
    unfold insF
    split <;> simp [ih]
/-- What Create leaves of the document's disk. -/
theorem create_rd {N : Nat} {w w' : World} {B : Nat} {p : PD} {v v' : Value} {fs : List Fl} {l nm : List UInt8} (h : RD N w B p v fs l) (hl : (nm == l) = false) (hnone : ∀ f ∈ fs, f.nm ≠ nm) (hfw : fs.length < 256)
    (hd : w'.heap[B]? = some (.cells #[v', .int .i64 (p.arm : Int), .bool p.dn, .string ⟨l.toArray⟩] 30 (0, 0))) (hfi : FilesIn N w' v' (insF ⟨nm, none, 0, [], 0⟩ fs)) : RD N w' B { p with fs := insP ⟨nm, [], 0, false⟩ p.fs } v' (insF ⟨nm, none, 0, [], 0⟩ fs) l := by
  have hps : ∀ q ∈ p.fs, q.nm ≠ nm := fun q hq e => by
    have : (lookP nm p.fs).isSome = true := by
      unfold lookP
      rw [List.find?_isSome]
      exact ⟨q, hq, by simpa using e⟩
    obtain ⟨f, hf, e2⟩ := (says_nm h.sy nm).2 this
    exact hnone f hf e2
  have hsy : (insF ⟨nm, none, 0, [], 0⟩ fs).map Fl.says = (insP ⟨nm, [], 0, false⟩ p.fs).map PF.says := insF_says ⟨nm, none, 0, [], 0⟩ ⟨nm, [], 0, false⟩ rfl h.sy hps
  refine ⟨h.le, hd, hfi, hsy, by rw [len_ins]; omega, ?_, ?_⟩
  · have e := sum_says hsy
    rw [sumF_ins, sum_says h.sy] at e
    have := h.sm
    simp at e
    show sumP (insP ⟨nm, [], 0, false⟩ p.fs) ≤ 16777216
    omega
  · intro f hf
    rcases mem_insP.1 hf with rfl | hf
    · exact hl.symm
    · exact h.la f hf

end Go.Proofs.YtadajbdmlmickaaGreatDoor
namespace Go.Proofs.YtadajbdmlmickaaGreatDoor
open Go.RowKit Go.Shelf
set_option linter.unusedVariables false

/-- Its own block was turned, the files stay. -/
theorem RD.turn {N : Nat} {w w' : World} {B : Nat} {p p' : PD} {v : Value} {fs : List Fl} {l : List UInt8} (h : RD N w B p v fs l) (hO : Out (· = B) w w') (hd : w'.heap[B]? = some (.cells #[v, .int .i64 (p'.arm : Int), .bool p'.dn, .string ⟨l.toArray⟩] 30 (0, 0))) (hfs : p'.fs = p.fs) : RD N w' B p' v fs l := by
  refine ⟨h.le, hd, ⟨row_out h.fi.row hO (fun g hg e => ?_), fun f hf => (h.fi.own f hf).out hO (fun g hg e => (h.fi.own f hf).not_at h.hd (by decide) (by rw [hg, e]))⟩, by rw [hfs]; exact h.sy, h.fw, by rw [hfs]; exact h.sm, by rw [hfs]; exact h.la⟩
  rcases h.fi.row.2 with ⟨rfl, _⟩ | ⟨g', cap, cur, rfl, _, hgb, _⟩
  · simp [Value.ownBlock] at hg
  · simp [Value.ownBlock] at hg
    subst hg e
    rw [h.hd] at hgb
    cases hgb

set_option maxRecDepth 100000 in
set_option maxHeartbeats 2000000 in
theorem refFails_any {N : Nat} {w : World} {B : Nat} {p : PD} {v : Value} {fs : List Fl} {l : List UInt8} (h : RD N w B p v fs l) (hm : p.arm ≤ 9223372036854775807) :
    Calls Tryz.prog 105 #[.pointer (some ⟨B, 0, none⟩)] w fun r w' => r = .returned (.bool p.fell) ∧ RD N w' B p.fail v fs l ∧ Out (· = B) w w' := by
  obtain ⟨k0, k1, k2, k3, f0, f1, f2, f3⟩ := h.cells
  rcases (show p.arm = 0 ∨ p.arm = 1 ∨ 2 ≤ p.arm by omega) with ha | ha | ha
  · have e1 : p.fell = false := by simp [PD.fell, ha]
    have e2 : p.fail = p := by simp [PD.fail, ha]
    rw [e1, e2]
    refine (refFails0_any h ha).mono ?_
    rintro r w' ⟨rfl, rfl⟩
    exact ⟨rfl, h, Out.refl _ _⟩
  · have HE : Hid (p.fell = true) := by show p.fell = true; simp [PD.fell, ha]
    have HP : Hid (p.fail.arm = 0 ∧ p.fail.dn = true) := by
      show p.fail.arm = 0 ∧ p.fail.dn = true
      simp [PD.fail, ha]
    rw [ha] at k1
    have HR : Hid (RD N ((w.setCell ⟨B, 1, none⟩ (.int .i64 ((0 : Nat) : Int))).setCell ⟨B, 2, none⟩ (.bool true)) B p.fail v fs l ∧ Out (· = B) w ((w.setCell ⟨B, 1, none⟩ (.int .i64 ((0 : Nat) : Int))).setCell ⟨B, 2, none⟩ (.bool true))) := by
      have e1 : Out (· = B) w ((w.setCell ⟨B, 1, none⟩ (.int .i64 ((0 : Nat) : Int))).setCell ⟨B, 2, none⟩ (.bool true)) := (Out.set (X := (· = B)) rfl).trans (Out.set (X := (· = B)) rfl) (fun i hi _ => hi)
      refine ⟨h.turn e1 ?_ (pd_fail_fs p), e1⟩
      have h1 := heap_set (heap_set h.hd 1 (.int .i64 ((0 : Nat) : Int))) 2 (.bool true)
      rw [HP.out.1, HP.out.2]
      simpa using h1
    clear h
    go_enter Tryz.func105, Tryz.ntmps105
    go_wp2
    go_ret
    exact ⟨by rw [HE.out]; rfl, HR.out⟩
  · have HE : Hid (p.fell = false) := by show p.fell = false; simp [PD.fell]; omega
    obtain ⟨n, hn⟩ : ∃ n, p.arm = n + 2 := ⟨p.arm - 2, by omega⟩
    have HP : Hid (p.fail.arm = n + 1 ∧ p.fail.dn = false) := by
      show p.fail.arm = n + 1 ∧ p.fail.dn = false
      simp [PD.fail, hn]
    rw [hn] at k1
    have hnb : n + 2 ≤ 9223372036854775807 := by omega
    have hn0 : (((n + 1 : Nat) : Int) == 0) = false := by simp; omega
    have hn1 : ((n : Int) + 1 == 0) = false := by simp; omega
    have HR : Hid (RD N ((w.setCell ⟨B, 1, none⟩ (.int .i64 ((n + 1 : Nat) : Int))).setCell ⟨B, 2, none⟩ (.bool false)) B p.fail v fs l ∧ Out (· = B) w ((w.setCell ⟨B, 1, none⟩ (.int .i64 ((n + 1 : Nat) : Int))).setCell ⟨B, 2, none⟩ (.bool false))) := by
      have e1 : Out (· = B) w ((w.setCell ⟨B, 1, none⟩ (.int .i64 ((n + 1 : Nat) : Int))).setCell ⟨B, 2, none⟩ (.bool false)) := (Out.set (X := (· = B)) rfl).trans (Out.set (X := (· = B)) rfl) (fun i hi _ => hi)
      refine ⟨h.turn e1 ?_ (pd_fail_fs p), e1⟩
      have h1 := heap_set (heap_set h.hd 1 (.int .i64 ((n + 1 : Nat) : Int))) 2 (.bool false)
      rw [HP.out.1, HP.out.2]
      simpa using h1
    clear h ha hn
    go_enter Tryz.func105, Tryz.ntmps105
    go_wp2
    go_ret
    have e1 : ((n : Int) + 2 - 1) = ((n + 1 : Nat) : Int) := by omega
    refine ⟨?_, ?_⟩
    · rw [HE.out]
      show Ending.returned (.bool ((n : Int) + 2 - 1 == 0)) = _
      rw [e1, hn0]
    · show RD N ((w.setCell ⟨B, 1, none⟩ (.int .i64 ((n : Int) + 2 - 1))).setCell ⟨B, 2, none⟩ (.bool ((n : Int) + 2 - 1 == 0))) B p.fail v fs l ∧ Out (· = B) w ((w.setCell ⟨B, 1, none⟩ (.int .i64 ((n : Int) + 2 - 1))).setCell ⟨B, 2, none⟩ (.bool ((n : Int) + 2 - 1 == 0)))
      rw [e1, hn0]
      exact HR.out
end Go.Proofs.YtadajbdmlmickaaGreatDoor
