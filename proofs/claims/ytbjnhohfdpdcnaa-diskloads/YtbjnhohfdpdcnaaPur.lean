/-
  The operations of a disk on plain lists; how they and the lists in memory go together.
-/
import Derived.Test.YtbjnhohfdpdcnaaLaw
import Derived.Sort.KeysCollected
namespace Go.Proofs.Ytbjnhohfdpdcnaa
open Go.RowKit

def lookP (nm : List UInt8) (fs : List PF) : Option PF := fs.find? (fun f => f.nm == nm)
def delP (nm : List UInt8) (fs : List PF) : List PF := fs.filter (fun f => !(f.nm == nm))
def insP (f : PF) : List PF → List PF
  | [] => [f]
  | y :: q => if bytesBefore f.nm y.nm then f :: y :: q else y :: insP f q
def sumP (fs : List PF) : Nat := (fs.map fun f => f.dat.length).sum
def PD.fail (p : PD) : PD := if p.arm = 0 then p else { p with arm := p.arm - 1, dn := p.arm == 1 }
def PD.fell (p : PD) : Bool := p.arm == 1

def syncP (nm : List UInt8) (f : PF) : PF := if f.nm == nm then { f with syn := f.dat.length } else f
def cutP (nm : List UInt8) (n : Nat) (f : PF) : PF := if f.nm == nm then { f with dat := f.dat.take n, syn := min f.syn n } else f
def appP (nm b : List UInt8) (f : PF) : PF := if f.nm == nm then { f with dat := f.dat ++ b, late := true } else { f with late := false }
/-- What a crash leaves of a file. -/
def crashP (keep : Int) (f : PF) : PF :=
  let s := if f.late then f.syn + min keep.toNat (f.dat.length - f.syn) else f.syn
  ⟨f.nm, f.dat.take s, s, false⟩

def doCreate (p : PD) (nm : List UInt8) : Nat × PD :=
  if p.dn then (11, p) else if isNm nm = false then (7, p) else if (lookP nm p.fs).isSome then (9, p) else if 256 ≤ p.fs.length then (10, p) else
  if p.fell then (11, p.fail) else (0, { p.fail with fs := insP ⟨nm, [], 0, false⟩ (delP nm p.fs) })
def doSync (p : PD) (nm : List UInt8) : Nat × PD :=
  if p.dn then (11, p) else if (lookP nm p.fs).isSome = false then (8, p) else
  if p.fell then (11, p.fail) else (0, { p.fail with fs := p.fs.map (syncP nm) })
def doCut (p : PD) (nm : List UInt8) (n : Int) : Nat × PD :=
  if p.dn then (11, p) else match lookP nm p.fs with
  | none => (8, p)
  | some f => if n < 0 ∨ (f.dat.length : Int) < n then (1, p) else
    if p.fell then (11, p.fail) else (0, { p.fail with fs := p.fs.map (cutP nm n.toNat) })
def doAppend (p : PD) (nm b : List UInt8) : Nat × PD :=
  if p.dn then (11, p) else if (lookP nm p.fs).isSome = false then (8, p) else
  if 16777216 < b.length + sumP p.fs then (10, p) else
  if p.fell then (11, { p.fail with fs := p.fs.map (appP nm (b.take (b.length / 2))) }) else (0, { p.fail with fs := p.fs.map (appP nm b) })
def doRename (p : PD) (nm to : List UInt8) : Nat × PD :=
  if p.dn then (11, p) else match lookP nm p.fs with
  | none => (8, p)
  | some f => if isNm to = false then (7, p) else
    if p.fell then (11, p.fail) else if nm = to then (0, p.fail) else (0, { p.fail with fs := insP { f with nm := to } (delP to (delP nm (delP to p.fs))) })
def doRemove (p : PD) (nm : List UInt8) : Nat × PD :=
  if p.dn then (11, p) else if (lookP nm p.fs).isSome = false then (8, p) else
  if p.fell then (11, p.fail) else (0, { p.fail with fs := delP nm p.fs })
def doCrash (p : PD) (keep : Int) : PD := ⟨p.fs.map (crashP keep), 0, false⟩

theorem look_pf (l : Option Nat) (nm : List UInt8) (rs : List Rw) : lookP nm (rs.map (Rw.pf l)) = (look nm rs).map (Rw.pf l) := by
  unfold lookP look
  rw [List.find?_map]; rfl
theorem look_pd (k : DS) (nm : List UInt8) : lookP nm k.pd.fs = (look nm k.rs).map (Rw.pf k.last) := look_pf _ _ _
theorem del_pf (l : Option Nat) (nm : List UInt8) (rs : List Rw) : (delR nm rs).map (Rw.pf l) = delP nm (rs.map (Rw.pf l)) := by
  unfold delR delP
  rw [List.filter_map]; rfl
theorem ins_pf (l : Option Nat) (r : Rw) (rs : List Rw) : (insR r rs).map (Rw.pf l) = insP (Rw.pf l r) (rs.map (Rw.pf l)) := by
  induction rs with
  | nil => rfl
  | cons y q ih =>
    simp only [insR, List.map_cons, insP]
    by_cases h : bytesBefore r.nm y.nm
    · rw [if_pos h, if_pos (show bytesBefore (Rw.pf l r).nm (Rw.pf l y).nm = true from h)]; rfl
    · rw [if_neg h, if_neg (show ¬ bytesBefore (Rw.pf l r).nm (Rw.pf l y).nm = true from h), List.map_cons, ih]
theorem sum_pf (l : Option Nat) (rs : List Rw) : sumP (rs.map (Rw.pf l)) = sumLen rs := by
  unfold sumP sumLen
  rw [List.map_map]; rfl
theorem fail_pd (k : DS) : k.fail.pd = k.pd.fail := by
  unfold DS.fail PD.fail DS.pd
  by_cases h : k.arm = 0 <;> simp [h]
theorem fell_pd (k : DS) : k.pd.fell = k.fell := rfl
theorem fail_rs (k : DS) : k.fail.rs = k.rs := by unfold DS.fail; split <;> rfl
theorem fail_m (k : DS) : k.fail.m = k.m := by unfold DS.fail; split <;> rfl
theorem fail_last (k : DS) : k.fail.last = k.last := by unfold DS.fail; split <;> rfl
theorem pd_fail_fs (p : PD) : p.fail.fs = p.fs := by unfold PD.fail; split <;> rfl

theorem map_repl {rs : List Rw} {r r' : Rw} (hap : rs.Pairwise Apart) (hr : r ∈ rs) (hb : r'.b = r.b) (l l' : Option Nat) (G : PF → PF) (h1 : Rw.pf l' r' = G (Rw.pf l r)) (h2 : ∀ q ∈ rs, q.b ≠ r.b → Rw.pf l' q = G (Rw.pf l q)) :
    (rs.map (repl r')).map (Rw.pf l') = (rs.map (Rw.pf l)).map G := by
  rw [List.map_map, List.map_map]
  refine List.map_congr_left fun q hq => ?_
  show Rw.pf l' (repl r' q) = G (Rw.pf l q)
  unfold repl
  split
  · rename_i e
    rw [apart_eq hap hr hq (by rw [e, hb])]
    exact h1
  · rename_i e
    exact h2 q hq (by rw [← hb]; exact e)

theorem repl_same {rs : List Rw} {r' : Rw} (h : ∀ q ∈ rs, q.b ≠ r'.b) : rs.map (repl r') = rs := by
  have : rs.map (repl r') = rs.map id := List.map_congr_left fun q hq => by unfold repl; rw [if_neg (h q hq)]; rfl
  rw [this, List.map_id]
theorem sum_repl : ∀ {rs : List Rw} {r r' : Rw}, rs.Pairwise Apart → r ∈ rs → r'.b = r.b → sumLen (rs.map (repl r')) + r.dat.length = sumLen rs + r'.dat.length
  | [], _, _, _, hr, _ => by simp at hr
  | q :: t, r, r', hap, hr, hb => by
    obtain ⟨h1, h2⟩ := List.pairwise_cons.1 hap
    simp only [List.map_cons, sumLen, List.sum_cons]
    rcases List.mem_cons.1 hr with e | hr'
    · have e2 : repl r' q = r' := by unfold repl; rw [if_pos (by rw [hb, e])]
      have e3 : t.map (repl r') = t := repl_same (fun x hx => by rw [hb, e]; exact fun e4 => (h1 x hx).1 e4.symm)
      rw [e2, e3, e]
      omega
    · have e2 : repl r' q = q := by unfold repl; rw [if_neg (by rw [hb]; exact (h1 r hr').1)]
      have := sum_repl h2 hr' hb
      unfold sumLen at this
      rw [e2]
      omega
theorem sum_del_le : ∀ {rs : List Rw} {r : Rw}, r ∈ rs → r.dat.length + sumLen (delR r.nm rs) ≤ sumLen rs
  | [], _, hr => by simp at hr
  | q :: t, r, hr => by
    by_cases e : q.nm == r.nm
    · have e1 : delR r.nm (q :: t) = delR r.nm t := by simp [delR, e]
      rw [e1]
      rcases List.mem_cons.1 hr with rfl | hr'
      · have := sum_delR r.nm t
        simp only [sumLen, List.map_cons, List.sum_cons] at *
        omega
      · have := sum_del_le hr'
        simp only [sumLen, List.map_cons, List.sum_cons] at *
        omega
    · have e1 : delR r.nm (q :: t) = q :: delR r.nm t := by simp [delR, e]
      rw [e1]
      rcases List.mem_cons.1 hr with e2 | hr'
      · exact absurd (by rw [e2]; simp) e
      · have := sum_del_le hr'
        simp only [sumLen, List.map_cons, List.sum_cons] at *
        omega
theorem len_del_lt {rs : List Rw} {r : Rw} (hr : r ∈ rs) : (delR r.nm rs).length < rs.length := by
  unfold delR
  refine List.length_filter_lt_length_iff_exists.2 ⟨r, hr, by simp⟩

theorem pairwise_any {α : Type} {R : α → α → Prop} (hs : ∀ a b, R a b → R b a) : ∀ {t : List α}, t.Pairwise R → ∀ x ∈ t, ∀ y ∈ t, x = y ∨ R x y
  | [], _ => by simp
  | z :: t, h => by
    obtain ⟨h1, h2⟩ := List.pairwise_cons.1 h
    intro x hx y hy
    rcases List.mem_cons.1 hx with ex | hx'
    · rcases List.mem_cons.1 hy with ey | hy'
      · exact .inl (ex.trans ey.symm)
      · exact .inr (ex ▸ h1 y hy')
    · rcases List.mem_cons.1 hy with ey | hy'
      · exact .inr (ey ▸ hs _ _ (h1 x hx'))
      · exact pairwise_any hs h2 x hx' y hy'

/-- The names rise. -/
theorem DkC.rise {S : Nat → Prop} {w : World} {d : Nat} {k : DS} (h : DkC S w d k) : k.rs.Pairwise (fun r q => bytesBefore r.nm q.nm = true) := by
  obtain ⟨es, clock, hb, F, _, hD⟩ := h.hm
  have h1 := Go.Maps.sorted_sorted law9.one _ (Go.Maps.fit_keys F) (Go.Maps.fit_apart law9 F)
  have h2 : k.rs.map Rw.ent = (es.toList.map (WideElems.rg Try.prog 9 ptrElem)).foldr DataW.insert [] := by injection hD
  rw [← h2, List.pairwise_map] at h1
  exact h1.imp (fun {a b} hab => by simpa [Rw.ent, Lit.before] using hab)
theorem before_ne {a b : List UInt8} (h : bytesBefore a b = true) : a ≠ b := by
  intro e
  subst e
  induction a with
  | nil => simp [bytesBefore] at h
  | cons x r ih =>
    simp [bytesBefore] at h
    exact ih h
theorem DkC.nms {S : Nat → Prop} {w : World} {d : Nat} {k : DS} (h : DkC S w d k) {r q : Rw} (hr : r ∈ k.rs) (hq : q ∈ k.rs) (e : q.nm = r.nm) : q = r := by
  have := pairwise_any (R := fun (a b : Rw) => a.nm ≠ b.nm) (fun a b hab e => hab e.symm) (h.rise.imp (fun hab => before_ne hab)) q hq r hr
  exact this.resolve_right (fun hn => hn e)
theorem DkC.nm_ne {S : Nat → Prop} {w : World} {d : Nat} {k : DS} (h : DkC S w d k) {r q : Rw} (hr : r ∈ k.rs) (hq : q ∈ k.rs) (hne : q.b ≠ r.b) : q.nm ≠ r.nm := fun e => hne (by rw [h.nms hr hq e])
theorem DkC.look {S : Nat → Prop} {w : World} {d : Nat} {k : DS} (h : DkC S w d k) {r : Rw} (hr : r ∈ k.rs) : look r.nm k.rs = some r := by
  cases hf : Ytbjnhohfdpdcnaa.look r.nm k.rs with
  | none =>
    have := List.find?_eq_none.1 hf r hr
    simp at this
  | some q =>
    obtain ⟨hq, hn⟩ := look_some hf
    rw [h.nms hr hq hn]

theorem apart_insR {r : Rw} {rs : List Rw} (h : rs.Pairwise Apart) (hr : ∀ q ∈ rs, Apart r q) : (insR r rs).Pairwise Apart := by
  induction rs with
  | nil => simp [insR]
  | cons y q ih =>
    obtain ⟨h1, h2⟩ := List.pairwise_cons.1 h
    unfold insR
    split
    · exact List.pairwise_cons.2 ⟨hr, h⟩
    · refine List.pairwise_cons.2 ⟨fun x hx => ?_, ih h2 (fun x hx => hr x (by simp [hx]))⟩
      rcases mem_insR.1 hx with rfl | hx
      · exact (hr y (by simp)).symm
      · exact h1 x hx
theorem apart_delR {nm : List UInt8} {rs : List Rw} (h : rs.Pairwise Apart) : (delR nm rs).Pairwise Apart := h.filter _

/-- Only a file's own block has turned. -/
theorem At.turnF1 {S : Nat → Prop} {w0 w w' : World} {d : Nat} {k : DS} (h : At S w0 w d k) {r r' : Rw} (hr : r ∈ k.rs) (hO : Out (· = r.b) w w') (hsz : w'.heap.size = w.heap.size)
    (hc : w'.heap[r.b]? = some (.cells #[r'.v, .int .i64 (r'.syn : Int)] 79 (0, 0))) (hb : r'.b = r.b) (hn : r'.nm = r.nm) (hv : ∀ g, r'.v.ownBlock = some g → r.v.ownBlock = some g) (hown : Ow 0 w r'.v r'.dat) (hsyn : r'.syn ≤ r'.dat.length) (hlen : r'.dat.length ≤ r.dat.length) :
    At S w0 w' d { k with rs := k.rs.map (repl r') } := by
  have hf := h.dk.fs r hr
  have hS := h.dk.Sf r hr
  have hT : ∀ i, grew S w0 w i → grew S w0 w' i := fun i hi => grew_mono (by omega) hi
  refine h.go (hO.mono (fun i hi => by rw [hi]; exact hS.1)) ?_
  refine h.dk.turnF hr (hO.mono (fun i hi => .inl hi)) ⟨by rw [hb]; exact hc, hown.out hO (fun g hg => hf.ne2 hf.cell (by simp) g (hv g hg)), hsyn, by rw [hn]; exact hf.nm⟩ hb hn (fun g hg => .inl (hv g hg)) ?_ hT (fun g hg => hT _ (hS.2 g (hv g hg))) ?_
  · have := sum_repl h.dk.ap hr hb
    have := h.dk.all
    omega
  · intro i hi
    have := h.dk.inn i (grew_mono (by omega) hi)
    omega

section
variable {ops : Array Oper} {rest : List Oper} {o : Oper} {a : Act} {Q : Exit → Act → World → Prop} {w : World}
/-- A step of a range over a disk's files. -/
theorem wpList_next_disk (hg : o.guard = none) (it : Operand) (hop : o.op = Op.next it false) (B r n : Nat) (rs : List Rw) (left : Lit → Bool) (cnt : Nat) (hit : a.eval it = .pointer (some ⟨r, 0, none⟩)) (h : w.ranges Try.prog 9 ptrElem B r n (.map (rs.map Rw.ent)) left cnt)
    (hDone : cnt = 0 → (∀ kl, left kl = false) → wpList Try.prog ops Q rest (a.put o.dst (.tuple #[.bool false])) w)
    (hMore : ∀ (f : Rw) (w' : World) (cnt' : Nat), f ∈ rs → look f.nm rs = some f → f.nm.length ≤ maxLen → left (.string f.nm) = true → w'.ranges Try.prog 9 ptrElem B r n (.map (rs.map Rw.ent)) (fun z => left z && !z.sameKey (.string f.nm)) cnt' → cnt' < cnt →
      w.grownBy w' (some r) → w'.heap.size = w.heap.size → (Instr.entry (.pointer (some ⟨r, 0, none⟩))).run Try.prog w' = .ok (.tuple #[.string ⟨f.nm.toArray⟩, .pointer (some ⟨f.b, 0, none⟩)]) w' →
      wpList Try.prog ops Q rest (a.put o.dst (.tuple #[.bool true, .string ⟨f.nm.toArray⟩, .pointer (some ⟨f.b, 0, none⟩)])) w') :
    wpList Try.prog ops Q (o :: rest) a w := by
  refine wpList_next_ranges (α := List UInt8) (β := Option Nat) w hg it hop 9 law9 ptrElem (fun l => .string ⟨l.toArray⟩) ptrV (fun key kl hk => by obtain ⟨x, hx, _⟩ := Maps.keyOf_str Try.underlying9 hk; exact ⟨x, hx⟩) (fun v y hv => ptrElem_inv hv) B r n _ left cnt hit h hDone ?_
  intro x c kl y w' cnt' hkey hlk hv hat hrg hlt hgr hsz hen
  obtain ⟨x', ex, rfl, hxl⟩ := Maps.keyOf_str Try.underlying9 hkey
  obtain rfl : x = x' := encStr_inj ex
  have h1 := hat .nil
  have h2 := hat (.lit (.bool true))
  rw [atKey_ents] at h1 h2
  cases hf : look x rs with
  | none => rw [hf] at h1 h2; simp only at h1 h2; rw [← h1] at h2; cases h2
  | some f =>
    rw [hf] at h1
    simp only at h1
    obtain ⟨hm, rfl⟩ := look_some hf
    have hc : ptrV c = .pointer (some ⟨f.b, 0, none⟩) := ptrElem_at (ps := y.2) (by rw [hv, h1])
    rw [hc] at hen ⊢
    exact hMore f w' cnt' hm hf hxl hlk hrg hlt hgr hsz hen
end

end Go.Proofs.Ytbjnhohfdpdcnaa
