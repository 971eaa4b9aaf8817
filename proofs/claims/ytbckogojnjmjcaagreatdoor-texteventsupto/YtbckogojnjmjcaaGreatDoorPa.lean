/-
  Acts of lines, lines of acts, plainly.
-/
import Derived.Test.YtbckogojnjmjcaaGreatDoorFp
namespace Go.Proofs.YtbckogojnjmjcaaGreatDoor
open Go

def inNum (n : Int) : Bool := decide (-4611686018427387904 ≤ n) && decide (n ≤ 4611686018427387904)
theorem inNum_iff {n : Int} : inNum n = true ↔ -4611686018427387904 ≤ n ∧ n ≤ 4611686018427387904 := by unfold inNum; simp
/-- The number of a word. -/
def numOf (s : Bs) : Option Int := match Lib.atoiAll s with
  | .ok v => if inNum v = true ∧ Lib.itoa v = s then some v else none
  | _ => none
theorem numOf_some {s : Bs} {n : Int} : numOf s = some n ↔ IsNum s n := by
  constructor
  · intro h
    unfold numOf at h
    split at h
    · split at h
      · rename_i v _ hv
        injection h with h
        subst h
        have := inNum_iff.1 hv.1
        exact ⟨this.1, this.2, hv.2⟩
      · cases h
    · cases h
  · rintro ⟨h1, h2, h3⟩
    unfold numOf
    rw [← h3, atoi_itoa n (by omega) (by omega)]
    simp only
    rw [if_pos ⟨inNum_iff.2 ⟨h1, h2⟩, trivial⟩]
theorem numOf_none {s : Bs} (h : ∀ n, ¬ IsNum s n) : numOf s = none := by
  cases hn : numOf s with
  | none => rfl
  | some n => exact absurd (numOf_some.1 hn) (h n)
theorem numOf_in {s : Bs} {n : Int} (h : numOf s = some n) : inNum n = true := inNum_iff.2 ⟨(numOf_some.1 h).1, (numOf_some.1 h).2.1⟩
theorem numOf_itoa {n : Int} (h : inNum n = true) : numOf (Lib.itoa n) = some n := numOf_some.2 ⟨(inNum_iff.1 h).1, (inNum_iff.1 h).2, rfl⟩
def picksL : List Bs := [[110, 111, 116, 105, 99, 101], [119, 111, 114, 107], [105, 110, 98, 111, 120], [116, 105, 99, 107], [99, 97, 108, 108], [119, 114, 105, 116, 101], [115, 121, 110, 99], [97, 112, 112, 108, 121], [115, 101, 110, 100]]
/-- Where a word stands first. -/
def idxOfL : List Bs → Bs → Option Nat
  | [], _ => none
  | x :: xs, s => if x = s then some 0 else (idxOfL xs s).map (· + 1)
theorem idxOfL_lt {l : List Bs} {s : Bs} {i : Nat} (h : idxOfL l s = some i) : i < l.length ∧ l.getD i [] = s := by
  induction l generalizing i with
  | nil => cases h
  | cons x xs ih =>
    unfold idxOfL at h
    split at h
    · rename_i hx; cases h; exact ⟨by simp, hx⟩
    · cases hk : idxOfL xs s with
      | none => rw [hk] at h; cases h
      | some k =>
        rw [hk] at h
        cases h
        have := ih hk
        exact ⟨by simp; omega, by simpa using this.2⟩
/-- A number's word. -/
def wordOf (f : Int) (l : List Bs) (n : Int) : Bs := if f ≤ n ∧ n < f + l.length then l.getD (n - f).toNat [] else [63]
def pickOf (s : Bs) : Option Int := (idxOfL picksL s).map fun i => 1 + (i : Int)
theorem pickOf_word {n : Int} (h1 : 1 ≤ n) (h2 : n ≤ 9) : pickOf (wordOf 1 picksL n) = some n := by
  have : n = 1 ∨ n = 2 ∨ n = 3 ∨ n = 4 ∨ n = 5 ∨ n = 6 ∨ n = 7 ∨ n = 8 ∨ n = 9 := by omega
  rcases this with rfl | rfl | rfl | rfl | rfl | rfl | rfl | rfl | rfl <;> decide
theorem pickOf_le {s : Bs} {n : Int} (h : pickOf s = some n) : 1 ≤ n ∧ n ≤ 9 := by
  unfold pickOf at h
  cases hk : idxOfL picksL s with
  | none => rw [hk] at h; cases h
  | some k =>
    rw [hk] at h
    cases h
    have := (idxOfL_lt hk).1
    simp only [picksL, List.length_cons, List.length_nil] at this
    show 1 ≤ 1 + (k : Int) ∧ 1 + (k : Int) ≤ 9
    omega
theorem pick_wd {n : Int} (h1 : 1 ≤ n) (h2 : n ≤ 9) : Wd (wordOf 1 picksL n) (wordOf 1 picksL n) := by
  have : n = 1 ∨ n = 2 ∨ n = 3 ∨ n = 4 ∨ n = 5 ∨ n = 6 ∨ n = 7 ∨ n = 8 ∨ n = 9 := by omega
  refine .inl ⟨rfl, ?_, ?_⟩
  all_goals rcases this with rfl | rfl | rfl | rfl | rfl | rfl | rfl | rfl | rfl <;> decide
/-- What a word says is put into its field. -/
def Pc.rd (p : Pc) (a : Ac) (s : Bs) : Except Nat Ac := match p with
  | .key => .ok { a with key := s }
  | .val => .ok { a with val := s }
  | .old => .ok { a with old := s }
  | .pick => match pickOf s with | none => .error 20 | some v => .ok { a with n := v }
  | .node => match numOf s with | none => .error 22 | some v => .ok { a with node := v }
  | .client => match numOf s with | none => .error 22 | some v => .ok { a with client := v }
  | .n => match numOf s with | none => .error 22 | some v => .ok { a with n := v }
  | .m => match numOf s with | none => .error 22 | some v => .ok { a with m := v }
def fill : List Pc → List Bs → Ac → Except Nat Ac
  | p :: ps, s :: ss, a => match p.rd a s with
    | .error e => .error e
    | .ok a' => fill ps ss a'
  | _, _, a => .ok a
def findF : List Fo → Bs → Option Fo
  | [], _ => none
  | f :: fs, s => if f.word = s then some f else findF fs s
/-- The act of words. -/
def parseW : List Bs → Except Nat Ac
  | [] => .error 20
  | wd :: ws => match findF formsL wd with
    | none => .error 20
    | some f => if ws.length ≠ f.pl.length then .error 21 else fill f.pl ws f.says
/-- The act of a line. -/
def PaR (s : Bs) (r : Except Nat Ac) : Prop := (4096 < s.length ∧ r = .error 3) ∨ (s.length ≤ 4096 ∧ (∀ ws, ¬ Ln s ws) ∧ r = .error 4) ∨ (s.length ≤ 4096 ∧ ∃ ws, Ln s ws ∧ r = parseW ws)
theorem PaR.uniq {s : Bs} {r q : Except Nat Ac} (h : PaR s r) (k : PaR s q) : r = q := by
  rcases h with ⟨h1, rfl⟩ | ⟨h1, h2, rfl⟩ | ⟨h1, ws, h2, rfl⟩ <;> rcases k with ⟨k1, rfl⟩ | ⟨k1, k2, rfl⟩ | ⟨k1, vs, k2, rfl⟩ <;> first | rfl | omega | exact absurd ‹Ln s _› (by first | exact h2 _ | exact k2 _) | (rw [h2.uniq _ k2])
def Pc.isNum : Pc → Bool
  | .node | .client | .n | .m => true
  | _ => false
def Pc.int (p : Pc) (a : Ac) : Int := match p with
  | .node => a.node
  | .client => a.client
  | .n => a.n
  | .m => a.m
  | .pick => a.n
  | _ => 0
def Pc.txt (p : Pc) (a : Ac) : Bs := match p with
  | .key => a.key
  | .val => a.val
  | .old => a.old
  | _ => []
def Pc.show (p : Pc) (a : Ac) : Bs := match p with
  | .key => quoteL a.key
  | .val => quoteL a.val
  | .old => quoteL a.old
  | .pick => wordOf 1 picksL a.n
  | .node => Lib.itoa a.node
  | .client => Lib.itoa a.client
  | .n => Lib.itoa a.n
  | .m => Lib.itoa a.m
def Pc.held (p : Pc) (a : Ac) : Bs := match p with
  | .key => a.key
  | .val => a.val
  | .old => a.old
  | .pick => wordOf 1 picksL a.n
  | .node => Lib.itoa a.node
  | .client => Lib.itoa a.client
  | .n => Lib.itoa a.n
  | .m => Lib.itoa a.m
def Pc.clr (p : Pc) (a : Ac) : Ac := match p with
  | .key => { a with key := [] }
  | .val => { a with val := [] }
  | .old => { a with old := [] }
  | .pick => { a with n := 0 }
  | .node => { a with node := 0 }
  | .client => { a with client := 0 }
  | .n => { a with n := 0 }
  | .m => { a with m := 0 }
def Fo.fits (f : Fo) (a : Ac) : Bool := if a.kind = 13 then decide (a.op = f.op) else if a.kind = 8 then (decide (a.m = 0) == decide (f.m = 0)) else true
def formOf : List Fo → Ac → Nat → Except Nat Fo
  | [], _, e => .error e
  | f :: fs, a, e => if f.kind ≠ a.kind then formOf fs a e else if f.fits a = true then .ok f else formOf fs a 20
def clrs : List Pc → Ac → Ac
  | [], a => a
  | p :: ps, a => clrs ps (p.clr a)
def Fo.rest (f : Fo) (a : Ac) : Ac := if a.kind = 8 then { clrs f.pl a with m := f.m } else clrs f.pl a
def numsOk (ps : List Pc) (a : Ac) : Bool := ps.all fun p => !p.isNum || inNum (p.int a)
def Fo.chk (f : Fo) (a : Ac) : Nat :=
  if f.rest a ≠ f.says then 4 else if a.kind = 2 ∧ ¬ (1 ≤ a.n ∧ a.n ≤ 9) then 20 else if a.kind = 8 ∧ a.m ≠ f.m then 1 else if numsOk f.pl a = true then 0 else 1
def Fo.line (f : Fo) (a : Ac) : Bs := Lib.join (f.word :: f.pl.map (·.show a)) [32]
/-- The line of an act. -/
def fmtF (a : Ac) : Except Nat Bs := match formOf formsL a 6 with
  | .error e => .error e
  | .ok f => if f.chk a ≠ 0 then .error (f.chk a) else if 4096 < a.key.length + a.val.length + a.old.length then .error 3 else if 4096 < (f.line a).length then .error 3 else .ok (f.line a)
theorem formOf_ok {fs : List Fo} {a : Ac} {e : Nat} {f : Fo} (h : formOf fs a e = .ok f) : f ∈ fs ∧ f.kind = a.kind ∧ f.fits a = true := by
  induction fs generalizing e with
  | nil => cases h
  | cons g fs ih =>
    unfold formOf at h
    split at h
    · have := ih h; exact ⟨.tail _ this.1, this.2⟩
    · rename_i hk
      split at h
      · rename_i hf
        cases h
        exact ⟨.head _, by simpa using hk, hf⟩
      · have := ih h; exact ⟨.tail _ this.1, this.2⟩
theorem formOf_err {fs : List Fo} {a : Ac} {e e' : Nat} (h : formOf fs a e = .error e') : e' = e ∨ e' = 20 := by
  induction fs generalizing e with
  | nil => cases h; exact .inl rfl
  | cons g fs ih =>
    unfold formOf at h
    split at h
    · exact ih h
    · split at h
      · cases h
      · exact .inr ((ih h).elim id id)
set_option maxRecDepth 10000 in
theorem findF_word : ∀ f ∈ formsL, findF formsL f.word = some f := by
  intro f hf
  simp only [formsL, List.mem_cons, List.not_mem_nil, or_false] at hf
  rcases hf with rfl | rfl | rfl | rfl | rfl | rfl | rfl | rfl | rfl | rfl | rfl | rfl | rfl | rfl | rfl | rfl | rfl | rfl | rfl | rfl <;> rfl
theorem findF_mem {fs : List Fo} {s : Bs} {f : Fo} (h : findF fs s = some f) : f ∈ fs ∧ f.word = s := by
  induction fs with
  | nil => cases h
  | cons g fs ih =>
    unfold findF at h
    split at h
    · rename_i hg; cases h; exact ⟨.head _, hg⟩
    · have := ih h; exact ⟨.tail _ this.1, this.2⟩
theorem word_wd : ∀ f ∈ formsL, Wd f.word f.word := by
  intro f hf
  simp only [formsL, List.mem_cons, List.not_mem_nil, or_false] at hf
  rcases hf with rfl | rfl | rfl | rfl | rfl | rfl | rfl | rfl | rfl | rfl | rfl | rfl | rfl | rfl | rfl | rfl | rfl | rfl | rfl | rfl <;> exact .inl ⟨rfl, by simp, by decide⟩
theorem Fo.chk_zero {f : Fo} {a : Ac} (h : f.chk a = 0) : f.rest a = f.says ∧ ¬ (a.kind = 2 ∧ ¬ (1 ≤ a.n ∧ a.n ≤ 9)) ∧ ¬ (a.kind = 8 ∧ a.m ≠ f.m) ∧ numsOk f.pl a = true := by
  unfold Fo.chk at h
  split at h
  · cases h
  · rename_i h1
    split at h
    · cases h
    · rename_i h2
      split at h
      · cases h
      · rename_i h3
        split at h
        · rename_i h4; exact ⟨by simpa using h1, h2, h3, h4⟩
        · cases h
theorem show_wd (p : Pc) (a : Ac) (h : p = .pick → 1 ≤ a.n ∧ a.n ≤ 9) : Wd (p.show a) (p.held a) := by
  cases p
  all_goals first
    | exact quote_wd _
    | exact itoa_wd _
    | exact pick_wd (h rfl).1 (h rfl).2
theorem pick_kind : ∀ f ∈ formsL, Pc.pick ∈ f.pl → f.kind = 2 := by
  intro f hf
  simp only [formsL, List.mem_cons, List.not_mem_nil, or_false] at hf
  rcases hf with rfl | rfl | rfl | rfl | rfl | rfl | rfl | rfl | rfl | rfl | rfl | rfl | rfl | rfl | rfl | rfl | rfl | rfl | rfl | rfl <;> simp
/-- What a line's words held is the act again. -/
theorem fill_back : ∀ f ∈ formsL, ∀ a : Ac, f.kind = a.kind → f.chk a = 0 → fill f.pl (f.pl.map (·.held a)) f.says = .ok a := by
  intro f hf a hk hc
  obtain ⟨h1, h2, h3, h4⟩ := Fo.chk_zero hc
  obtain ⟨k, nd, cl, n, m, op, key, val, old⟩ := a
  simp only [formsL, List.mem_cons, List.not_mem_nil, or_false] at hf
  rcases hf with rfl | rfl | rfl | rfl | rfl | rfl | rfl | rfl | rfl | rfl | rfl | rfl | rfl | rfl | rfl | rfl | rfl | rfl | rfl | rfl <;>
  (simp only at hk; subst hk
   simp only [Fo.rest, Fo.says, clrs, Pc.clr, numsOk, List.all_cons, List.all_nil, Pc.isNum, Pc.int, Bool.not_true, Bool.not_false, Bool.false_or, Bool.true_or, Bool.and_true, Bool.and_eq_true, Int.reduceEq, if_false, if_true, Ac.mk.injEq, true_and, and_true, false_and, not_false_eq_true, Decidable.not_not, not_and] at h1 h2 h3 h4
   simp only [fill, List.map_cons, List.map_nil, Pc.held, Pc.rd, Fo.says]
   try simp only [numOf_itoa h4]
   try simp only [numOf_itoa h4.1, numOf_itoa h4.2]
   try (have h5 : 1 ≤ n ∧ n ≤ 9 := by omega
        simp only [pickOf_word h5.1 h5.2])
   simp [h1, h3])
/-- The line of an act is read as that act. -/
theorem fmt_back {a : Ac} {s : Bs} (h : fmtF a = .ok s) : PaR s (.ok a) := by
  unfold fmtF at h
  cases hf : formOf formsL a 6 with
  | error e => rw [hf] at h; cases h
  | ok f =>
    rw [hf] at h
    simp only at h
    obtain ⟨m1, m2, m3⟩ := formOf_ok hf
    split at h
    · cases h
    · rename_i hc
      have hc0 : f.chk a = 0 := by simpa using hc
      split at h
      · cases h
      · split at h
        · cases h
        · rename_i hl
          cases h
          refine .inr (.inr ⟨by omega, f.word :: f.pl.map (·.held a), ?_, ?_⟩)
          · refine line_words (by simp) ?_
            intro i hi
            cases i with
            | zero => exact word_wd f m1
            | succ i =>
              have hi' : i < f.pl.length := by simpa using hi
              simp only [List.getD_eq_getElem?_getD, List.getElem?_cons_succ, List.getElem?_map, List.getElem?_eq_getElem hi', Option.map_some, Option.getD_some]
              refine show_wd _ _ (fun hp => ?_)
              have hk := pick_kind f m1 (hp ▸ List.getElem_mem hi')
              have := (Fo.chk_zero hc0).2.1
              rw [← m2, hk] at this
              simpa using this
          · simp only [parseW, findF_word f m1, List.length_map, ne_eq, not_true_eq_false, if_false]
            exact (fill_back f m1 a m2 hc0).symm
/-- What words say has a line, as far as it is not too long. -/
theorem parse_form {ws : List Bs} {y : Ac} (h : parseW ws = .ok y) : ∃ f, formOf formsL y 6 = .ok f ∧ f.chk y = 0 := by
  cases ws with
  | nil => cases h
  | cons wd ws =>
    simp only [parseW] at h
    cases hf : findF formsL wd with
    | none => rw [hf] at h; cases h
    | some f =>
      rw [hf] at h
      simp only at h
      split at h
      · cases h
      · rename_i hl
        have hl' : ws.length = f.pl.length := by simpa using hl
        have hm := (findF_mem hf).1
        clear hf hl
        simp only [formsL, List.mem_cons, List.not_mem_nil, or_false] at hm
        rcases hm with rfl | rfl | rfl | rfl | rfl | rfl | rfl | rfl | rfl | rfl | rfl | rfl | rfl | rfl | rfl | rfl | rfl | rfl | rfl | rfl
        all_goals (
          rcases ws with _ | ⟨x1, _ | ⟨x2, _ | ⟨x3, _ | ⟨x4, _ | ⟨x5, _ | ⟨x6, ws⟩⟩⟩⟩⟩⟩ <;> simp only [List.length_cons, List.length_nil] at hl' <;> try omega
          all_goals try (cases hx1 : numOf x1)
          all_goals try (cases hx2 : numOf x2)
          all_goals try (cases hp2 : pickOf x2)
          all_goals simp only [fill, Pc.rd, Fo.says, *] at h
          all_goals cases h
          all_goals (
            refine ⟨_, rfl, ?_⟩
            have k1 := @numOf_in x1
            try have k2 := @numOf_in x2
            try have k3 := @pickOf_le x2
            simp_all [Fo.chk, Fo.rest, clrs, Pc.clr, Fo.says, numsOk, Pc.isNum, Pc.int]))
theorem parse_nil : ¬ ∃ y, PaR [] (.ok y) := by
  rintro ⟨y, h | h | ⟨_, ws, h2, h3⟩⟩
  · have := h.1; simp at this
  · exact h.2.1 [] .nil
  · have := Ln.uniq .nil _ h2
    subst this
    cases h3
end Go.Proofs.YtbckogojnjmjcaaGreatDoor
