/-
  The lines that there are.
-/
import Derived.Test.YtbckogojnjmjcaaGreatDoorRw
import Derived.Test.YtbckogojnjmjcaaGreatDoorFp
namespace Go.Proofs.YtbckogojnjmjcaaGreatDoor
open Go.RowKit Go.Shelf

/-- A place's three functions. -/
def Pc.fns : Pc → List Value
  | .node => [.func (.func 90) #[] #[], .nilFunc, .nilFunc]
  | .client => [.func (.func 91) #[] #[], .nilFunc, .nilFunc]
  | .n => [.func (.func 92) #[] #[], .nilFunc, .nilFunc]
  | .m => [.func (.func 93) #[] #[], .nilFunc, .nilFunc]
  | .pick => [.nilFunc, .func (.func 94) #[] #[], .nilFunc]
  | .key => [.nilFunc, .nilFunc, .func (.func 95) #[] #[]]
  | .val => [.nilFunc, .nilFunc, .func (.func 96) #[] #[]]
  | .old => [.nilFunc, .nilFunc, .func (.func 97) #[] #[]]
def Fo.plc (f : Fo) : Array Value := (f.pl.flatMap Pc.fns).toArray
def Ac.cells (a : Ac) : Array Value := #[.int .i64 a.kind, .int .i64 a.node, .int .i64 a.client, .int .i64 a.n, .int .i64 a.m, .int .i64 a.op, str a.key, str a.val, str a.old]
def Fo.row (f : Fo) (N i : Nat) : List Value := str f.word :: (f.says.cells.toList ++ [.slice (some ⟨N + 8 + i, 0, none⟩) f.pl.length f.pl.length])
def formsC (N : Nat) : Array Value := (formsL.zipIdx.flatMap fun x => x.1.row N x.2).toArray
/-- The lines lie in memory. -/
structure FoAt (N : Nat) (W : World) : Prop where
  big : W.heap[N + 28]? = some (.cells (formsC N) 107)
  plc : ∀ i f, formsL[i]? = some f → W.heap[N + 8 + i]? = some (.cells f.plc 113)
set_option maxRecDepth 100000 in
theorem build_forms (N : Nat) (W : World) : (Instr.buildSlice 148 20 #[(0, .agg #[.string ⟨#[116, 105, 99, 107]⟩, .int .i64 1, .int .i64 0, .int .i64 0, .int .i64 0, .int .i64 0, .int .i64 0, .string ⟨#[]⟩, .string ⟨#[]⟩, .string ⟨#[]⟩, .slice (some ⟨N + 8, 0, none⟩) 2 2]), (1, .agg #[.string ⟨#[112, 105, 99, 107]⟩, .int .i64 2, .int .i64 0, .int .i64 0, .int .i64 0, .int .i64 0, .int .i64 0, .string ⟨#[]⟩, .string ⟨#[]⟩, .string ⟨#[]⟩, .slice (some ⟨N + 9, 0, none⟩) 2 2]), (2, .agg #[.string ⟨#[100, 101, 108, 105, 118, 101, 114]⟩, .int .i64 3, .int .i64 0, .int .i64 0, .int .i64 0, .int .i64 0, .int .i64 0, .string ⟨#[]⟩, .string ⟨#[]⟩, .string ⟨#[]⟩, .slice (some ⟨N + 10, 0, none⟩) 1 1]), (3, .agg #[.string ⟨#[100, 114, 111, 112]⟩, .int .i64 4, .int .i64 0, .int .i64 0, .int .i64 0, .int .i64 0, .int .i64 0, .string ⟨#[]⟩, .string ⟨#[]⟩, .string ⟨#[]⟩, .slice (some ⟨N + 11, 0, none⟩) 1 1]), (4, .agg #[.string ⟨#[99, 111, 112, 121]⟩, .int .i64 5, .int .i64 0, .int .i64 0, .int .i64 0, .int .i64 0, .int .i64 0, .string ⟨#[]⟩, .string ⟨#[]⟩, .string ⟨#[]⟩, .slice (some ⟨N + 12, 0, none⟩) 1 1]), (5, .agg #[.string ⟨#[115, 112, 111, 105, 108]⟩, .int .i64 6, .int .i64 0, .int .i64 0, .int .i64 0, .int .i64 0, .int .i64 0, .string ⟨#[]⟩, .string ⟨#[]⟩, .string ⟨#[]⟩, .slice (some ⟨N + 13, 0, none⟩) 2 2]), (6, .agg #[.string ⟨#[109, 111, 118, 101]⟩, .int .i64 7, .int .i64 0, .int .i64 0, .int .i64 0, .int .i64 0, .int .i64 0, .string ⟨#[]⟩, .string ⟨#[]⟩, .string ⟨#[]⟩, .slice (some ⟨N + 14, 0, none⟩) 2 2]), (7, .agg #[.string ⟨#[108, 105, 110, 107]⟩, .int .i64 8, .int .i64 0, .int .i64 0, .int .i64 0, .int .i64 1, .int .i64 0, .string ⟨#[]⟩, .string ⟨#[]⟩, .string ⟨#[]⟩, .slice (some ⟨N + 15, 0, none⟩) 2 2]), (8, .agg #[.string ⟨#[99, 117, 116]⟩, .int .i64 8, .int .i64 0, .int .i64 0, .int .i64 0, .int .i64 0, .int .i64 0, .string ⟨#[]⟩, .string ⟨#[]⟩, .string ⟨#[]⟩, .slice (some ⟨N + 16, 0, none⟩) 2 2]), (9, .agg #[.string ⟨#[99, 114, 97, 115, 104]⟩, .int .i64 9, .int .i64 0, .int .i64 0, .int .i64 0, .int .i64 0, .int .i64 0, .string ⟨#[]⟩, .string ⟨#[]⟩, .string ⟨#[]⟩, .slice (some ⟨N + 17, 0, none⟩) 2 2]), (10, .agg #[.string ⟨#[115, 116, 97, 114, 116]⟩, .int .i64 10, .int .i64 0, .int .i64 0, .int .i64 0, .int .i64 0, .int .i64 0, .string ⟨#[]⟩, .string ⟨#[]⟩, .string ⟨#[]⟩, .slice (some ⟨N + 18, 0, none⟩) 2 2]), (11, .agg #[.string ⟨#[97, 114, 109]⟩, .int .i64 12, .int .i64 0, .int .i64 0, .int .i64 0, .int .i64 0, .int .i64 0, .string ⟨#[]⟩, .string ⟨#[]⟩, .string ⟨#[]⟩, .slice (some ⟨N + 19, 0, none⟩) 2 2]), (12, .agg #[.string ⟨#[115, 116, 111, 112]⟩, .int .i64 11, .int .i64 0, .int .i64 0, .int .i64 0, .int .i64 0, .int .i64 0, .string ⟨#[]⟩, .string ⟨#[]⟩, .string ⟨#[]⟩, .slice (some ⟨N + 20, 0, none⟩) 1 1]), (13, .agg #[.string ⟨#[103, 101, 116]⟩, .int .i64 13, .int .i64 0, .int .i64 0, .int .i64 0, .int .i64 0, .int .i64 1, .string ⟨#[]⟩, .string ⟨#[]⟩, .string ⟨#[]⟩, .slice (some ⟨N + 21, 0, none⟩) 3 3]), (14, .agg #[.string ⟨#[100, 101, 108, 101, 116, 101]⟩, .int .i64 13, .int .i64 0, .int .i64 0, .int .i64 0, .int .i64 0, .int .i64 3, .string ⟨#[]⟩, .string ⟨#[]⟩, .string ⟨#[]⟩, .slice (some ⟨N + 22, 0, none⟩) 3 3]), (15, .agg #[.string ⟨#[112, 117, 116]⟩, .int .i64 13, .int .i64 0, .int .i64 0, .int .i64 0, .int .i64 0, .int .i64 2, .string ⟨#[]⟩, .string ⟨#[]⟩, .string ⟨#[]⟩, .slice (some ⟨N + 23, 0, none⟩) 4 4]), (16, .agg #[.string ⟨#[115, 119, 97, 112]⟩, .int .i64 13, .int .i64 0, .int .i64 0, .int .i64 0, .int .i64 0, .int .i64 4, .string ⟨#[]⟩, .string ⟨#[]⟩, .string ⟨#[]⟩, .slice (some ⟨N + 24, 0, none⟩) 5 5]), (17, .agg #[.string ⟨#[97, 103, 97, 105, 110]⟩, .int .i64 14, .int .i64 0, .int .i64 0, .int .i64 0, .int .i64 0, .int .i64 0, .string ⟨#[]⟩, .string ⟨#[]⟩, .string ⟨#[]⟩, .slice (some ⟨N + 25, 0, none⟩) 2 2]), (18, .agg #[.string ⟨#[103, 105, 118, 101]⟩, .int .i64 15, .int .i64 0, .int .i64 0, .int .i64 0, .int .i64 0, .int .i64 0, .string ⟨#[]⟩, .string ⟨#[]⟩, .string ⟨#[]⟩, .slice (some ⟨N + 26, 0, none⟩) 1 1]), (19, .agg #[.string ⟨#[99, 97, 108, 109]⟩, .int .i64 16, .int .i64 0, .int .i64 0, .int .i64 0, .int .i64 0, .int .i64 0, .string ⟨#[]⟩, .string ⟨#[]⟩, .string ⟨#[]⟩, .slice (some ⟨N + 27, 0, none⟩) 2 2])]).run Tryz.prog W = .ok (.slice (some ⟨W.heap.size, 0, none⟩) 20 20) (W.alloc (.cells (formsC N) 107)) := by
  kernel_rfl
end Go.Proofs.YtbckogojnjmjcaaGreatDoor
