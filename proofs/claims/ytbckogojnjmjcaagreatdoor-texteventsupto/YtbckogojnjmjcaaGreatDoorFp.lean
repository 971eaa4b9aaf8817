/-
  The lines that there are, plainly.
-/
import Derived.Test.YtbckogojnjmjcaaGreatDoorNu
namespace Go.Proofs.YtbckogojnjmjcaaGreatDoor
open Go

/-- What a word stands for. -/
inductive Pc | node | client | n | m | pick | key | val | old
  deriving DecidableEq
/-- The line of an act: its first word, what that says by itself, what the words behind it stand for. -/
structure Fo where
  word : Bs
  kind : Int
  m : Int
  op : Int
  pl : List Pc
def formsL : List Fo := [
    ⟨[116, 105, 99, 107], 1, 0, 0, [.node, .n]⟩,
    ⟨[112, 105, 99, 107], 2, 0, 0, [.node, .pick]⟩,
    ⟨[100, 101, 108, 105, 118, 101, 114], 3, 0, 0, [.n]⟩,
    ⟨[100, 114, 111, 112], 4, 0, 0, [.n]⟩,
    ⟨[99, 111, 112, 121], 5, 0, 0, [.n]⟩,
    ⟨[115, 112, 111, 105, 108], 6, 0, 0, [.n, .m]⟩,
    ⟨[109, 111, 118, 101], 7, 0, 0, [.n, .m]⟩,
    ⟨[108, 105, 110, 107], 8, 1, 0, [.node, .n]⟩,
    ⟨[99, 117, 116], 8, 0, 0, [.node, .n]⟩,
    ⟨[99, 114, 97, 115, 104], 9, 0, 0, [.node, .n]⟩,
    ⟨[115, 116, 97, 114, 116], 10, 0, 0, [.node, .n]⟩,
    ⟨[97, 114, 109], 12, 0, 0, [.node, .n]⟩,
    ⟨[115, 116, 111, 112], 11, 0, 0, [.node]⟩,
    ⟨[103, 101, 116], 13, 0, 1, [.client, .node, .key]⟩,
    ⟨[100, 101, 108, 101, 116, 101], 13, 0, 3, [.client, .node, .key]⟩,
    ⟨[112, 117, 116], 13, 0, 2, [.client, .node, .key, .val]⟩,
    ⟨[115, 119, 97, 112], 13, 0, 4, [.client, .node, .key, .old, .val]⟩,
    ⟨[97, 103, 97, 105, 110], 14, 0, 0, [.client, .node]⟩,
    ⟨[103, 105, 118, 101], 15, 0, 0, [.client]⟩,
    ⟨[99, 97, 108, 109], 16, 0, 0, [.node, .n]⟩]
/-- An act. -/
structure Ac where
  kind : Int
  node : Int
  client : Int
  n : Int
  m : Int
  op : Int
  key : Bs
  val : Bs
  old : Bs
  deriving DecidableEq
def Fo.says (f : Fo) : Ac := ⟨f.kind, 0, 0, 0, f.m, f.op, [], [], []⟩
def ac0 : Ac := ⟨0, 0, 0, 0, 0, 0, [], [], []⟩
end Go.Proofs.YtbckogojnjmjcaaGreatDoor
