/-
  The roots of the primes, reckoned as the document reckons them.
-/
import Derived.Test.YtkkacngildnlkaaDoorMath
namespace Go.Proofs.YtkkacngildnlkaaDoor.Sh

/-- Is n one, from divisor k on? -/
def pr (n : Nat) : Nat → Nat → Bool
  | 0, _ => decide (1 < n)
  | f + 1, k => if k * k ≤ n then (if n % k = 0 then false else pr n f (k + 1)) else decide (1 < n)

def isP (n : Nat) : Bool := pr n 20 2

def pl (n : Nat) : List Nat := (List.range n).filter isP

theorem pl_succ (n : Nat) : pl (n + 1) = pl n ++ (if isP n then [n] else []) := by
  simp [pl, List.range_succ, List.filter_append]
  split <;> simp_all

theorem pl_ends : ∀ n : Fin 313, (pl n.val).length < 64 ↔ n.val < 312 := by decide +kernel
theorem pl_all : (pl 312).length = 64 := by decide +kernel

def M64 : Nat := 18446744073709551616

def tin (a b : List Nat) (o : List Nat) (i : Nat) : Nat → List Nat
  | 0 => o
  | k + 1 => (tin a b o i k).set (i + k) (((tin a b o i k).getD (i + k) 0 + a.getD i 0 * b.getD k 0) % 18446744073709551616)
def tout (a b : List Nat) : Nat → List Nat
  | 0 => List.replicate (a.length + b.length + 1) 0
  | i + 1 => tin a b (tout a b i) i b.length
def tcar (o : List Nat) : Nat → List Nat
  | 0 => o
  | i + 1 => ((tcar o i).set (i + 1) (((tcar o i).getD (i + 1) 0 + (tcar o i).getD i 0 / 65536) % 18446744073709551616)).set i ((tcar o i).getD i 0 % 65536)
def timesL (a b : List Nat) : List Nat := tcar (tout a b a.length) (a.length + b.length)

def partsL (n : Nat) : List Nat := [n % 65536, n / 65536 % 65536, n / 4294967296 % 65536, n / 281474976710656]

def ab (l : List Nat) (n shift : Nat) : Nat → Bool
  | 0 => false
  | i + 1 => if l.getD i 0 = (if i = shift then n else 0) then ab l n shift i else decide ((if i = shift then n else 0) < l.getD i 0)

def pow (k x : Nat) : List Nat := if k = 3 then timesL (timesL (partsL x) (partsL x)) (partsL x) else timesL (partsL x) (partsL x)
def sh (k : Nat) : Nat := if k = 3 then 6 else 4

def over (n k x : Nat) : Bool := ab (pow k x) n (sh k) (pow k x).length

def rv (n k : Nat) : Nat → Nat
  | 0 => 0
  | j + 1 => if over n k (rv n k j + 2 ^ (40 - j)) then rv n k j else rv n k j + 2 ^ (40 - j)

def root (n k : Nat) : Nat := rv n k 41 % 4294967296
end Go.Proofs.YtkkacngildnlkaaDoor.Sh
