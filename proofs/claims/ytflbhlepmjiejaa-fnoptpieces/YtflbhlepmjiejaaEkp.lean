/- Powers of two, by counting bits: plain. -/
import Derived.Test.YtflbhlepmjiejaaVl
namespace Go.Proofs.Ytflbhlepmjiejaa
namespace Vo
open Go.ChangeShapes Go.WideShapes Go.ChangeAt Go.RowKit Go.Joins Go.Sort
open Vl
set_option linter.unusedVariables false
set_option linter.unusedSimpArgs false
/-- how many bits: as they are counted -/
def on1 (n : Nat) : Nat := ((n / 2 &&& 6148914691236517205) + (n &&& 6148914691236517205)) % 18446744073709551616
def on2 (n : Nat) : Nat := ((n / 4 &&& 3689348814741910323) + (n &&& 3689348814741910323)) % 18446744073709551616
def on3 (n : Nat) : Nat := ((n / 16 + n) % 18446744073709551616) &&& 1085102592571150095
def on4 (n : Nat) : Nat := (n + n / 256) % 18446744073709551616
def on5 (n : Nat) : Nat := (n + n / 65536) % 18446744073709551616
def on6 (n : Nat) : Nat := (n + n / 4294967296) % 18446744073709551616
def onN (n : Nat) : Nat := on6 (on5 (on4 (on3 (on2 (on1 n))))) &&& 127
/-- powers of two, up to 65536 -/
def pwN (n : Nat) : Bool := Nat.beq n 1 || Nat.beq n 2 || Nat.beq n 4 || Nat.beq n 8 || Nat.beq n 16 || Nat.beq n 32 || Nat.beq n 64 || Nat.beq n 128 || Nat.beq n 256 || Nat.beq n 512 || Nat.beq n 1024 || Nat.beq n 2048 || Nat.beq n 4096 || Nat.beq n 8192 || Nat.beq n 16384 || Nat.beq n 32768 || Nat.beq n 65536
def chkN (a b : Nat) : Bool := (Nat.beq (onN (a * 256 + b)) 1) == pwN (a * 256 + b)
set_option maxRecDepth 100000 in
theorem chk_all : ∀ a : Fin 256, ∀ b : Fin 256, chkN a.val b.val = true := by decide +kernel
theorem chk_top : (Nat.beq (onN 65536) 1) == pwN 65536 := by decide +kernel
theorem chk_n (n : Nat) (h : n ≤ 65536) : (Nat.beq (onN n) 1) = pwN n := by
  by_cases c : n = 65536
  · subst c; exact eq_of_beq chk_top
  · have q := chk_all ⟨n / 256, by omega⟩ ⟨n % 256, by omega⟩
    unfold chkN at q
    rw [show n / 256 * 256 + n % 256 = n by omega] at q
    exact eq_of_beq q
end Vo
end Go.Proofs.Ytflbhlepmjiejaa
