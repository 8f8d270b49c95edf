/-
  Plain answers of layer 3, and the contracts of ident.oneOrTwo and ident.fault.
-/
import Derived.Test.YtkohkkgfmkocjaaRows
import Derived.Test.YtkohkkgfmkocjaaRet
import Derived.Test.YtkohkkgfmkocjaaTree
import Derived.Test.YtkohkkgfmkocjaaApp
import Derived.WalkKit
import Derived.BigQuiet
import Derived.Deep.QuietTactic
import Derived.Lib.Hide
namespace Go.Proofs.Ytkohkkgfmkocjaa
open Go.RowKit

/-- The byte of a class or of an order. -/
def two (b : Bool) : UInt8 := if b then 2 else 1
/-- What a file begins with, as a value. -/
def idV (wide big : Bool) (o a : UInt8) : Value := .agg #[.bool wide, .bool big, .int .u8 (o.toNat : Int), .int .u8 (a.toNat : Int)]
/-- What a file begins with, as bytes. -/
def idL (wide big : Bool) (o a : UInt8) : List UInt8 := [127, 69, 76, 70, two wide, two big, 1, o, a, 0, 0, 0, 0, 0, 0, 0]

/-- What is wrong with one of the first seven bytes, 0 if nothing is. -/
def faultN (k : Nat) (v : UInt8) : Nat :=
  if k < 4 then (if v = [127, 69, 76, 70].getD k 0 then 0 else 3) else if k = 6 then (if v = 1 then 0 else 4) else if v = 1 ∨ v = 2 then 0 else 4

theorem oneOrTwo_any (b : Bool) (w : World) : Calls Try.prog 31 #[.bool b] w fun e w' => e = .returned (.int .u8 ((two b).toNat : Int)) ∧ w = w' := by
  cases b
  · go_enter Try.func31, Try.ntmps31
    go_wp2
    go_ret
    exact ⟨rfl, rfl⟩
  · go_enter Try.func31, Try.ntmps31
    go_wp2
    go_ret
    exact ⟨rfl, rfl⟩

theorem u8_eq {v : UInt8} {n : Nat} (h : n < 256) : v = UInt8.ofNat n ↔ (v.toNat : Int) = n := by
  rw [← UInt8.toNat_inj, UInt8.toNat_ofNat', Nat.mod_eq_of_lt h]
  omega


theorem fault_0 (v : UInt8) (w : World) : Calls Try.prog 38 #[.int .i64 0, .int .u8 (v.toNat : Int)] w fun e w' => e = .returned (.int .i64 (faultN 0 v : Nat)) ∧ w = w' := by
  have hm : ((({ data := #[127, 69, 76, 70] } : ByteArray)[0]'(by decide)).toNat : Int) = 127 := rfl
  have c := u8_eq (v := v) (n := 127) (by omega)
  by_cases h : v = 127
  · have HF := Lib.hid (show faultN 0 v = 0 by rw [h]; rfl)
    have hx : (v.toNat : Int) = 127 := c.1 h
    generalize faultN 0 v = y at HF ⊢
    generalize (v.toNat : Int) = x at hx ⊢
    subst hx
    clear c h
    go_enter Try.func38, Try.ntmps38
    go_wp2
    go_ret
    exact ⟨ret_int (by simp [HF.out]), rfl⟩
  · have HF := Lib.hid (show faultN 0 v = 3 by simp [faultN, h])
    have hx : ((v.toNat : Int) != 127) = true := by simpa using fun e => h (c.2 e)
    generalize faultN 0 v = y at HF ⊢
    generalize (v.toNat : Int) = x at hx ⊢
    clear c h
    go_enter Try.func38, Try.ntmps38
    go_wp2
    go_ret
    exact ⟨ret_int (by simp [HF.out]), rfl⟩

theorem fault_1 (v : UInt8) (w : World) : Calls Try.prog 38 #[.int .i64 1, .int .u8 (v.toNat : Int)] w fun e w' => e = .returned (.int .i64 (faultN 1 v : Nat)) ∧ w = w' := by
  have hm : ((({ data := #[127, 69, 76, 70] } : ByteArray)[1]'(by decide)).toNat : Int) = 69 := rfl
  have c := u8_eq (v := v) (n := 69) (by omega)
  by_cases h : v = 69
  · have HF := Lib.hid (show faultN 1 v = 0 by rw [h]; rfl)
    have hx : (v.toNat : Int) = 69 := c.1 h
    generalize faultN 1 v = y at HF ⊢
    generalize (v.toNat : Int) = x at hx ⊢
    subst hx
    clear c h
    go_enter Try.func38, Try.ntmps38
    go_wp2
    go_ret
    exact ⟨ret_int (by simp [HF.out]), rfl⟩
  · have HF := Lib.hid (show faultN 1 v = 3 by simp [faultN, h])
    have hx : ((v.toNat : Int) != 69) = true := by simpa using fun e => h (c.2 e)
    generalize faultN 1 v = y at HF ⊢
    generalize (v.toNat : Int) = x at hx ⊢
    clear c h
    go_enter Try.func38, Try.ntmps38
    go_wp2
    go_ret
    exact ⟨ret_int (by simp [HF.out]), rfl⟩

theorem fault_2 (v : UInt8) (w : World) : Calls Try.prog 38 #[.int .i64 2, .int .u8 (v.toNat : Int)] w fun e w' => e = .returned (.int .i64 (faultN 2 v : Nat)) ∧ w = w' := by
  have hm : ((({ data := #[127, 69, 76, 70] } : ByteArray)[2]'(by decide)).toNat : Int) = 76 := rfl
  have c := u8_eq (v := v) (n := 76) (by omega)
  by_cases h : v = 76
  · have HF := Lib.hid (show faultN 2 v = 0 by rw [h]; rfl)
    have hx : (v.toNat : Int) = 76 := c.1 h
    generalize faultN 2 v = y at HF ⊢
    generalize (v.toNat : Int) = x at hx ⊢
    subst hx
    clear c h
    go_enter Try.func38, Try.ntmps38
    go_wp2
    go_ret
    exact ⟨ret_int (by simp [HF.out]), rfl⟩
  · have HF := Lib.hid (show faultN 2 v = 3 by simp [faultN, h])
    have hx : ((v.toNat : Int) != 76) = true := by simpa using fun e => h (c.2 e)
    generalize faultN 2 v = y at HF ⊢
    generalize (v.toNat : Int) = x at hx ⊢
    clear c h
    go_enter Try.func38, Try.ntmps38
    go_wp2
    go_ret
    exact ⟨ret_int (by simp [HF.out]), rfl⟩

theorem fault_3 (v : UInt8) (w : World) : Calls Try.prog 38 #[.int .i64 3, .int .u8 (v.toNat : Int)] w fun e w' => e = .returned (.int .i64 (faultN 3 v : Nat)) ∧ w = w' := by
  have hm : ((({ data := #[127, 69, 76, 70] } : ByteArray)[3]'(by decide)).toNat : Int) = 70 := rfl
  have c := u8_eq (v := v) (n := 70) (by omega)
  by_cases h : v = 70
  · have HF := Lib.hid (show faultN 3 v = 0 by rw [h]; rfl)
    have hx : (v.toNat : Int) = 70 := c.1 h
    generalize faultN 3 v = y at HF ⊢
    generalize (v.toNat : Int) = x at hx ⊢
    subst hx
    clear c h
    go_enter Try.func38, Try.ntmps38
    go_wp2
    go_ret
    exact ⟨ret_int (by simp [HF.out]), rfl⟩
  · have HF := Lib.hid (show faultN 3 v = 3 by simp [faultN, h])
    have hx : ((v.toNat : Int) != 70) = true := by simpa using fun e => h (c.2 e)
    generalize faultN 3 v = y at HF ⊢
    generalize (v.toNat : Int) = x at hx ⊢
    clear c h
    go_enter Try.func38, Try.ntmps38
    go_wp2
    go_ret
    exact ⟨ret_int (by simp [HF.out]), rfl⟩

theorem fault_45 (k : Nat) (v : UInt8) (w : World) (hk : k = 4 ∨ k = 5) : Calls Try.prog 38 #[.int .i64 k, .int .u8 (v.toNat : Int)] w fun e w' => e = .returned (.int .i64 (faultN k v : Nat)) ∧ w = w' := by
  have hk1 : ¬ k < 4 := by omega
  have hk2 : ¬ k = 6 := by omega
  have c := u8_eq (v := v) (n := 1) (by omega)
  have c' := u8_eq (v := v) (n := 2) (by omega)
  by_cases h : v = 1
  · have HF := Lib.hid (show faultN k v = 0 by simp [faultN, h, hk1, hk2])
    have hx : (v.toNat : Int) = 1 := c.1 h
    generalize faultN k v = y at HF ⊢
    generalize (v.toNat : Int) = x at hx ⊢
    subst hx
    clear c h c' hk1 hk2
    go_enter Try.func38, Try.ntmps38
    go_wp2
    go_ret
    exact ⟨ret_int (by simp [HF.out]), rfl⟩
  by_cases h2 : v = 2
  · have HF := Lib.hid (show faultN k v = 0 by simp [faultN, h2, hk1, hk2])
    have hx : (v.toNat : Int) = 2 := c'.1 h2
    generalize faultN k v = y at HF ⊢
    generalize (v.toNat : Int) = x at hx ⊢
    subst hx
    clear c h c' h2 hk1 hk2
    go_enter Try.func38, Try.ntmps38
    go_wp2
    go_ret
    exact ⟨ret_int (by simp [HF.out]), rfl⟩
  · have HF := Lib.hid (show faultN k v = 4 by simp [faultN, h, h2, hk1, hk2])
    have hx : ((v.toNat : Int) != 1) = true := by simpa using fun e => h (c.2 e)
    have hy : ((v.toNat : Int) != 2) = true := by simpa using fun e => h2 (c'.2 e)
    generalize faultN k v = y at HF ⊢
    generalize (v.toNat : Int) = x at hx hy ⊢
    clear c h c' h2 hk1 hk2
    go_enter Try.func38, Try.ntmps38
    go_wp2
    go_ret
    exact ⟨ret_int (by simp [HF.out]), rfl⟩

theorem fault_6 (v : UInt8) (w : World) : Calls Try.prog 38 #[.int .i64 6, .int .u8 (v.toNat : Int)] w fun e w' => e = .returned (.int .i64 (faultN 6 v : Nat)) ∧ w = w' := by
  have c := u8_eq (v := v) (n := 1) (by omega)
  by_cases h : v = 1
  · have HF := Lib.hid (show faultN 6 v = 0 by simp [faultN, h])
    have hx : (v.toNat : Int) = 1 := c.1 h
    generalize faultN 6 v = y at HF ⊢
    generalize (v.toNat : Int) = x at hx ⊢
    subst hx
    clear c h
    go_enter Try.func38, Try.ntmps38
    go_wp2
    go_ret
    exact ⟨ret_int (by simp [HF.out]), rfl⟩
  · have HF := Lib.hid (show faultN 6 v = 4 by simp [faultN, h])
    have hx : ((v.toNat : Int) != 1) = true := by simpa using fun e => h (c.2 e)
    generalize faultN 6 v = y at HF ⊢
    generalize (v.toNat : Int) = x at hx ⊢
    clear c h
    go_enter Try.func38, Try.ntmps38
    go_wp2
    go_ret
    exact ⟨ret_int (by simp [HF.out]), rfl⟩

theorem fault_any (k : Nat) (v : UInt8) (w : World) (hk : k < 7) : Calls Try.prog 38 #[.int .i64 k, .int .u8 (v.toNat : Int)] w fun e w' => e = .returned (.int .i64 (faultN k v : Nat)) ∧ w = w' := by
  match k, hk with
  | 0, _ => exact fault_0 v w
  | 1, _ => exact fault_1 v w
  | 2, _ => exact fault_2 v w
  | 3, _ => exact fault_3 v w
  | 4, _ => exact fault_45 4 v w (.inl rfl)
  | 5, _ => exact fault_45 5 v w (.inr rfl)
  | 6, _ => exact fault_6 v w
end Go.Proofs.Ytkohkkgfmkocjaa
