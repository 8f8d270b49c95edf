/-
  Several texts in one: How many ones a number of 64 bits has, as math/bits; Names in a table, as plain lists of bytes; A slice of strings that reads as a list of names; Plain mathematics of layer 1; Plain mathematics of rows; Slices of numbers; Small words that the layers behind head share; Models, as plain data; append of one struct in a list of operations; a store beside structs of the call's own; Models in memory.
-/
import Derived.Lib.Bytealg
import Derived.Test.YtfpihkbpelbcbaaRtG1
import Derived.WalkKit
import Derived.Lib.Hide
import Derived.Laws.Strings
import Derived.Maps.AppendAt
namespace Go.Proofs.Ytfpihkbpelbcbaa
def onesF : Nat → Nat → Nat
 | 0, _ => 0
 | f + 1, x => x % 2 + onesF f (x / 2)
def ones (x : Nat) : Nat := onesF 64 x
theorem onesF_add : ∀ f g x, onesF (f + g) x = onesF f x + onesF g (x / 2 ^ f)
 | 0, g, x => by simp [onesF]
 | f + 1, g, x => by
  have := onesF_add f g (x / 2)
  rw [show f + 1 + g = f + g + 1 by omega, onesF, this, onesF, Nat.div_div_eq_div_mul, Nat.pow_succ, Nat.mul_comm 2 (2 ^ f)]
  omega
theorem onesF_zero : ∀ f, onesF f 0 = 0
 | 0 => rfl
 | f + 1 => by rw [onesF, onesF_zero f]
theorem onesF_pos : ∀ f x, 0 < x → x < 2 ^ f → 0 < onesF f x
 | 0, x, h0, h => by simp at h; omega
 | f + 1, x, h0, h => by
  rw [onesF]
  by_cases e : x % 2 = 0
  ·have := onesF_pos f (x / 2) (by omega) (by rw [Nat.pow_succ] at h; omega)
   omega
  ·omega
theorem onesF_one : ∀ f x, x < 2 ^ f → (onesF f x ≤ 1 ↔ x = 0 ∨ ∃ k, x = 2 ^ k)
 | 0, x, h => by simp at h; subst h; simp [onesF]
 | f + 1, x, h => by
  have hx : x / 2 < 2 ^ f := by rw [Nat.pow_succ] at h; omega
  have ih := onesF_one f (x / 2) hx
  rw [onesF]
  by_cases e : x % 2 = 0
  ·rw [e, Nat.zero_add, ih]
   constructor
   ·rintro (h0 | ⟨k, hk⟩)
    ·exact .inl (by omega)
    ·exact .inr ⟨k + 1, by rw [Nat.pow_succ]; omega⟩
   ·rintro (h0 | ⟨k, hk⟩)
    ·exact .inl (by omega)
    ·cases k with
     | zero => rw [Nat.pow_zero] at hk; omega
     | succ k => exact .inr ⟨k, by rw [Nat.pow_succ] at hk; omega⟩
  ·have e1 : x % 2 = 1 := by omega
   rw [e1]
   constructor
   ·intro hle
    by_cases h0 : x / 2 = 0
    ·exact .inr ⟨0, by rw [Nat.pow_zero]; omega⟩
    ·have := onesF_pos f (x / 2) (by omega) hx
     omega
   ·rintro (h0 | ⟨k, hk⟩)
    ·omega
    ·cases k with
     | zero =>
      rw [Nat.pow_zero] at hk
      have : x / 2 = 0 := by omega
      rw [this, onesF_zero]
      omega
     | succ k => rw [Nat.pow_succ] at hk; omega
theorem ones_one (x : Nat) (h : x < 18446744073709551616) : ones x ≤ 1 ↔ x = 0 ∨ ∃ k, x = 2 ^ k := onesF_one 64 x h
theorem ones_even {x : Nat} (h : x < 18446744073709551616) (h1 : ones x ≤ 1) (h2 : 1 < x) : x % 2 = 0 := by
 rcases (ones_one x h).1 h1 with h0 | ⟨k, hk⟩
 ·omega
 ·cases k with
  | zero => rw [Nat.pow_zero] at hk; omega
  | succ k => rw [Nat.pow_succ] at hk; omega
abbrev Bs := List UInt8
def cut0 : Bs → Option Bs
 | [] => none
 | b :: r => if b = 0 then some [] else (cut0 r).map (b :: ·)
def nameAt (l : Bs) (off : Nat) : Option Bs := cut0 (l.drop off)
theorem cut0_none : ∀ {l : Bs}, cut0 l = none ↔ ∀ b ∈ l, b ≠ 0
 | [] => by simp [cut0]
 | b :: r => by
  unfold cut0
  split
  ·rename_i hb; subst hb; simp
  ·rename_i hb
   rw [Option.map_eq_none_iff, cut0_none]
   simp [hb]
theorem cut0_at {l : Bs} {k : Nat} (h0 : ∀ j, j < k → l[j]? ≠ some 0) (hk : l[k]? = some 0) : cut0 l = some (l.take k) := by
 induction l generalizing k with
 | nil => simp at hk
 | cons b l ih =>
  unfold cut0
  cases k with
  | zero =>
   have : b = 0 := by simpa using hk
   rw [if_pos this]; rfl
  | succ k =>
   have hb : b ≠ 0 := fun e => h0 0 (by omega) (by simp [e])
   rw [if_neg hb, ih (fun j hj => by have := h0 (j + 1) (Nat.succ_lt_succ hj); simpa using this) (by simpa using hk)]
   rfl
section
variable {L : List Bs} {k : Nat}
end
end Go.Proofs.Ytfpihkbpelbcbaa
namespace Go.Proofs.Ytfpihkbpelbcbaa
open Go.RowKit
def bstr (s : Bs) : ByteArray := ⟨s.toArray⟩
section
variable {w w' : World} {B : Nat} {A : Option Addr} {n c : Nat} {L : List Bs}
end
end Go.Proofs.Ytfpihkbpelbcbaa
namespace Go.Proofs.Ytfpihkbpelbcbaa
def num : List UInt8 → Nat
 | [] => 0
 | b :: r => b.toNat + 256 * num r
def low : Nat → Nat → List UInt8
 | 0, _ => []
 | n + 1, v => UInt8.ofNat v :: low n (v / 256)
def ord (big : Bool) (l : List UInt8) : List UInt8 := if big then l.reverse else l
def getB (l : List UInt8) (big : Bool) : Nat := num (ord big l)
def putB (v n : Nat) (big : Bool) : List UInt8 := ord big (low n v)
def rank (i n : Nat) (big : Bool) : Nat := if big then n - 1 - i else i
theorem length_low : ∀ n v : Nat, (low n v).length = n
 | 0, _ => rfl
 | n + 1, v => by simp [low, length_low n]
theorem length_ord (big : Bool) (l : List UInt8) : (ord big l).length = l.length := by cases big <;> simp [ord]
theorem length_putB (v n : Nat) (big : Bool) : (putB v n big).length = n := by simp [putB, length_ord, length_low]
theorem toNat_ofNat8 (v : Nat) : (UInt8.ofNat v).toNat = v % 256 := by simp [UInt8.toNat_ofNat']
theorem num_lt : ∀ l : List UInt8, num l < 256 ^ l.length
 | [] => by simp [num]
 | b :: r => by
  have h1 := num_lt r
  have h2 : b.toNat < 256 := b.toNat_lt
  simp only [num, List.length_cons, Nat.pow_succ]
  omega
theorem num_append : ∀ a b : List UInt8, num (a ++ b) = num a + 256 ^ a.length * num b
 | [], b => by simp [num]
 | x :: a, b => by
  simp only [List.cons_append, num, num_append a b, List.length_cons, Nat.pow_succ, Nat.mul_add]
  rw [Nat.mul_comm (256 ^ a.length) 256, Nat.mul_assoc]
  omega
theorem low_at : ∀ (n v i : Nat), i < n → (low n v)[i]? = some (UInt8.ofNat (v / 256 ^ i))
 | 0, _, _, h => by omega
 | n + 1, v, 0, _ => by simp [low]
 | n + 1, v, i + 1, h => by
  rw [low, List.getElem?_cons_succ, low_at n (v / 256) i (by omega), Nat.div_div_eq_div_mul, Nat.pow_succ, Nat.mul_comm 256]
theorem putB_at (v n i : Nat) (big : Bool) (h : i < n) : (putB v n big)[i]? = some (UInt8.ofNat (v / 256 ^ rank i n big)) := by
 cases big
 ·simp [putB, ord, rank, low_at n v i h]
 ·simp only [putB, ord, rank, if_true]
  rw [List.getElem?_reverse (by rw [length_low]; exact h), length_low, low_at n v _ (by omega)]
theorem rank_lt (i n : Nat) (big : Bool) (h : i < n) : rank i n big < n := by unfold rank; split <;> omega
theorem getB_lt (l : List UInt8) (big : Bool) : getB l big < 256 ^ l.length := by
 have := num_lt (ord big l)
 rwa [length_ord] at this
def part (l : List UInt8) (big : Bool) (k : Nat) : Nat := if big then 256 ^ (l.length - k) * num (l.take k).reverse else num (l.take k)
theorem part_zero (l : List UInt8) (big : Bool) : part l big 0 = 0 := by cases big <;> simp [part, num]
theorem part_all (l : List UInt8) (big : Bool) : part l big l.length = getB l big := by
 cases big <;> simp [part, getB, ord]
theorem pow256 (n : Nat) : 256 ^ n = 2 ^ (8 * n) := by rw [Nat.pow_mul]
theorem or_low (x y i : Nat) (hx : x < 2 ^ i) (hy : y % 2 ^ i = 0) : x ||| y = x + y := by
 have e : y = 2 ^ i * (y / 2 ^ i) := by have := Nat.div_add_mod y (2 ^ i); omega
 rw [Nat.or_comm, e, ← Nat.two_pow_add_eq_or_of_lt hx]; omega
theorem take_snoc' (l : List UInt8) (k : Nat) (h : k < l.length) : l.take (k + 1) = l.take k ++ [l[k]] := by
 rw [List.take_succ_eq_append_getElem h]
theorem part_succ (l : List UInt8) (big : Bool) (k : Nat) (h : k < l.length) :
  part l big (k + 1) = part l big k ||| (l[k].toNat * 2 ^ (8 * rank k l.length big)) := by
 have hb : l[k].toNat < 256 := l[k].toNat_lt
 cases big
 ·have e : (l.take k).length = k := by simp; omega
  have hlt := num_lt (l.take k)
  rw [e, pow256] at hlt
  simp only [part, rank, Bool.false_eq_true, if_false]
  rw [or_low _ _ (8 * k) hlt (Nat.mul_mod_left _ _), take_snoc' l k h, num_append, e, pow256]
  simp [num, Nat.mul_comm]
 ·have e : l.length - k = l.length - 1 - k + 1 := by omega
  have hsmall : l[k].toNat * 2 ^ (8 * (l.length - 1 - k)) < 2 ^ (8 * (l.length - k)) := by
   rw [e, Nat.mul_add, Nat.pow_add, Nat.mul_comm]
   exact Nat.mul_lt_mul_of_pos_left hb (Nat.two_pow_pos _)
  simp only [part, rank, if_true]
  rw [Nat.or_comm, or_low _ _ (8 * (l.length - k)) hsmall (by rw [pow256]; exact Nat.mul_mod_right _ _), take_snoc' l k h, List.reverse_append]
  simp only [List.reverse_cons, List.reverse_nil, List.nil_append, List.singleton_append, num]
  rw [show l.length - (k + 1) = l.length - 1 - k by omega, pow256, pow256, e, Nat.mul_add 8, Nat.pow_add, Nat.mul_add, ← Nat.mul_assoc, Nat.mul_comm (l[k].toNat)]
theorem part_lt (l : List UInt8) (big : Bool) (k : Nat) (h : k ≤ l.length) : part l big k < 256 ^ l.length := by
 cases big
 ·have := num_lt (l.take k)
  simp only [part, Bool.false_eq_true, if_false]
  exact Nat.lt_of_lt_of_le this (Nat.pow_le_pow_right (by omega) (by simp; omega))
 ·have := num_lt (l.take k).reverse
  simp only [part, if_true]
  rw [List.length_reverse, List.length_take, Nat.min_eq_left h] at this
  have e : (256 : Nat) ^ l.length = 256 ^ (l.length - k) * 256 ^ k := by rw [← Nat.pow_add]; congr 1; omega
  rw [e]
  exact Nat.mul_lt_mul_of_pos_left this (Nat.pow_pos (by omega))
def sumN : List Nat → Nat
 | [] => 0
 | n :: r => n + sumN r
def nums (l : List UInt8) (big : Bool) : Nat → List Nat → List Nat
 | _, [] => []
 | p, n :: r => getB ((l.drop p).take n) big :: nums l big (p + n) r
theorem length_nums (l : List UInt8) (big : Bool) : ∀ (n : List Nat) (p : Nat), (nums l big p n).length = n.length
 | [], _ => rfl
 | n :: r, p => by simp [nums, length_nums l big r]
theorem nums_append (l : List UInt8) (big : Bool) : ∀ (a b : List Nat) (p : Nat), nums l big p (a ++ b) = nums l big p a ++ nums l big (p + sumN a) b
 | [], b, p => by simp [nums, sumN]
 | n :: a, b, p => by simp [nums, nums_append l big a b, sumN, Nat.add_assoc]
theorem sumN_append : ∀ a b : List Nat, sumN (a ++ b) = sumN a + sumN b
 | [], b => by simp [sumN]
 | n :: a, b => by simp [sumN, sumN_append a b, Nat.add_assoc]
theorem take_snoc_nat (q : List Nat) (k : Nat) (h : k < q.length) : q.take (k + 1) = q.take k ++ [q[k]] := by
 rw [List.take_succ_eq_append_getElem h]
theorem nums_succ (l : List UInt8) (big : Bool) (n : List Nat) (p k : Nat) (h : k < n.length) : nums l big p (n.take (k + 1)) = nums l big p (n.take k) ++ [getB ((l.drop (p + sumN (n.take k))).take n[k]) big] := by
 rw [take_snoc_nat n k h, nums_append]; simp [nums]
theorem sumN_succ (n : List Nat) (k : Nat) (h : k < n.length) : sumN (n.take (k + 1)) = sumN (n.take k) + n[k] := by
 rw [take_snoc_nat n k h, sumN_append]; simp [sumN]
theorem sumN_le (n : List Nat) (k : Nat) : sumN (n.take k) ≤ sumN n := by
 have := sumN_append (n.take k) (n.drop k)
 rw [List.take_append_drop] at this
 omega
theorem nums_lt (l : List UInt8) (big : Bool) : ∀ (n : List Nat) (p k : Nat) (h : k < (nums l big p n).length), (nums l big p n)[k] < 256 ^ (n.getD k 0)
 | [], _, _, h => absurd h (by simp [nums])
 | n :: r, p, 0, _ => by
  simp only [nums, List.getElem_cons_zero, List.getD_cons_zero]
  have := getB_lt ((l.drop p).take n) big
  refine Nat.lt_of_lt_of_le this (Nat.pow_le_pow_right (by omega) (by simp; omega))
 | n :: r, p, k + 1, h => by
  simp only [nums, List.getElem_cons_succ, List.getD_cons_succ]
  exact nums_lt l big r (p + n) k _
end Go.Proofs.Ytfpihkbpelbcbaa
namespace Go.Proofs.Ytfpihkbpelbcbaa
open Go.RowKit
def ival (k : IntKind) (n : Nat) : Value := .int k (n : Int)
structure NS (w : World) (B : Nat) (k : IntKind) (A : Option Addr) (n c : Nat) (l : List Nat) : Prop where
 len : n = l.length
 cap : n ≤ c
 max : c ≤ maxLen
 pos : 0 < n → ∃ b off, A = some ⟨b, off, none⟩ ∧ b < B ∧ ∀ j (h : j < l.length), w.cell? ⟨b, off + j, none⟩ = some (.int k (l[j] : Int))
section
variable {w w' : World} {B : Nat} {k : IntKind} {A : Option Addr} {n c : Nat} {l : List Nat}
theorem NS.keep (h : NS w B k A n c l) (hk : ∀ p : Addr, p.block < B → w'.cell? p = w.cell? p) : NS w' B k A n c l :=
 ⟨h.len, h.cap, h.max, fun hn => by
  obtain ⟨b, off, e, hb, hc⟩ := h.pos hn
  exact ⟨b, off, e, hb, fun j hj => (hk ⟨b, off + j, none⟩ hb).trans (hc j hj)⟩⟩
theorem NS.belowAt {B0 : Nat} (h : NS w B k A n c l) (hb : Below B0 w w') (hB : B ≤ B0) : NS w' B k A n c l := h.keep fun _ hp => hb.cell (by omega)
theorem NS.more {B' : Nat} (h : NS w B k A n c l) (hB : B ≤ B') : NS w B' k A n c l :=
 ⟨h.len, h.cap, h.max, fun hn => by
  obtain ⟨b, off, e, hb, hc⟩ := h.pos hn
  exact ⟨b, off, e, by omega, hc⟩⟩
theorem NS.of_blk {g : Nat} {t : TypeId} {cs : Array Value} (h : Blk w g t cs) (hcs : cs = (l.map (ival k)).toArray) (hB : g < B) (hm : l.length ≤ maxLen) : NS w B k (some ⟨g, 0, none⟩) l.length l.length l :=
 ⟨rfl, Nat.le_refl _, hm, fun _ => ⟨g, 0, rfl, hB, fun j hj => by rw [Nat.zero_add, h.at, hcs]; simp [hj, ival]⟩⟩
end
def ON (w : World) (base : Nat) (e : TypeId) (k : IntKind) (A : Option Addr) (n c : Nat) (l : List Nat) : Prop :=
 w.ownsRow base e 1 (.slice A n c) n (l.map (ival k))
section
variable {w : World} {base : Nat} {e : TypeId} {k : IntKind} {A : Option Addr} {n c : Nat} {l : List Nat}
theorem ON.nil : ON w base e k none 0 0 [] := World.ownsRow_nil _ _ _ _
theorem ON.keep {w' : World} (h : ON w base e k A n c l) (hb : Below w.heap.size w w') : ON w' base e k A n c l := by
 refine ⟨h.1, ?_⟩
 rcases h.2 with h0 | ⟨g, cap, cur, hv, hg, hh, r⟩
 ·exact .inl h0
 ·refine .inr ⟨g, cap, cur, hv, hg, ?_, r⟩
  rw [hb.block g ?_]
  ·exact hh
  ·rcases Nat.lt_or_ge g w.heap.size with h1 | h1
   ·exact h1
   ·rw [Array.getElem?_eq_none h1] at hh; cases hh
theorem ON.ns (h : ON w base e k A n c l) : NS w w.heap.size k A n c l := by
 have hl : n = l.length := by have := h.1; simp at this; omega
 rcases h.2 with ⟨e0, h0⟩ | ⟨g, cap, cur, hv, _, hh, hnc, hcm, hsz, htk⟩
 ·injection e0 with e1 e2 e3
  subst e1; subst e3
  exact ⟨hl, by omega, Nat.zero_le _, fun hp => by omega⟩
 ·injection hv with hA _ hc
  subst hA; subst hc
  refine ⟨hl, hnc, hcm, fun _ => ⟨g, 0, rfl, ?_, fun j hj => ?_⟩⟩
  ·rcases Nat.lt_or_ge g w.heap.size with h1 | h1
   ·exact h1
   ·rw [Array.getElem?_eq_none h1] at hh; cases hh
  ·rw [cell_of_row w g (0 + j) cur e (0, 0) hh, Nat.zero_add]
   have e1 : (cur.toList.take (n * 1))[j]? = some (Value.int k (l[j] : Int)) := by
    rw [htk]; simp [hj, ival]
   rw [List.getElem?_take_of_lt (by omega)] at e1
   simpa using e1
end
theorem run_append1 {P : Program} (w : World) (base : Nat) (t ty e : TypeId) (k : IntKind) (bytes : Nat) (ht : P.underlying t = some (.slice e))
  (hinfo : (P.info? e).map (fun i => (i.zero, i.size, i.bytes)) = some (some (.int k 0), 1, bytes))
  (A : Option Addr) (n c : Nat) (l : List Nat) (hown : ON w base e k A n c l) (g : Nat) (t' : TypeId) (x : Nat) (hr : Blk w g t' #[.int k (x : Int)])
  (h63 : n + 1 ≤ maxLen) (hsz : (n + 1) * bytes ≤ 140737488355328) (hbase : base ≤ w.heap.size) :
  ∃ A2 c2 w', (Builtin.append_ #[t, t] ty #[.slice A n c, .slice (some ⟨g, 0, none⟩) 1 1]).run P w = .ok (.slice A2 (n + 1) c2) w' ∧ ON w' base e k A2 (n + 1) c2 (l ++ [x]) ∧ Below base w w' := by
 obtain ⟨i, hi, hz, hs, hby⟩ := info_parts hinfo
 obtain ⟨v', w', hrun, h2, h3, _, _⟩ := run_append_own_at (P := P) w base t ty e i (.int k 0) 1 bytes ht hi hz hs hby rfl (by omega) _ n _ hown ⟨g, 0, none⟩ 1 1 [.int k (x : Int)]
  rfl (fun j u hj => by
   have hj0 : j = 0 := by
    rcases Nat.eq_zero_or_pos j with h0 | h0
    ·exact h0
    ·rw [List.getElem?_eq_none (by simp; omega)] at hj; cases hj
   subst hj0
   have e2 : (⟨g, 0, none⟩ : Addr).add 0 = ⟨g, 0, none⟩ := by unfold Addr.add; split <;> simp_all
   rw [e2, hr.at]
   simpa using hj) (by intro u hu; simp at hu; subst hu; rfl) h63 hsz hbase
 have hv : ∃ A2 c2, v' = .slice A2 (n + 1) c2 := by
  rcases h2.2 with ⟨h0, h1⟩ | ⟨g, cap, cur, h0, _⟩
  ·omega
  ·exact ⟨_, _, h0⟩
 obtain ⟨A2, c2, rfl⟩ := hv
 exact ⟨A2, c2, w', hrun, by simpa [ON, ival] using h2, (Below.refl base w).grown h3 hbase fun k hk => (World.ownsRow.lt hown k hk).1⟩
theorem wpList_append1 {P : Program} (w : World) {ops : Array Oper} {rest : List Oper} {o : Oper} {a : Act} {Q : Exit → Act → World → Prop} (hgd : o.guard = none) (s x : Operand) (t : TypeId)
  (ho : o.op = .call { callee := .builtin .append, args := #[s, x], argTypes := #[t, t] })
  (base : Nat) (e : TypeId) (k : IntKind) (bytes : Nat) (ht : P.underlying t = some (.slice e)) (hinfo : (P.info? e).map (fun i => (i.zero, i.size, i.bytes)) = some (some (.int k 0), 1, bytes))
  (A : Option Addr) (n c : Nat) (l : List Nat) (hs : a.eval s = .slice A n c) (hown : ON w base e k A n c l)
  (g : Nat) (t' : TypeId) (y : Nat) (hx : a.eval x = .slice (some ⟨g, 0, none⟩) 1 1) (hr : Blk w g t' #[.int k (y : Int)])
  (h63 : n + 1 ≤ maxLen) (hsz : (n + 1) * bytes ≤ 140737488355328) (hbase : base ≤ w.heap.size)
  (h : ∀ A2 c2 w', ON w' base e k A2 (n + 1) c2 (l ++ [y]) → Below base w w' → wpList P ops Q rest (a.put o.dst (.slice A2 (n + 1) c2)) w') : wpList P ops Q (o :: rest) a w := by
 refine wpList_plain hgd fun K hK => ?_
 obtain ⟨A2, c2, w', hrun, h2, h3⟩ := run_append1 (P := P) w base t o.type e k bytes ht hinfo A n c l hown g t' y hr h63 hsz hbase
 unfold Oper.wp execOp
 simp only [ho, resolve, invoke, builtin, Sem.run_bind, Sem.run_pure, Result.andThen_ok, List.map_toArray, List.map_cons, List.map_nil, hs, hx, hrun]
 exact hK _ _ (h A2 c2 w' h2 h3)
def byWide (wide : Bool) (x y : Nat) : Nat := if wide then y else x
def i64s (l : List Nat) : Array Value := (l.map fun n : Nat => Value.int .i64 (n : Int)).toArray
theorem NS.of_blkN {w : World} {B g n : Nat} {k : IntKind} {t : TypeId} {cs : Array Value} {l : List Nat} (h : Blk w g t cs) (hl : l.length = n) (hm : n ≤ maxLen) (hB : g < B) (hcs : cs = (l.map (ival k)).toArray) : NS w B k (some ⟨g, 0, none⟩) n n l := by
 subst hl
 exact NS.of_blk (B := B) h hcs hB hm
theorem OB.of_blk {w : World} {base g : Nat} {e : TypeId} {l : List UInt8} (h : Blk w g e (l.map byt).toArray) (hb : base ≤ g) (hm : l.length ≤ maxLen) : OB w base e (some ⟨g, 0, none⟩) l.length l.length l :=
 ⟨by simp, .inr ⟨g, l.length, (l.map byt).toArray, rfl, hb, h, Nat.le_refl _, hm, by simp, by simp [List.take_of_length_le]⟩⟩
theorem RB.grow {w w' : World} {A : Option Addr} {n c : Nat} {l : List UInt8} (h : RB w w.heap.size A n c l) (hg : Grow w w') : RB w' w'.heap.size A n c l := (h.belowAt hg (Nat.le_refl _)).more hg.size
theorem list2 {l : List Nat} (h : l.length = 2) : ∃ x0 x1, l = [x0, x1] := by
 match l, h with
 | [x0, x1], _ => exact ⟨_, _, rfl⟩
theorem list3 {l : List Nat} (h : l.length = 3) : ∃ x0 x1 x2, l = [x0, x1, x2] := by
 match l, h with
 | [x0, x1, x2], _ => exact ⟨_, _, _, rfl⟩
theorem Blk.c10 {w : World} {g : Nat} {t : TypeId} {a0 a1 a2 a3 a4 a5 a6 a7 a8 a9 : Value} (h : Blk w g t #[a0, a1, a2, a3, a4, a5, a6, a7, a8, a9]) :
  w.cell? ⟨g, 0, none⟩ = some a0 ∧ w.cell? ⟨g, 1, none⟩ = some a1 ∧ w.cell? ⟨g, 2, none⟩ = some a2 ∧ w.cell? ⟨g, 3, none⟩ = some a3 ∧ w.cell? ⟨g, 4, none⟩ = some a4 ∧ w.cell? ⟨g, 5, none⟩ = some a5 ∧ w.cell? ⟨g, 6, none⟩ = some a6 ∧ w.cell? ⟨g, 7, none⟩ = some a7 ∧ w.cell? ⟨g, 8, none⟩ = some a8 ∧ w.cell? ⟨g, 9, none⟩ = some a9 :=
 ⟨h.at 0, h.at 1, h.at 2, h.at 3, h.at 4, h.at 5, h.at 6, h.at 7, h.at 8, h.at 9⟩
theorem ON.cells {w : World} {base : Nat} {e : TypeId} {k : IntKind} {A : Option Addr} {n c : Nat} {l : List Nat} (h : ON w base e k A n c l) (hn : 0 < n) :
  ∃ g cs, A = some ⟨g, 0, none⟩ ∧ base ≤ g ∧ Blk w g e cs ∧ n ≤ c ∧ ∀ W, Blk W g e cs → ∀ (j : Nat) (y : Nat), j < n → l[j]? = some y → W.cell? ⟨g, j, none⟩ = some (.int k (y : Int)) := by
 rcases h.2 with ⟨_, h0⟩ | ⟨g, cap, cur, hv, hg, hh, hnc, hcm, hsz, htk⟩
 ·omega
 ·injection hv with hA _ hc
  refine ⟨g, cur, hA, hg, hh, by omega, fun W hW j y hj hy => ?_⟩
  rw [hW.at]
  have e1 : (cur.toList.take (n * 1))[j]? = some (Value.int k (y : Int)) := by
   rw [htk, List.getElem?_map, hy]; rfl
  rw [List.getElem?_take_of_lt (by omega)] at e1
  simpa using e1
end Go.Proofs.Ytfpihkbpelbcbaa
namespace Go.Proofs.Ytfpihkbpelbcbaa
structure Pl where
 inn : Int
 off : Nat
 size : Nat
 own : List UInt8
structure Sg where
 typ : Nat
 flags : Nat
 vaddr : Nat
 paddr : Nat
 memsz : Nat
 align : Nat
 pl : Pl
structure Se where
 name : Nat
 typ : Nat
 flags : Nat
 addr : Nat
 size : Nat
 link : Nat
 info : Nat
 align : Nat
 entsize : Nat
 pl : Pl
structure Md where
 wide : Bool
 big : Bool
 osabi : Nat
 abi : Nat
 typ : Nat
 mach : Nat
 flags : Nat
 entry : Nat
 segs : List Sg
 secs : List Se
 str : Int
def pl0 : Pl := ⟨0, 0, 0, []⟩
def sg0 : Sg := ⟨0, 0, 0, 0, 0, 0, pl0⟩
def se0 : Se := ⟨0, 0, 0, 0, 0, 0, 0, 0, 0, pl0⟩
instance : Inhabited Sg := ⟨sg0⟩
instance : Inhabited Se := ⟨se0⟩
def I64 (i : Int) : Prop := -9223372036854775808 ≤ i ∧ i ≤ 9223372036854775807
structure Pl.Ok (p : Pl) : Prop where
 inn : I64 p.inn
 off : p.off < 18446744073709551616
 size : p.size < 18446744073709551616
structure Sg.Ok (s : Sg) : Prop where
 typ : s.typ < 4294967296
 flags : s.flags < 4294967296
 vaddr : s.vaddr < 18446744073709551616
 paddr : s.paddr < 18446744073709551616
 memsz : s.memsz < 18446744073709551616
 align : s.align < 18446744073709551616
 pl : s.pl.Ok
structure Se.Ok (s : Se) : Prop where
 name : s.name < 4294967296
 typ : s.typ < 4294967296
 flags : s.flags < 18446744073709551616
 addr : s.addr < 18446744073709551616
 size : s.size < 18446744073709551616
 link : s.link < 4294967296
 info : s.info < 4294967296
 align : s.align < 18446744073709551616
 entsize : s.entsize < 18446744073709551616
 pl : s.pl.Ok
structure Md.Ok (m : Md) : Prop where
 osabi : m.osabi < 256
 abi : m.abi < 256
 typ : m.typ < 65536
 mach : m.mach < 65536
 flags : m.flags < 4294967296
 entry : m.entry < 18446744073709551616
 segs : ∀ s ∈ m.segs, s.Ok
 secs : ∀ s ∈ m.secs, s.Ok
 str : I64 m.str
def isSegN (n : Nat) (i : Int) : Bool := decide (0 ≤ i ∧ i < n)
def Md.seg (m : Md) (i : Int) : Sg := m.segs.getD i.toNat sg0
def Pl.within (p : Pl) (n : Nat) : Bool := decide (p.off + p.size ≤ n)
def Pl.ownMay (p : Pl) : Bool := decide (p.off = 0) && decide (p.size = p.own.length)
def Pl.inMay (p : Pl) (n : Nat) : Bool := decide (p.own.length = 0) && decide (0 < p.size) && p.within n
def Md.may (m : Md) (p : Pl) : Bool :=
 if p.inn = -1 then p.ownMay else isSegN m.segs.length p.inn && decide ((m.seg p.inn).typ = 1) && p.inMay (m.seg p.inn).pl.own.length
def Md.bytes (m : Md) (p : Pl) : List UInt8 :=
 if p.inn = -1 then p.own else if isSegN m.segs.length p.inn && p.within (m.seg p.inn).pl.own.length then (((m.seg p.inn).pl.own).drop p.off).take p.size else []
def lastA (wide : Bool) : Nat := byWide wide 4294967295 18446744073709551615
def Sg.wraps (s : Sg) (wide : Bool) : Bool := decide (0 < s.memsz) && !decide (s.vaddr + (s.memsz - 1) ≤ lastA wide)
def Md.segC (m : Md) (s : Sg) : Nat :=
 if 1 < ones s.align then 6 else if m.may s.pl = false then 1 else if s.typ ≠ 1 then 0 else if s.pl.inn ≠ -1 then 1 else if s.memsz < s.pl.size then 5 else if s.wraps m.wide = true then 12 else 0
def fstC {α : Type} (f : α → Nat) : List α → Nat
 | [] => 0
 | a :: r => if f a = 0 then fstC f r else f a
def loadOf (s : Sg) : List (Nat × Nat) := if s.typ = 1 then [(s.vaddr, s.memsz)] else []
def loads (l : List Sg) : List (Nat × Nat) := l.flatMap loadOf
def Md.segsC (m : Md) : Nat := if fstC m.segC m.segs = 0 then (if rises (loads m.segs) then 0 else 7) else fstC m.segC m.segs
def Se.held (s : Se) : Nat := if s.typ = 0 ∨ s.typ = 8 then 0 else s.size
def Md.secC (m : Md) (s : Se) : Nat := if m.may s.pl = false then 1 else if s.pl.size ≠ s.held then 1 else if m.secs.length < s.link then 10 else 0
def Md.secsC (m : Md) : Nat := fstC m.secC m.secs
def Md.tab (m : Md) : Se := m.secs.getD (m.str - 1).toNat se0
def Md.named (m : Md) : Bool :=
 if m.str = 0 then m.secs.all fun s => decide (s.name = 0)
 else decide (m.tab.typ = 3) && decide (m.tab.pl.inn = -1) && m.secs.all fun s => (nameAt m.tab.pl.own s.name).isSome
def Md.namesC (m : Md) : Nat := if m.str < 0 then 10 else if (m.secs.length : Int) < m.str then 10 else if m.named then 0 else 9
def Md.large (m : Md) : Bool := decide (16 < m.segs.length) || decide (64 < m.secs.length)
def Sg.nums (s : Sg) : List Nat := [s.vaddr, s.paddr, s.memsz, s.align]
def Se.nums (s : Se) : List Nat := [s.flags, s.addr, s.size, s.align, s.entsize]
def Md.nums (m : Md) : List Nat := m.entry :: (m.segs.flatMap Sg.nums ++ m.secs.flatMap Se.nums)
def fitW (wide : Bool) (v : Nat) : Bool := decide (v < 256 ^ byWide wide 4 8)
def Md.fits (m : Md) : Bool := m.nums.all (fitW m.wide)
def Md.chk (m : Md) : Nat :=
 if m.large then 8 else if m.fits = false then 1 else if m.segsC ≠ 0 then m.segsC else if m.secsC ≠ 0 then m.secsC else m.namesC
theorem fstC_zero {α : Type} {f : α → Nat} : ∀ {l : List α}, fstC f l = 0 ↔ ∀ a ∈ l, f a = 0
 | [] => by simp [fstC]
 | a :: r => by
  rw [fstC]
  have ih := fstC_zero (f := f) (l := r)
  by_cases h : f a = 0
  ·rw [if_pos h, ih]
   constructor
   ·intro h1 x hx
    rcases List.mem_cons.1 hx with e | e
    ·exact e ▸ h
    ·exact h1 x e
   ·intro h1 x hx
    exact h1 x (List.mem_cons_of_mem _ hx)
  ·rw [if_neg h]
   exact ⟨fun h1 => absurd h1 h, fun h1 => absurd (h1 a (by simp)) h⟩
theorem fstC_at {α : Type} {f : α → Nat} : ∀ {l : List α} {k : Nat} (h : k < l.length), (∀ a ∈ l.take k, f a = 0) → f l[k] ≠ 0 → fstC f l = f l[k]
 | a :: r, 0, _, _, h2 => by rw [fstC, if_neg (by simpa using h2)]; rfl
 | a :: r, k + 1, h, h1, h2 => by
  rw [fstC, if_pos (h1 a (by simp))]
  exact fstC_at (by simpa using h) (fun x hx => h1 x (by simp [hx])) (by simpa using h2)
theorem takeS {α : Type} (l : List α) (k : Nat) (h : k < l.length) : l.take (k + 1) = l.take k ++ [l[k]] := by
 rw [List.take_add_one, List.getElem?_eq_getElem h]; rfl
theorem Md.chk_zero {m : Md} (h : m.chk = 0) : (∀ s ∈ m.segs, m.segC s = 0) ∧ rises (loads m.segs) = true ∧ (∀ s ∈ m.secs, m.secC s = 0) := by
 unfold Md.chk at h
 split at h
 ·omega
 split at h
 ·omega
 split at h
 ·rename_i h1
  omega
 split at h
 ·rename_i h1
  omega
 ·rename_i h1 h2
  have h1 : m.segsC = 0 := by omega
  have h2 : m.secsC = 0 := by omega
  unfold Md.segsC at h1
  split at h1
  ·rename_i h3
   refine ⟨fstC_zero.1 h3, ?_, fstC_zero.1 h2⟩
   split at h1
   ·assumption
   ·omega
  ·rename_i h3
   exact absurd h1 h3
theorem Md.may_len {m : Md} {p : Pl} (h : m.may p = true) : (m.bytes p).length = p.size := by
 unfold Md.may at h
 unfold Md.bytes
 split
 ·rename_i h0
  rw [if_pos h0] at h
  unfold Pl.ownMay at h
  simp at h
  exact h.2.symm
 ·rename_i h0
  rw [if_neg h0] at h
  unfold Pl.inMay at h
  simp only [Bool.and_eq_true] at h
  rw [if_pos (by rw [Bool.and_eq_true]; exact ⟨h.1.1, h.2.2⟩)]
  have := h.2.2
  unfold Pl.within at this
  simp at this
  rw [List.length_take, List.length_drop]
  omega
theorem belowN_le {a n v : Nat} (ha : a < 18446744073709551616) (h : belowN a n v = true) : a ≤ v := by
 unfold belowN lastN at h
 split at h
 ·simpa using h
 ·simp at h
  omega
theorem mem_loads {l : List Sg} {x : Nat × Nat} (h : x ∈ loads l) : ∃ s ∈ l, s.typ = 1 ∧ x = (s.vaddr, s.memsz) := by
 unfold loads at h
 obtain ⟨s, hs, hx⟩ := List.mem_flatMap.1 h
 unfold loadOf at hx
 split at hx
 ·rename_i ht
  exact ⟨s, hs, ht, by simpa using hx⟩
 ·simp at hx
end Go.Proofs.Ytfpihkbpelbcbaa
namespace Go.Proofs.Ytfpihkbpelbcbaa
open Go.RowKit
theorem wpList_appendZ {P : Program} (w : World) {ops : Array Oper} {rest : List Oper} {o : Oper} {a : Act} {Q : Exit → Act → World → Prop} (hgd : o.guard = none) (s x : Operand) (t : TypeId)
  (ho : o.op = .call { callee := .builtin .append, args := #[s, x], argTypes := #[t, t] })
  (base : Nat) (e : TypeId) (zv : Value) (z bytes : Nat) (ht : P.underlying t = some (.slice e)) (hinfo : (P.info? e).map (fun i => (i.zero, i.size, i.bytes)) = some (some zv, z, bytes)) (hzs : zv.cells.size = z) (hz0 : 0 < z)
  (A : Option Addr) (n c : Nat) (l : List (Array Value)) (hs : a.eval s = .slice A n c) (hown : ZO w base e z A n c l)
  (g : Nat) (t' : TypeId) (r : Array Value) (hx : a.eval x = .slice (some ⟨g, 0, none⟩) 1 1) (hr : Blk w g t' r) (hrz : r.size = z) (h1 : r.all (·.oneCell') = true)
  (h63 : n + 1 ≤ maxLen) (hsz : (n + 1) * bytes ≤ 140737488355328) (hbase : base ≤ w.heap.size)
  (h : ∀ A2 c2 w', ZO w' base e z A2 (n + 1) c2 (l ++ [r]) → w.grownBy w' (own A) → (own A2 = own A ∨ own A2 = some w.heap.size) → wpList P ops Q rest (a.put o.dst (.slice A2 (n + 1) c2)) w') : wpList P ops Q (o :: rest) a w := by
 refine wpList_plain hgd fun K hK => ?_
 refine wp_appendZ w s x t ho base e zv z bytes ht hinfo hzs hz0 A n c l hs hown g t' r hx hr hrz h1 h63 hsz hbase fun A2 c2 w' h2 h3 h4 => ?_
 exact hK _ _ (h A2 c2 w' h2 h3 h4)
theorem ZO.other {w : World} {base : Nat} {e : TypeId} {z : Nat} {A : Option Addr} {n c : Nat} {l : List (Array Value)} (h : ZO w base e z A n c l) {g : Nat} (hg : own A ≠ some g) (cs : Array Value) : ZO (w.setRow g cs) base e z A n c l := by
 refine ⟨⟨h.1.1, ?_⟩, h.2⟩
 rcases h.1.2 with h0 | ⟨g', cap, cur, hv, hb, hh, r⟩
 ·exact .inl h0
 ·refine .inr ⟨g', cap, cur, hv, hb, ?_, r⟩
  injection hv with e1 _ _
  subst e1
  have hne : g' ≠ g := fun e => hg (by rw [e]; rfl)
  rw [setRow_other w g g' cs (by omega)]
  exact hh
structure RK (α : Type) where
 z : Nat
 cs : α → Value → Array Value
 by_ : α → List UInt8
def sgC (g : Sg) (s : Value) : Array Value := #[.int .u32 (g.typ : Nat), .int .u32 (g.flags : Nat), .int .u64 (g.vaddr : Nat), .int .u64 (g.paddr : Nat), .int .u64 (g.memsz : Nat), .int .u64 (g.align : Nat), .int .i64 g.pl.inn, .int .u64 (g.pl.off : Nat), .int .u64 (g.pl.size : Nat), s]
def seC (g : Se) (s : Value) : Array Value := #[.int .u32 (g.name : Nat), .int .u32 (g.typ : Nat), .int .u64 (g.flags : Nat), .int .u64 (g.addr : Nat), .int .u64 (g.size : Nat), .int .u32 (g.link : Nat), .int .u32 (g.info : Nat), .int .u64 (g.align : Nat), .int .u64 (g.entsize : Nat), .int .i64 g.pl.inn, .int .u64 (g.pl.off : Nat), .int .u64 (g.pl.size : Nat), s]
def plC (p : Pl) (s : Value) : Array Value := #[.int .i64 p.inn, .int .u64 (p.off : Nat), .int .u64 (p.size : Nat), s]
def mdC (m : Md) (s t : Value) : Array Value := #[.bool m.wide, .bool m.big, .int .u8 (m.osabi : Nat), .int .u8 (m.abi : Nat), .int .u16 (m.typ : Nat), .int .u16 (m.mach : Nat), .int .u32 (m.flags : Nat), .int .u64 (m.entry : Nat), s, t, .int .i64 m.str]
def sgK : RK Sg := ⟨10, sgC, fun g => g.pl.own⟩
def seK : RK Se := ⟨13, seC, fun g => g.pl.own⟩
def RR {α : Type} (K : RK α) (w : World) (B : Nat) (r : Array Value) (a : α) : Prop := ∃ A n c, r = K.cs a (.slice A n c) ∧ RB w B A n c (K.by_ a)
def ZR {α : Type} (K : RK α) (w : World) (B : Nat) (A : Option Addr) (n c : Nat) (L : List α) : Prop := ∃ R, ZS w B K.z A n c R ∧ R.length = L.length ∧ ∀ j (h : j < R.length) (h' : j < L.length), RR K w B R[j] L[j]
section
variable {α : Type} {K : RK α} {w w' : World} {B B0 B' : Nat} {A : Option Addr} {n c : Nat} {L : List α} {r : Array Value} {s : α}
theorem RR.belowAt (h : RR K w B r s) (hb : Below B0 w w') (hB : B ≤ B0) : RR K w' B r s := by
 obtain ⟨A, n, c, e, h1⟩ := h
 exact ⟨A, n, c, e, h1.belowAt hb hB⟩
theorem RR.more (h : RR K w B r s) (hB : B ≤ B') : RR K w B' r s := by
 obtain ⟨A, n, c, e, h1⟩ := h
 exact ⟨A, n, c, e, h1.more hB⟩
theorem ZR.belowAt (h : ZR K w B A n c L) (hb : Below B0 w w') (hB : B ≤ B0) : ZR K w' B A n c L := by
 obtain ⟨R, h1, h2, h3⟩ := h
 exact ⟨R, h1.belowAt hb hB, h2, fun j h h' => (h3 j h h').belowAt hb hB⟩
theorem ZR.more (h : ZR K w B A n c L) (hB : B ≤ B') : ZR K w B' A n c L := by
 obtain ⟨R, h1, h2, h3⟩ := h
 exact ⟨R, h1.more hB, h2, fun j h h' => (h3 j h h').more hB⟩
theorem ZR.grow (h : ZR K w w.heap.size A n c L) (hg : Grow w w') : ZR K w' w'.heap.size A n c L := (h.belowAt hg (Nat.le_refl _)).more hg.size
theorem ZR.len (h : ZR K w B A n c L) : n = L.length := by
 obtain ⟨R, h1, h2, _⟩ := h
 exact h1.len.trans h2
theorem ZR.cap (h : ZR K w B A n c L) : n ≤ c := by
 obtain ⟨R, h1, h2, _⟩ := h
 exact h1.cap
theorem ZR.max (h : ZR K w B A n c L) : c ≤ maxLen := by
 obtain ⟨R, h1, h2, _⟩ := h
 exact h1.max
theorem ZR.nil : ZR K w B none 0 0 [] := ⟨[], ZS.nil, rfl, fun j h => absurd h (by simp)⟩
theorem ZR.pos (h : ZR K w B A n c L) (hn : 0 < n) : ∃ b off, A = some ⟨b, off, none⟩ ∧ b < B := by
 obtain ⟨R, h1, h2, _⟩ := h
 obtain ⟨b, off, e, hb, _⟩ := h1.pos hn
 exact ⟨b, off, e, hb⟩
theorem ZR.row (h : ZR K w B A n c L) : ∃ R, ZS w B K.z A n c R ∧ ∀ k (hk : k < L.length), ∃ (hR : k < R.length), ∃ A1 n1 c1, R[k] = K.cs L[k] (.slice A1 n1 c1) ∧ RB w B A1 n1 c1 (K.by_ L[k]) := by
 obtain ⟨R, h1, h2, h3⟩ := h
 refine ⟨R, h1, fun k hk => ?_⟩
 have hkR : k < R.length := by rw [h2]; exact hk
 exact ⟨hkR, h3 k hkR hk⟩
theorem ZR.at {b off k : Nat} (h : ZR K w B (some ⟨b, off, none⟩) n c L) (hk : k < L.length) : ∃ A1 n1 c1, b < B ∧
  (∀ i v, (K.cs L[k] (.slice A1 n1 c1))[i]? = some v → w.cell? ⟨b, off + k * K.z + i, none⟩ = some v) ∧ RB w B A1 n1 c1 (K.by_ L[k]) := by
 obtain ⟨R, h1, h2, h3⟩ := h
 have hkR : k < R.length := by rw [h2]; exact hk
 obtain ⟨A1, n1, c1, e, r1⟩ := h3 k hkR hk
 obtain ⟨b', off', e', hb, hc⟩ := h1.pos (by have := h1.len; omega)
 injection e' with e'
 injection e' with e1 e2
 subst e1; subst e2
 exact ⟨A1, n1, c1, hb, fun i v hv => hc k hkR i v (by rw [e]; exact hv), r1⟩
end
def eC (c : Nat) : Value := if c = 0 then .nilIface else .iface 79 (.int .i64 (c : Int))
theorem eC_zero : eC 0 = .nilIface := rfl
theorem eC_some {c : Nat} (h : c ≠ 0) : eC c = .iface 79 (.int .i64 (c : Int)) := if_neg h
theorem Blk.c11 {w : World} {g : Nat} {t : TypeId} {a0 a1 a2 a3 a4 a5 a6 a7 a8 a9 a10 : Value} (h : Blk w g t #[a0, a1, a2, a3, a4, a5, a6, a7, a8, a9, a10]) :
  w.cell? ⟨g, 0, none⟩ = some a0 ∧ w.cell? ⟨g, 1, none⟩ = some a1 ∧ w.cell? ⟨g, 2, none⟩ = some a2 ∧ w.cell? ⟨g, 3, none⟩ = some a3 ∧ w.cell? ⟨g, 4, none⟩ = some a4 ∧ w.cell? ⟨g, 5, none⟩ = some a5 ∧ w.cell? ⟨g, 6, none⟩ = some a6 ∧ w.cell? ⟨g, 7, none⟩ = some a7 ∧ w.cell? ⟨g, 8, none⟩ = some a8 ∧ w.cell? ⟨g, 9, none⟩ = some a9 ∧ w.cell? ⟨g, 10, none⟩ = some a10 :=
 ⟨h.at 0, h.at 1, h.at 2, h.at 3, h.at 4, h.at 5, h.at 6, h.at 7, h.at 8, h.at 9, h.at 10⟩
end Go.Proofs.Ytfpihkbpelbcbaa
