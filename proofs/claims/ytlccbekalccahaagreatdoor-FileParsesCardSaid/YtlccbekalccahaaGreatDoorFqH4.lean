/-
  Several texts in one: Plain mathematics of layer 1; Plain mathematics of rows; Slices of numbers; Small words that the layers behind head share.
-/
import Derived.Test.YtlccbekalccahaaGreatDoorFqH1
import Derived.Maps.AppendAt
import Derived.Test.YtlccbekalccahaaGreatDoorFqH2
namespace Go.Proofs.YtlccbekalccahaaGreatDoor
def num : List UInt8 → Nat
 | [] => 0
 | b :: r => b.toNat + 256 * num r
def low : Nat → Nat → List UInt8
 | 0, _ => []
 | n + 1, v => UInt8.ofNat v :: low n (v / 256)
def ord (big : Bool) (l : List UInt8) : List UInt8 := if big then l.reverse else l
def getB (l : List UInt8) (big : Bool) : Nat := num (ord big l)
def putB (v n : Nat) (big : Bool) : List UInt8 := ord big (low n v)
def rank (i n : Nat) (big : Bool) : Nat := if big then n - 1 - i else i
theorem length_low : ∀ n v : Nat, (low n v).length = n
 | 0, _ => rfl
 | n + 1, v => by simp [low, length_low n]
theorem length_ord (big : Bool) (l : List UInt8) : (ord big l).length = l.length := by cases big <;> simp [ord]
theorem length_putB (v n : Nat) (big : Bool) : (putB v n big).length = n := by simp [putB, length_ord, length_low]
theorem toNat_ofNat8 (v : Nat) : (UInt8.ofNat v).toNat = v % 256 := by simp [UInt8.toNat_ofNat']
theorem num_lt : ∀ l : List UInt8, num l < 256 ^ l.length
 | [] => by simp [num]
 | b :: r => by
  have h1 := num_lt r
  have h2 : b.toNat < 256 := b.toNat_lt
  simp only [num, List.length_cons, Nat.pow_succ]
  omega
theorem num_low : ∀ n v : Nat, num (low n v) = v % 256 ^ n
 | 0, v => by simp [low, num, Nat.mod_one]
 | n + 1, v => by
  simp only [low, num, num_low n, toNat_ofNat8]
  rw [Nat.pow_succ, Nat.mul_comm (256 ^ n) 256, Nat.mod_mul]
theorem low_num : ∀ l : List UInt8, low l.length (num l) = l
 | [] => rfl
 | b :: r => by
  have h2 : b.toNat < 256 := b.toNat_lt
  have e1 : (b.toNat + 256 * num r) / 256 = num r := by omega
  have e2 : UInt8.ofNat (b.toNat + 256 * num r) = b := by
   apply UInt8.toNat_inj.1
   rw [toNat_ofNat8]; omega
  simp only [List.length_cons, low, num, e1, e2, low_num r]
theorem num_append : ∀ a b : List UInt8, num (a ++ b) = num a + 256 ^ a.length * num b
 | [], b => by simp [num]
 | x :: a, b => by
  simp only [List.cons_append, num, num_append a b, List.length_cons, Nat.pow_succ, Nat.mul_add]
  rw [Nat.mul_comm (256 ^ a.length) 256, Nat.mul_assoc]
  omega
theorem low_at : ∀ (n v i : Nat), i < n → (low n v)[i]? = some (UInt8.ofNat (v / 256 ^ i))
 | 0, _, _, h => by omega
 | n + 1, v, 0, _ => by simp [low]
 | n + 1, v, i + 1, h => by
  rw [low, List.getElem?_cons_succ, low_at n (v / 256) i (by omega), Nat.div_div_eq_div_mul, Nat.pow_succ, Nat.mul_comm 256]
theorem putB_at (v n i : Nat) (big : Bool) (h : i < n) : (putB v n big)[i]? = some (UInt8.ofNat (v / 256 ^ rank i n big)) := by
 cases big
 ·simp [putB, ord, rank, low_at n v i h]
 ·simp only [putB, ord, rank, if_true]
  rw [List.getElem?_reverse (by rw [length_low]; exact h), length_low, low_at n v _ (by omega)]
theorem rank_lt (i n : Nat) (big : Bool) (h : i < n) : rank i n big < n := by unfold rank; split <;> omega
theorem getB_putB (v n : Nat) (big : Bool) : getB (putB v n big) big = v % 256 ^ n := by
 cases big <;> simp [getB, putB, ord, num_low]
theorem putB_getB (l : List UInt8) (big : Bool) : putB (getB l big) l.length big = l := by
 cases big
 ·simp [getB, putB, ord, low_num]
 ·have := low_num l.reverse
  rw [List.length_reverse] at this
  simp [getB, putB, ord, this]
theorem getB_lt (l : List UInt8) (big : Bool) : getB l big < 256 ^ l.length := by
 have := num_lt (ord big l)
 rwa [length_ord] at this
theorem putB_turn (v n : Nat) (big : Bool) : putB v n (!big) = (putB v n big).reverse := by
 cases big <;> simp [putB, ord]
def part (l : List UInt8) (big : Bool) (k : Nat) : Nat := if big then 256 ^ (l.length - k) * num (l.take k).reverse else num (l.take k)
theorem part_zero (l : List UInt8) (big : Bool) : part l big 0 = 0 := by cases big <;> simp [part, num]
theorem part_all (l : List UInt8) (big : Bool) : part l big l.length = getB l big := by
 cases big <;> simp [part, getB, ord]
theorem pow256 (n : Nat) : 256 ^ n = 2 ^ (8 * n) := by rw [Nat.pow_mul]
theorem or_low (x y i : Nat) (hx : x < 2 ^ i) (hy : y % 2 ^ i = 0) : x ||| y = x + y := by
 have e : y = 2 ^ i * (y / 2 ^ i) := by have := Nat.div_add_mod y (2 ^ i); omega
 rw [Nat.or_comm, e, ← Nat.two_pow_add_eq_or_of_lt hx]; omega
theorem take_snoc' (l : List UInt8) (k : Nat) (h : k < l.length) : l.take (k + 1) = l.take k ++ [l[k]] := by
 rw [List.take_succ_eq_append_getElem h]
theorem part_succ (l : List UInt8) (big : Bool) (k : Nat) (h : k < l.length) :
  part l big (k + 1) = part l big k ||| (l[k].toNat * 2 ^ (8 * rank k l.length big)) := by
 have hb : l[k].toNat < 256 := l[k].toNat_lt
 cases big
 ·have e : (l.take k).length = k := by simp; omega
  have hlt := num_lt (l.take k)
  rw [e, pow256] at hlt
  simp only [part, rank, Bool.false_eq_true, if_false]
  rw [or_low _ _ (8 * k) hlt (Nat.mul_mod_left _ _), take_snoc' l k h, num_append, e, pow256]
  simp [num, Nat.mul_comm]
 ·have e : l.length - k = l.length - 1 - k + 1 := by omega
  have hsmall : l[k].toNat * 2 ^ (8 * (l.length - 1 - k)) < 2 ^ (8 * (l.length - k)) := by
   rw [e, Nat.mul_add, Nat.pow_add, Nat.mul_comm]
   exact Nat.mul_lt_mul_of_pos_left hb (Nat.two_pow_pos _)
  simp only [part, rank, if_true]
  rw [Nat.or_comm, or_low _ _ (8 * (l.length - k)) hsmall (by rw [pow256]; exact Nat.mul_mod_right _ _), take_snoc' l k h, List.reverse_append]
  simp only [List.reverse_cons, List.reverse_nil, List.nil_append, List.singleton_append, num]
  rw [show l.length - (k + 1) = l.length - 1 - k by omega, pow256, pow256, e, Nat.mul_add 8, Nat.pow_add, Nat.mul_add, ← Nat.mul_assoc, Nat.mul_comm (l[k].toNat)]
theorem part_lt (l : List UInt8) (big : Bool) (k : Nat) (h : k ≤ l.length) : part l big k < 256 ^ l.length := by
 cases big
 ·have := num_lt (l.take k)
  simp only [part, Bool.false_eq_true, if_false]
  exact Nat.lt_of_lt_of_le this (Nat.pow_le_pow_right (by omega) (by simp; omega))
 ·have := num_lt (l.take k).reverse
  simp only [part, if_true]
  rw [List.length_reverse, List.length_take, Nat.min_eq_left h] at this
  have e : (256 : Nat) ^ l.length = 256 ^ (l.length - k) * 256 ^ k := by rw [← Nat.pow_add]; congr 1; omega
  rw [e]
  exact Nat.mul_lt_mul_of_pos_left this (Nat.pow_pos (by omega))
def sumN : List Nat → Nat
 | [] => 0
 | n :: r => n + sumN r
def rowB (big : Bool) : List (Nat × Nat) → List UInt8
 | [] => []
 | q :: r => putB q.1 q.2 big ++ rowB big r
def rowF : List (Nat × Nat) → Bool
 | [] => true
 | q :: r => decide (q.1 < 256 ^ q.2) && rowF r
def nums (l : List UInt8) (big : Bool) : Nat → List Nat → List Nat
 | _, [] => []
 | p, n :: r => getB ((l.drop p).take n) big :: nums l big (p + n) r
theorem rowB_append (big : Bool) : ∀ a b : List (Nat × Nat), rowB big (a ++ b) = rowB big a ++ rowB big b
 | [], _ => rfl
 | q :: a, b => by simp [rowB, rowB_append big a b]
theorem rowF_append : ∀ a b : List (Nat × Nat), rowF (a ++ b) = (rowF a && rowF b)
 | [], _ => by simp [rowF]
 | q :: a, b => by simp [rowF, rowF_append a b, Bool.and_assoc]
theorem length_rowB (big : Bool) : ∀ q : List (Nat × Nat), (rowB big q).length = sumN (q.map (·.2))
 | [] => rfl
 | x :: q => by simp [rowB, length_putB, sumN, length_rowB big q]
theorem length_nums (l : List UInt8) (big : Bool) : ∀ (n : List Nat) (p : Nat), (nums l big p n).length = n.length
 | [], _ => rfl
 | n :: r, p => by simp [nums, length_nums l big r]
theorem take_snoc_pair (q : List (Nat × Nat)) (k : Nat) (h : k < q.length) : q.take (k + 1) = q.take k ++ [q[k]] := by
 rw [List.take_succ_eq_append_getElem h]
theorem rowB_succ (big : Bool) (q : List (Nat × Nat)) (k : Nat) (h : k < q.length) : rowB big (q.take (k + 1)) = rowB big (q.take k) ++ putB q[k].1 q[k].2 big := by
 rw [take_snoc_pair q k h, rowB_append]; simp [rowB]
theorem rowF_succ (q : List (Nat × Nat)) (k : Nat) (h : k < q.length) : rowF (q.take (k + 1)) = (rowF (q.take k) && decide (q[k].1 < 256 ^ q[k].2)) := by
 rw [take_snoc_pair q k h, rowF_append]; simp [rowF]
theorem nums_append (l : List UInt8) (big : Bool) : ∀ (a b : List Nat) (p : Nat), nums l big p (a ++ b) = nums l big p a ++ nums l big (p + sumN a) b
 | [], b, p => by simp [nums, sumN]
 | n :: a, b, p => by simp [nums, nums_append l big a b, sumN, Nat.add_assoc]
theorem sumN_append : ∀ a b : List Nat, sumN (a ++ b) = sumN a + sumN b
 | [], b => by simp [sumN]
 | n :: a, b => by simp [sumN, sumN_append a b, Nat.add_assoc]
theorem take_snoc_nat (q : List Nat) (k : Nat) (h : k < q.length) : q.take (k + 1) = q.take k ++ [q[k]] := by
 rw [List.take_succ_eq_append_getElem h]
theorem nums_succ (l : List UInt8) (big : Bool) (n : List Nat) (p k : Nat) (h : k < n.length) : nums l big p (n.take (k + 1)) = nums l big p (n.take k) ++ [getB ((l.drop (p + sumN (n.take k))).take n[k]) big] := by
 rw [take_snoc_nat n k h, nums_append]; simp [nums]
theorem sumN_succ (n : List Nat) (k : Nat) (h : k < n.length) : sumN (n.take (k + 1)) = sumN (n.take k) + n[k] := by
 rw [take_snoc_nat n k h, sumN_append]; simp [sumN]
theorem sumN_le (n : List Nat) (k : Nat) : sumN (n.take k) ≤ sumN n := by
 have := sumN_append (n.take k) (n.drop k)
 rw [List.take_append_drop] at this
 omega
theorem nums_rowB (big : Bool) (post : List UInt8) : ∀ (q : List (Nat × Nat)) (pre : List UInt8), rowF q = true → nums (pre ++ rowB big q ++ post) big pre.length (q.map (·.2)) = q.map (·.1)
 | [], _, _ => rfl
 | x :: q, pre, h => by
  simp only [rowF, Bool.and_eq_true, decide_eq_true_eq] at h
  have h1 := nums_rowB big post q (pre ++ putB x.1 x.2 big) h.2
  have e : pre ++ rowB big (x :: q) ++ post = pre ++ putB x.1 x.2 big ++ rowB big q ++ post := by simp [rowB]
  rw [List.length_append, length_putB] at h1
  simp only [List.map_cons, nums, e, h1]
  congr 1
  rw [List.append_assoc, List.append_assoc, List.drop_append_of_le_length (Nat.le_refl _), List.drop_length, List.nil_append, List.take_append_of_le_length (by rw [length_putB]; exact Nat.le_refl _), List.take_of_length_le (by rw [length_putB]; exact Nat.le_refl _), getB_putB, Nat.mod_eq_of_lt h.1]
theorem rowB_nums (l : List UInt8) (big : Bool) : ∀ (n : List Nat) (p : Nat), p + sumN n ≤ l.length → rowB big ((nums l big p n).zip n) = (l.drop p).take (sumN n)
 | [], p, _ => by simp [nums, rowB, sumN]
 | n :: r, p, h => by
  simp only [sumN] at h
  have h1 := rowB_nums l big r (p + n) (by omega)
  simp only [nums, List.zip_cons_cons, rowB, h1, sumN]
  have hl : ((l.drop p).take n).length = n := by simp; omega
  have h2 := putB_getB ((l.drop p).take n) big
  rw [hl] at h2
  rw [h2, ← List.drop_drop, List.take_add]
theorem nums_lt (l : List UInt8) (big : Bool) : ∀ (n : List Nat) (p k : Nat) (h : k < (nums l big p n).length), (nums l big p n)[k] < 256 ^ (n.getD k 0)
 | [], _, _, h => absurd h (by simp [nums])
 | n :: r, p, 0, _ => by
  simp only [nums, List.getElem_cons_zero, List.getD_cons_zero]
  have := getB_lt ((l.drop p).take n) big
  refine Nat.lt_of_lt_of_le this (Nat.pow_le_pow_right (by omega) (by simp; omega))
 | n :: r, p, k + 1, h => by
  simp only [nums, List.getElem_cons_succ, List.getD_cons_succ]
  exact nums_lt l big r (p + n) k _
end Go.Proofs.YtlccbekalccahaaGreatDoor
namespace Go.Proofs.YtlccbekalccahaaGreatDoor
open Go.RowKit
def ival (k : IntKind) (n : Nat) : Value := .int k (n : Int)
structure NS (w : World) (B : Nat) (k : IntKind) (A : Option Addr) (n c : Nat) (l : List Nat) : Prop where
 len : n = l.length
 cap : n ≤ c
 max : c ≤ maxLen
 pos : 0 < n → ∃ b off, A = some ⟨b, off, none⟩ ∧ b < B ∧ ∀ j (h : j < l.length), w.cell? ⟨b, off + j, none⟩ = some (.int k (l[j] : Int))
section
variable {w w' : World} {B : Nat} {k : IntKind} {A : Option Addr} {n c : Nat} {l : List Nat}
theorem NS.keep (h : NS w B k A n c l) (hk : ∀ p : Addr, p.block < B → w'.cell? p = w.cell? p) : NS w' B k A n c l :=
 ⟨h.len, h.cap, h.max, fun hn => by
  obtain ⟨b, off, e, hb, hc⟩ := h.pos hn
  exact ⟨b, off, e, hb, fun j hj => (hk ⟨b, off + j, none⟩ hb).trans (hc j hj)⟩⟩
theorem NS.belowAt {B0 : Nat} (h : NS w B k A n c l) (hb : Below B0 w w') (hB : B ≤ B0) : NS w' B k A n c l := h.keep fun _ hp => hb.cell (by omega)
theorem NS.more {B' : Nat} (h : NS w B k A n c l) (hB : B ≤ B') : NS w B' k A n c l :=
 ⟨h.len, h.cap, h.max, fun hn => by
  obtain ⟨b, off, e, hb, hc⟩ := h.pos hn
  exact ⟨b, off, e, by omega, hc⟩⟩
theorem NS.of_blk {g : Nat} {t : TypeId} {cs : Array Value} (h : Blk w g t cs) (hcs : cs = (l.map (ival k)).toArray) (hB : g < B) (hm : l.length ≤ maxLen) : NS w B k (some ⟨g, 0, none⟩) l.length l.length l :=
 ⟨rfl, Nat.le_refl _, hm, fun _ => ⟨g, 0, rfl, hB, fun j hj => by rw [Nat.zero_add, h.at, hcs]; simp [hj, ival]⟩⟩
theorem NS.first {m : Nat} (h : NS w B k A n c l) (hm : m ≤ n) : NS w B k A m c (l.take m) :=
 ⟨by have := h.len; simp; omega, by have := h.cap; omega, h.max, fun hp => by
  obtain ⟨b, off, e, hb, hc⟩ := h.pos (by omega)
  exact ⟨b, off, e, hb, fun j hj => by
   have hj2 : j < l.length := by simp at hj; omega
   rw [hc j hj2]; simp⟩⟩
end
def ON (w : World) (base : Nat) (e : TypeId) (k : IntKind) (A : Option Addr) (n c : Nat) (l : List Nat) : Prop :=
 w.ownsRow base e 1 (.slice A n c) n (l.map (ival k))
section
variable {w : World} {base : Nat} {e : TypeId} {k : IntKind} {A : Option Addr} {n c : Nat} {l : List Nat}
theorem ON.nil : ON w base e k none 0 0 [] := World.ownsRow_nil _ _ _ _
theorem ON.keep {w' : World} (h : ON w base e k A n c l) (hb : Below w.heap.size w w') : ON w' base e k A n c l := by
 refine ⟨h.1, ?_⟩
 rcases h.2 with h0 | ⟨g, cap, cur, hv, hg, hh, r⟩
 ·exact .inl h0
 ·refine .inr ⟨g, cap, cur, hv, hg, ?_, r⟩
  rw [hb.block g ?_]
  ·exact hh
  ·rcases Nat.lt_or_ge g w.heap.size with h1 | h1
   ·exact h1
   ·rw [Array.getElem?_eq_none h1] at hh; cases hh
theorem ON.ns (h : ON w base e k A n c l) : NS w w.heap.size k A n c l := by
 have hl : n = l.length := by have := h.1; simp at this; omega
 rcases h.2 with ⟨e0, h0⟩ | ⟨g, cap, cur, hv, _, hh, hnc, hcm, hsz, htk⟩
 ·injection e0 with e1 e2 e3
  subst e1; subst e3
  exact ⟨hl, by omega, Nat.zero_le _, fun hp => by omega⟩
 ·injection hv with hA _ hc
  subst hA; subst hc
  refine ⟨hl, hnc, hcm, fun _ => ⟨g, 0, rfl, ?_, fun j hj => ?_⟩⟩
  ·rcases Nat.lt_or_ge g w.heap.size with h1 | h1
   ·exact h1
   ·rw [Array.getElem?_eq_none h1] at hh; cases hh
  ·rw [cell_of_row w g (0 + j) cur e (0, 0) hh, Nat.zero_add]
   have e1 : (cur.toList.take (n * 1))[j]? = some (Value.int k (l[j] : Int)) := by
    rw [htk]; simp [hj, ival]
   rw [List.getElem?_take_of_lt (by omega)] at e1
   simpa using e1
end
theorem run_append1 {P : Program} (w : World) (base : Nat) (t ty e : TypeId) (k : IntKind) (bytes : Nat) (ht : P.underlying t = some (.slice e))
  (hinfo : (P.info? e).map (fun i => (i.zero, i.size, i.bytes)) = some (some (.int k 0), 1, bytes))
  (A : Option Addr) (n c : Nat) (l : List Nat) (hown : ON w base e k A n c l) (g : Nat) (t' : TypeId) (x : Nat) (hr : Blk w g t' #[.int k (x : Int)])
  (h63 : n + 1 ≤ maxLen) (hsz : (n + 1) * bytes ≤ 140737488355328) (hbase : base ≤ w.heap.size) :
  ∃ A2 c2 w', (Builtin.append_ #[t, t] ty #[.slice A n c, .slice (some ⟨g, 0, none⟩) 1 1]).run P w = .ok (.slice A2 (n + 1) c2) w' ∧ ON w' base e k A2 (n + 1) c2 (l ++ [x]) ∧ Below base w w' := by
 obtain ⟨i, hi, hz, hs, hby⟩ := info_parts hinfo
 obtain ⟨v', w', hrun, h2, h3, _, _⟩ := run_append_own_at (P := P) w base t ty e i (.int k 0) 1 bytes ht hi hz hs hby rfl (by omega) _ n _ hown ⟨g, 0, none⟩ 1 1 [.int k (x : Int)]
  rfl (fun j u hj => by
   have hj0 : j = 0 := by
    rcases Nat.eq_zero_or_pos j with h0 | h0
    ·exact h0
    ·rw [List.getElem?_eq_none (by simp; omega)] at hj; cases hj
   subst hj0
   have e2 : (⟨g, 0, none⟩ : Addr).add 0 = ⟨g, 0, none⟩ := by unfold Addr.add; split <;> simp_all
   rw [e2, hr.at]
   simpa using hj) (by intro u hu; simp at hu; subst hu; rfl) h63 hsz hbase
 have hv : ∃ A2 c2, v' = .slice A2 (n + 1) c2 := by
  rcases h2.2 with ⟨h0, h1⟩ | ⟨g, cap, cur, h0, _⟩
  ·omega
  ·exact ⟨_, _, h0⟩
 obtain ⟨A2, c2, rfl⟩ := hv
 exact ⟨A2, c2, w', hrun, by simpa [ON, ival] using h2, (Below.refl base w).grown h3 hbase fun k hk => (World.ownsRow.lt hown k hk).1⟩
theorem wpList_append1 {P : Program} (w : World) {ops : Array Oper} {rest : List Oper} {o : Oper} {a : Act} {Q : Exit → Act → World → Prop} (hgd : o.guard = none) (s x : Operand) (t : TypeId)
  (ho : o.op = .call { callee := .builtin .append, args := #[s, x], argTypes := #[t, t] })
  (base : Nat) (e : TypeId) (k : IntKind) (bytes : Nat) (ht : P.underlying t = some (.slice e)) (hinfo : (P.info? e).map (fun i => (i.zero, i.size, i.bytes)) = some (some (.int k 0), 1, bytes))
  (A : Option Addr) (n c : Nat) (l : List Nat) (hs : a.eval s = .slice A n c) (hown : ON w base e k A n c l)
  (g : Nat) (t' : TypeId) (y : Nat) (hx : a.eval x = .slice (some ⟨g, 0, none⟩) 1 1) (hr : Blk w g t' #[.int k (y : Int)])
  (h63 : n + 1 ≤ maxLen) (hsz : (n + 1) * bytes ≤ 140737488355328) (hbase : base ≤ w.heap.size)
  (h : ∀ A2 c2 w', ON w' base e k A2 (n + 1) c2 (l ++ [y]) → Below base w w' → wpList P ops Q rest (a.put o.dst (.slice A2 (n + 1) c2)) w') : wpList P ops Q (o :: rest) a w := by
 refine wpList_plain hgd fun K hK => ?_
 obtain ⟨A2, c2, w', hrun, h2, h3⟩ := run_append1 (P := P) w base t o.type e k bytes ht hinfo A n c l hown g t' y hr h63 hsz hbase
 unfold Oper.wp execOp
 simp only [ho, resolve, invoke, builtin, Sem.run_bind, Sem.run_pure, Result.andThen_ok, List.map_toArray, List.map_cons, List.map_nil, hs, hx, hrun]
 exact hK _ _ (h A2 c2 w' h2 h3)
def byWide (wide : Bool) (x y : Nat) : Nat := if wide then y else x
def hSize (wide : Bool) : Nat := byWide wide 52 64
def ifSome (b : Bool) (n : Nat) : Nat := if b then n else 0
def u64s (l : List Nat) : Array Value := (l.map fun n : Nat => Value.int .u64 (n : Int)).toArray
def i64s (l : List Nat) : Array Value := (l.map fun n : Nat => Value.int .i64 (n : Int)).toArray
theorem one_u64s (l : List Nat) : (u64s l).all (·.oneCell') = true := by simp [u64s, Value.oneCell']
theorem one_i64s (l : List Nat) : (i64s l).all (·.oneCell') = true := by simp [i64s, Value.oneCell']
theorem ifSome_le (b : Bool) (n : Nat) : ifSome b n ≤ n := by cases b <;> simp [ifSome]
theorem byWide_le (b : Bool) (x y m : Nat) (hx : x ≤ m) (hy : y ≤ m) : byWide b x y ≤ m := by cases b <;> simp [byWide, *]
theorem byWide_pow (b : Bool) (x : Nat) (h : x < 256 ^ byWide b 4 8) : x < 18446744073709551616 := by
 cases b
 ·exact Nat.lt_of_lt_of_le h (by decide)
 ·exact h
theorem some_of {x : Nat} (h : x ≠ 0) : ((x : Int) != 0) = true := by simp; omega
theorem idx_u64s (l : List Nat) (k : Nat) (h : k < l.length) : (u64s l)[k]? = some (.int .u64 (l.getD k 0 : Nat)) := by simp [u64s, h]
theorem idx_i64s (l : List Nat) (k : Nat) (h : k < l.length) : (i64s l)[k]? = some (.int .i64 (l.getD k 0 : Nat)) := by simp [i64s, h]
theorem list13 {l : List Nat} (h : l.length = 13) : ∃ x0 x1 x2 x3 x4 x5 x6 x7 x8 x9 x10 x11 x12, l = [x0, x1, x2, x3, x4, x5, x6, x7, x8, x9, x10, x11, x12] := by
 match l, h with
 | [x0, x1, x2, x3, x4, x5, x6, x7, x8, x9, x10, x11, x12], _ => exact ⟨_, _, _, _, _, _, _, _, _, _, _, _, _, rfl⟩
theorem arr13 {R : Array Value} (h : R.size = 13) : ∃ r0 r1 r2 r3 r4 r5 r6 r7 r8 r9 r10 r11 r12, R = #[r0, r1, r2, r3, r4, r5, r6, r7, r8, r9, r10, r11, r12] := by
 match R, h with
 | ⟨[r0, r1, r2, r3, r4, r5, r6, r7, r8, r9, r10, r11, r12]⟩, _ => exact ⟨_, _, _, _, _, _, _, _, _, _, _, _, _, rfl⟩
theorem NS.of_blkN {w : World} {B g n : Nat} {k : IntKind} {t : TypeId} {cs : Array Value} {l : List Nat} (h : Blk w g t cs) (hl : l.length = n) (hm : n ≤ maxLen) (hB : g < B) (hcs : cs = (l.map (ival k)).toArray) : NS w B k (some ⟨g, 0, none⟩) n n l := by
 subst hl
 exact NS.of_blk (B := B) h hcs hB hm
theorem NS.of_blk13 {w : World} {B g : Nat} {k : IntKind} {t : TypeId} {cs : Array Value} {l : List Nat} (h : Blk w g t cs) (hl : l.length = 13) (hB : g < B) (hcs : cs = (l.map (ival k)).toArray) : NS w B k (some ⟨g, 0, none⟩) 13 13 l := by
 have := NS.of_blk (B := B) h hcs hB (by rw [hl]; decide)
 rwa [hl] at this
theorem OB.of_blk {w : World} {base g : Nat} {e : TypeId} {l : List UInt8} (h : Blk w g e (l.map byt).toArray) (hb : base ≤ g) (hm : l.length ≤ maxLen) : OB w base e (some ⟨g, 0, none⟩) l.length l.length l :=
 ⟨by simp, .inr ⟨g, l.length, (l.map byt).toArray, rfl, hb, h, Nat.le_refl _, hm, by simp, by simp [List.take_of_length_le]⟩⟩
theorem OB.room (w : World) (base : Nat) (t : TypeId) (c : Nat) (v : Value) (h : c ≤ maxLen) (hb : base ≤ w.heap.size) : OB (w.alloc (.cells (Array.replicate c v) t)) base t (some ⟨w.heap.size, 0, none⟩) 0 c [] :=
 ⟨by simp, .inr ⟨w.heap.size, c, Array.replicate c v, rfl, hb, heap_alloc_new w _, Nat.zero_le _, h, by simp, by simp⟩⟩
theorem blk4 {w W : World} {t1 t2 t3 t4 : TypeId} {c1 c2 c3 c4 : Array Value} (h : (((w.alloc (.cells c1 t1)).alloc (.cells c2 t2)).alloc (.cells c3 t3)).alloc (.cells c4 t4) = W) :
  Blk W w.heap.size t1 c1 ∧ Blk W (w.heap.size + 1) t2 c2 ∧ Blk W (w.heap.size + 1 + 1) t3 c3 ∧ Blk W (w.heap.size + 1 + 1 + 1) t4 c4 ∧ Grow w W := by
 obtain ⟨h1, h2, h3, h4⟩ := blk3 (w := w) (t1 := t1) (t2 := t2) (t3 := t3) (c1 := c1) (c2 := c2) (c3 := c3) rfl
 subst h
 have h5 := Blk.new (((w.alloc (.cells c1 t1)).alloc (.cells c2 t2)).alloc (.cells c3 t3)) t4 c4
 rw [show (((w.alloc (.cells c1 t1)).alloc (.cells c2 t2)).alloc (.cells c3 t3)).heap.size = w.heap.size + 1 + 1 + 1 by simp] at h5
 exact ⟨h1.alloc _, h2.alloc _, h3.alloc _, h5, h4.trans (Grow.of_alloc _ _)⟩
theorem rowF_false {q : List (Nat × Nat)} {k : Nat} (hk : k < q.length) (h : decide (q[k].1 < 256 ^ q[k].2) = false) : rowF q = false := by
 have e : q = q.take (k + 1) ++ q.drop (k + 1) := (List.take_append_drop _ _).symm
 rw [e, rowF_append, rowF_succ q k hk, h]
 simp
theorem RB.grow {w w' : World} {A : Option Addr} {n c : Nat} {l : List UInt8} (h : RB w w.heap.size A n c l) (hg : Grow w w') : RB w' w'.heap.size A n c l := (h.belowAt hg (Nat.le_refl _)).more hg.size
theorem RB.first {w : World} {B : Nat} {A : Option Addr} {n c m : Nat} {l : List UInt8} (h : RB w B A n c l) (hm : m ≤ n) : RB w B A m c (l.take m) :=
 ⟨by have := h.len; simp; omega, by have := h.cap; omega, h.max, fun hp => by
  obtain ⟨b, off, e, hb, hc⟩ := h.pos (by omega)
  exact ⟨b, off, e, hb, fun j hj => by
   have hj2 : j < l.length := by simp at hj; omega
   rw [hc j hj2]; simp⟩⟩
theorem nums_at (l : List UInt8) (big : Bool) : ∀ (ns : List Nat) (p k : Nat) (h : k < ns.length), (nums l big p ns)[k]? = some (getB ((l.drop (p + sumN (ns.take k))).take ns[k]) big)
 | [], _, _, h => absurd h (by simp)
 | n :: r, p, 0, _ => by simp [nums, sumN]
 | n :: r, p, k + 1, h => by
  have := nums_at l big r (p + n) k (by simpa using h)
  simp only [nums, List.getElem?_cons_succ, this, List.take_succ_cons, sumN, List.getElem_cons_succ, Nat.add_assoc]
def laidTo (kd : IntKind) (l : List Nat) (k j : Nat) : Value := .int kd (if j < k then l.getD j 0 else 0 : Nat)
theorem laidTo_succ {kd : IntKind} {l : List Nat} {k v : Nat} (hv : l[k]? = some v) (j : Nat) : (if j = k then Value.int kd (v : Int) else laidTo kd l k j) = laidTo kd l (k + 1) j := by
 by_cases e : j = k
 ·subst e
  simp [laidTo, hv]
 ·rw [if_neg e]
  by_cases e2 : j < k
  ·simp only [laidTo, if_pos e2, if_pos (show j < k + 1 by omega)]
  ·simp only [laidTo, if_neg e2, if_neg (show ¬ j < k + 1 by omega)]
theorem blk_of_rowIs {w : World} {g : Nat} {t : TypeId} {kd : IntKind} {l : List Nat} {n : Nat} (h : w.rowIs g t n (laidTo kd l n)) (hl : l.length = n) : Blk w g t ((l.map fun x : Nat => Value.int kd (x : Int)).toArray) := by
 obtain ⟨c, hb, hn, hc⟩ := h
 have e : c = (l.map fun x : Nat => Value.int kd (x : Int)).toArray := by
  apply Array.ext_getElem?
  intro i
  by_cases hi : i < n
  ·rw [hc i hi]
   simp [laidTo, hi, show i < l.length by omega]
  ·rw [Array.getElem?_eq_none (by omega), Array.getElem?_eq_none (by simp; omega)]
 rw [Blk, hb, e]
theorem results_cell2 {fn : Func} {p q : Tmp} {ty ty' : TypeId} (h : fn.results = #[.cell p ty, .cell q ty']) (tmps : Array Value) {P : Program} (w : World) (g g' : Nat) (u v : Value)
  (hp : tmps.getD p undef = .pointer (some ⟨g, 0, none⟩)) (hq : tmps.getD q undef = .pointer (some ⟨g', 0, none⟩)) (hu : (loadVar ty ⟨g, 0, none⟩).run P w = .ok u w) (hv : (loadVar ty' ⟨g', 0, none⟩).run P w = .ok v w) :
  (results fn tmps).run P w = .ok (.tuple #[u, v]) w := by
 have hp' : tmps[p]?.getD undef = .pointer (some ⟨g, 0, none⟩) := by simpa using hp
 have hq' : tmps[q]?.getD undef = .pointer (some ⟨g', 0, none⟩) := by simpa using hq
 simp [results, h, hp', hq', asAddr, hu, hv]
theorem leap_eq : Leap (fun w W : World => W = w) := ⟨fun _ => rfl, fun _ _ _ h k => k.trans h⟩
theorem list2 {l : List Nat} (h : l.length = 2) : ∃ x0 x1, l = [x0, x1] := by
 match l, h with
 | [x0, x1], _ => exact ⟨_, _, rfl⟩
theorem arr2 {R : Array Value} (h : R.size = 2) : ∃ r0 r1, R = #[r0, r1] := by
 match R, h with
 | ⟨[r0, r1]⟩, _ => exact ⟨_, _, rfl⟩
theorem list3 {l : List Nat} (h : l.length = 3) : ∃ x0 x1 x2, l = [x0, x1, x2] := by
 match l, h with
 | [x0, x1, x2], _ => exact ⟨_, _, _, rfl⟩
theorem arr3 {R : Array Value} (h : R.size = 3) : ∃ r0 r1 r2, R = #[r0, r1, r2] := by
 match R, h with
 | ⟨[r0, r1, r2]⟩, _ => exact ⟨_, _, _, rfl⟩
theorem list6 {l : List Nat} (h : l.length = 6) : ∃ x0 x1 x2 x3 x4 x5, l = [x0, x1, x2, x3, x4, x5] := by
 match l, h with
 | [x0, x1, x2, x3, x4, x5], _ => exact ⟨_, _, _, _, _, _, rfl⟩
theorem arr6 {R : Array Value} (h : R.size = 6) : ∃ r0 r1 r2 r3 r4 r5, R = #[r0, r1, r2, r3, r4, r5] := by
 match R, h with
 | ⟨[r0, r1, r2, r3, r4, r5]⟩, _ => exact ⟨_, _, _, _, _, _, rfl⟩
theorem list8 {l : List Nat} (h : l.length = 8) : ∃ x0 x1 x2 x3 x4 x5 x6 x7, l = [x0, x1, x2, x3, x4, x5, x6, x7] := by
 match l, h with
 | [x0, x1, x2, x3, x4, x5, x6, x7], _ => exact ⟨_, _, _, _, _, _, _, _, rfl⟩
theorem arr8 {R : Array Value} (h : R.size = 8) : ∃ r0 r1 r2 r3 r4 r5 r6 r7, R = #[r0, r1, r2, r3, r4, r5, r6, r7] := by
 match R, h with
 | ⟨[r0, r1, r2, r3, r4, r5, r6, r7]⟩, _ => exact ⟨_, _, _, _, _, _, _, _, rfl⟩
theorem list10 {l : List Nat} (h : l.length = 10) : ∃ x0 x1 x2 x3 x4 x5 x6 x7 x8 x9, l = [x0, x1, x2, x3, x4, x5, x6, x7, x8, x9] := by
 match l, h with
 | [x0, x1, x2, x3, x4, x5, x6, x7, x8, x9], _ => exact ⟨_, _, _, _, _, _, _, _, _, _, rfl⟩
theorem arr10 {R : Array Value} (h : R.size = 10) : ∃ r0 r1 r2 r3 r4 r5 r6 r7 r8 r9, R = #[r0, r1, r2, r3, r4, r5, r6, r7, r8, r9] := by
 match R, h with
 | ⟨[r0, r1, r2, r3, r4, r5, r6, r7, r8, r9]⟩, _ => exact ⟨_, _, _, _, _, _, _, _, _, _, rfl⟩
theorem Blk.c6 {w : World} {g : Nat} {t : TypeId} {a0 a1 a2 a3 a4 a5 : Value} (h : Blk w g t #[a0, a1, a2, a3, a4, a5]) :
  w.cell? ⟨g, 0, none⟩ = some a0 ∧ w.cell? ⟨g, 1, none⟩ = some a1 ∧ w.cell? ⟨g, 2, none⟩ = some a2 ∧ w.cell? ⟨g, 3, none⟩ = some a3 ∧ w.cell? ⟨g, 4, none⟩ = some a4 ∧ w.cell? ⟨g, 5, none⟩ = some a5 :=
 ⟨h.at 0, h.at 1, h.at 2, h.at 3, h.at 4, h.at 5⟩
theorem Blk.c8 {w : World} {g : Nat} {t : TypeId} {a0 a1 a2 a3 a4 a5 a6 a7 : Value} (h : Blk w g t #[a0, a1, a2, a3, a4, a5, a6, a7]) :
  w.cell? ⟨g, 0, none⟩ = some a0 ∧ w.cell? ⟨g, 1, none⟩ = some a1 ∧ w.cell? ⟨g, 2, none⟩ = some a2 ∧ w.cell? ⟨g, 3, none⟩ = some a3 ∧ w.cell? ⟨g, 4, none⟩ = some a4 ∧ w.cell? ⟨g, 5, none⟩ = some a5 ∧ w.cell? ⟨g, 6, none⟩ = some a6 ∧ w.cell? ⟨g, 7, none⟩ = some a7 :=
 ⟨h.at 0, h.at 1, h.at 2, h.at 3, h.at 4, h.at 5, h.at 6, h.at 7⟩
theorem Blk.c10 {w : World} {g : Nat} {t : TypeId} {a0 a1 a2 a3 a4 a5 a6 a7 a8 a9 : Value} (h : Blk w g t #[a0, a1, a2, a3, a4, a5, a6, a7, a8, a9]) :
  w.cell? ⟨g, 0, none⟩ = some a0 ∧ w.cell? ⟨g, 1, none⟩ = some a1 ∧ w.cell? ⟨g, 2, none⟩ = some a2 ∧ w.cell? ⟨g, 3, none⟩ = some a3 ∧ w.cell? ⟨g, 4, none⟩ = some a4 ∧ w.cell? ⟨g, 5, none⟩ = some a5 ∧ w.cell? ⟨g, 6, none⟩ = some a6 ∧ w.cell? ⟨g, 7, none⟩ = some a7 ∧ w.cell? ⟨g, 8, none⟩ = some a8 ∧ w.cell? ⟨g, 9, none⟩ = some a9 :=
 ⟨h.at 0, h.at 1, h.at 2, h.at 3, h.at 4, h.at 5, h.at 6, h.at 7, h.at 8, h.at 9⟩
theorem ON.cells {w : World} {base : Nat} {e : TypeId} {k : IntKind} {A : Option Addr} {n c : Nat} {l : List Nat} (h : ON w base e k A n c l) (hn : 0 < n) :
  ∃ g cs, A = some ⟨g, 0, none⟩ ∧ base ≤ g ∧ Blk w g e cs ∧ n ≤ c ∧ ∀ W, Blk W g e cs → ∀ (j : Nat) (y : Nat), j < n → l[j]? = some y → W.cell? ⟨g, j, none⟩ = some (.int k (y : Int)) := by
 rcases h.2 with ⟨_, h0⟩ | ⟨g, cap, cur, hv, hg, hh, hnc, hcm, hsz, htk⟩
 ·omega
 ·injection hv with hA _ hc
  refine ⟨g, cur, hA, hg, hh, by omega, fun W hW j y hj hy => ?_⟩
  rw [hW.at]
  have e1 : (cur.toList.take (n * 1))[j]? = some (Value.int k (y : Int)) := by
   rw [htk, List.getElem?_map, hy]; rfl
  rw [List.getElem?_take_of_lt (by omega)] at e1
  simpa using e1
end Go.Proofs.YtlccbekalccahaaGreatDoor
