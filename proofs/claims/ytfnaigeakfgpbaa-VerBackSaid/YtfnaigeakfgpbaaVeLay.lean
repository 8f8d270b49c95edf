/-
  The contract of ver.lay: numbers behind bytes; and what an append leaves.
-/
import Derived.Test.YtfnaigeakfgpbaaWirePut
import Derived.Test.YtfnaigeakfgpbaaVeMem
import Derived.Test.YtfnaigeakfgpbaaVeAux
import Derived.Test.YtfnaigeakfgpbaaRoom
namespace Go.Proofs.Ytfnaigeakfgpbaa
open Go.RowKit

/-- What an append to the bytes at A leaves: every other block stays; the bytes lie where they lay, or in a new block (A2). -/
def Lft (w w' : World) (A A2 : Option Addr) : Prop := w.heap.size ≤ w'.heap.size ∧ (∀ k, k < w.heap.size → own A ≠ some k → w'.heap[k]? = w.heap[k]?) ∧ ∀ g, own A2 = some g → own A = some g ∨ w.heap.size ≤ g
theorem Lft.refl (w : World) (A : Option Addr) : Lft w w A A := ⟨Nat.le_refl _, fun _ _ _ => rfl, fun _ h => .inl h⟩
theorem Lft.of_grow {w w' : World} (A : Option Addr) (h : Grow w w') : Lft w w' A A := ⟨h.size, fun k hk _ => h.block k hk, fun _ h => .inl h⟩
theorem Lft.of_append {w w' : World} {A A2 : Option Addr} (hs : w.heap.size ≤ w'.heap.size) (hk : ∀ k, k < w.heap.size → own A ≠ some k → w'.heap[k]? = w.heap[k]?) (hn : own A2 = own A ∨ own A2 = some w.heap.size) : Lft w w' A A2 :=
  ⟨hs, hk, fun g hg => by
    rcases hn with e | e
    · exact .inl (e ▸ hg)
    · rw [e] at hg
      injection hg with hg
      exact .inr (by omega)⟩
theorem Lft.trans {w w1 w2 : World} {A A1 A2 : Option Addr} (h : Lft w w1 A A1) (k : Lft w1 w2 A1 A2) : Lft w w2 A A2 := by
  refine ⟨Nat.le_trans h.1 k.1, fun i hi hA => ?_, fun g hg => ?_⟩
  · have h1 : own A1 ≠ some i := fun he => by
      rcases h.2.2 i he with h2 | h2
      · exact hA h2
      · omega
    rw [k.2.1 i (Nat.lt_of_lt_of_le hi h.1) h1, h.2.1 i hi hA]
  · rcases k.2.2 g hg with h1 | h1
    · exact h.2.2 g h1
    · exact .inr (Nat.le_trans h.1 h1)
theorem Lft.blk {w w' : World} {A A2 : Option Addr} (h : Lft w w' A A2) {g : Nat} {t : TypeId} {cs : Array Value} (hA : own A ≠ some g) (hb : Blk w g t cs) : Blk w' g t cs ∧ own A2 ≠ some g := by
  have hlt := hb.lt
  refine ⟨(h.2.1 g hlt hA).trans hb, fun he => ?_⟩
  rcases h.2.2 g he with h1 | h1
  · exact hA h1
  · omega
theorem OB.blkOff {w : World} {base : Nat} {e t : TypeId} {A : Option Addr} {n c g : Nat} {l : List UInt8} {cs : Array Value} (h : OB w base e A n c l) (hb : Blk w g t cs) (ht : e ≠ t) : own A ≠ some g := fun hA => by
  rcases h.2 with ⟨hv, _⟩ | ⟨g', cap, cur, hv, _, hh, _⟩
  · injection hv with e1 _ _
    subst e1
    cases hA
  · injection hv with e1 _ _
    subst e1
    have e3 : g' = g := Option.some.inj hA
    subst e3
    rw [hb] at hh
    injection hh with hh
    injection hh with _ hh
    exact ht hh.symm

/-- Numbers of one width, as a row. -/
def evs (sz : Nat) (L : List Nat) : List (Nat × Nat) := L.map fun v => (v, sz)
theorem evs_snoc (big : Bool) (sz : Nat) (L : List Nat) (v : Nat) : rowB big (evs sz (L ++ [v])) = rowB big (evs sz L) ++ putB v sz big := by
  unfold evs
  rw [List.map_append, rowB_append]
  simp [rowB]
theorem len_evs (big : Bool) (sz : Nat) : ∀ (L : List Nat), (rowB big (evs sz L)).length = L.length * sz
  | [] => by simp [evs, rowB]
  | v :: L => by
    have := len_evs big sz L
    simp only [evs, List.map_cons, rowB, List.length_append, length_putB, List.length_cons] at this ⊢
    rw [this, Nat.succ_mul]; omega

/-- What lay answers. -/
def VLay (A : Option Addr) (l' : List UInt8) (base : Nat) (w : World) (e : Ending) (w' : World) : Prop :=
  ∃ A2 c2, e = .returned (.slice A2 l'.length c2) ∧ OB w' base 5 A2 l'.length c2 l' ∧ Below base w w' ∧ Lft w w' A A2

set_option maxHeartbeats 1000000 in
theorem vlay_any (sz : Nat) (hsz : sz = 2 ∨ sz = 4) (big : Bool) (L : List Nat) (N g : Nat) (hN : N = L.length) (A : Option Addr) (n c : Nat) (l : List UInt8) (base : Nat) (w : World) (ho : OB w base 5 A n c l) (hb : Blk w g 62 (u64s L)) (hbase : base ≤ w.heap.size) (hN8 : N ≤ 8) (hn : n ≤ 1000000) :
    Calls Try.prog 21 #[.slice A n c, .int .i64 sz, .bool big, .slice (some ⟨g, 0, none⟩) N N] w (VLay A (l ++ rowB big (evs sz L)) base w) := by
  have hwd : wid sz = true := by rcases hsz with rfl | rfl <;> rfl
  have hs4 : sz ≤ 4 := by omega
  have HO0 := Lib.hid ho
  have HB0 := Lib.hid hb
  have HNe0 := Lib.hid (ho.blkOff hb (by decide))
  have HBase := Lib.hid hbase
  have HN := Lib.hid hN
  have HL := Lib.hid ho.len
  have HPut := Lib.hid fun (v : Nat) w' => put_wide (v : Int) sz big w' hwd (by omega)
  have hgl : Hid (g < w.heap.size) := Lib.hid hb.lt
  clear ho hb hbase hsz hwd hN
  go_enter Try.func21, Try.ntmps21
  go_wp2_with fail
  go_loopw [0, 13] (fun x i wr => ∃ (k : Nat) (A2 : Option Addr) (m c2 : Nat), k ≤ N ∧ i = .int .i64 k ∧ x = .slice A2 m c2 ∧ m = n + k * sz ∧ OB wr base 5 A2 m c2 (l ++ rowB big (evs sz (L.take k))) ∧ Below base w wr ∧ Lft w wr A A2) (fun _ i _ => N - (intOf i).toNat)
  case atStart => exact ⟨0, A, n, c, Nat.zero_le _, rfl, rfl, by omega, by simpa [evs, rowB] using HO0.out, Below.refl _ _, Lft.refl _ _⟩
  case round =>
    obtain ⟨k, A2, m, c2, hk, rfl, rfl, hm, ho, hb, hl⟩ := hrel
    have HO := Lib.hid ho
    have HB := Lib.hid hb
    have HF := Lib.hid hl
    have HBw := Lib.hid (hl.blk HNe0.out HB0.out)
    have HM := Lib.hid hm
    have hm2 : m ≤ 1000032 := by
      have : k * sz ≤ 8 * 4 := Nat.mul_le_mul (by omega) hs4
      omega
    clear ho hb hl hm HO0
    by_cases hlt : k < N
    · have hkl : k < L.length := by rw [← HN.out]; exact hlt
      have q0 : wr.cell? ⟨g, k, none⟩ = some (.int .u64 (L[k] : Int)) := by
        rw [HBw.out.1.at]; simp [u64s, hkl]
      have HT : Hid (L.take (k + 1) = L.take k ++ [L[k]]) := Lib.hid (List.take_succ_eq_append_getElem hkl)
      generalize L[k] = v at q0 HT
      generalize L.take k = T0 at HT HO
      have z1 : (0 : Int) ≤ (k : Int) := by omega
      have z2 : (k : Int) < (N : Int) := by omega
      clear hkl
      go_wp2_with fail
      clear q0
      refine (HPut.out v _).mono ?_
      rintro e w2 ⟨A3, c3, rfl, ho3, hb3⟩
      have HO2 := Lib.hid (HO.out.keep hb3)
      have HP2 := Lib.hid ho3.rb
      have HG2 := Lib.hid hb3
      have HS2 : Hid (base ≤ w2.heap.size) := Lib.hid (Nat.le_trans HBase.out (Nat.le_trans HF.out.1 hb3.size))
      clear ho3 hb3 HO
      go_wp2_with (at_builtin; refine wpList_appendS w2 rfl (.tmp 17) (.tmp 21) 24 rfl base 5 Try.underlying24 (by kernel_rfl) A2 m c2 _ rfl HO2.out w2.heap.size A3 sz c3 _ rfl HP2.out (by omega) HS2.out ?_; intro A5 c5 w5 ho5 hb5 hk5 hn5; refine Hid.out ?_)
      have HB5 : Hid (Below base w w5) := (HB.out.trans (HG2.out.mono (Nat.le_trans HBase.out HF.out.1))).trans hb5
      have HF5 : Hid (Lft w w5 A A5) := (HF.out.trans (Lft.of_grow A2 HG2.out)).trans (Lft.of_append hb5.size hk5 hn5)
      have HO5 := Lib.hid ho5
      clear ho5 hb5 hk5 hn5 HO2 HP2 HG2 HS2 HB HF
      refine Lib.hid ?_
      go_wp2
      go_roundw
      case rel =>
        refine ⟨k + 1, A5, m + sz, c5, by omega, by go_num, by trivial, by rw [HM.out, Nat.succ_mul]; omega, ?_, HB5.out, HF5.out⟩
        rw [HT.out, evs_snoc, ← List.append_assoc]
        exact HO5.out
      case measure => simp [intOf]; omega
    · have e : k = N := by omega
      subst e
      have HT : Hid (L.take k = L) := Lib.hid (by rw [HN.out]; exact List.take_length)
      rw [HT.out] at HO
      have HLen : Hid (m = (l ++ rowB big (evs sz L)).length) := Lib.hid (by rw [List.length_append, len_evs, ← HL.out, ← HN.out]; exact HM.out)
      go_wp2
      go_ret
      refine ⟨A2, c2, by rw [← HLen.out]; rfl, by rw [← HLen.out]; exact HO.out, HB.out, HF.out⟩
end Go.Proofs.Ytfnaigeakfgpbaa
