/-
  The contracts of gnu.chain and gnu.lay: a table's chain; numbers behind bytes.
-/
import Derived.Test.YthdgkhigekogiaaGnBits
import Derived.Test.YthdgkhigekogiaaWirePut
import Derived.Test.YthdgkhigekogiaaAppG
namespace Go.Proofs.Ythdgkhigekogiaa
open Go.RowKit

/-- Whether name i is the last one of its bucket. -/
def lastK (K : Nat → Nat) (n i : Nat) : Bool := decide (i + 1 = n) || decide (K i ≠ K (i + 1))
def chK (H K : Nat → Nat) (n i : Nat) : Nat := H i / 2 * 2 + (if lastK K n i then 1 else 0)

theorem clear_bit (h : Nat) (h32 : h < 4294967296) : bits .andNot .u64 (h : Int) 1 = ((h / 2 * 2 : Nat) : Int) := by
  have e1 := u64_andNot_nat h 1 (by omega) (by omega)
  have e2 : h &&& (18446744073709551615 - 1) = h / 2 * 2 := by
    have := nat_hi64_1 h
    rw [show (18446744073709551615 - 1 : Nat) = 18446744073709551614 by decide, this]
    omega
  rw [e2] at e1
  exact e1
theorem set_bit (x : Nat) (hx : x < 4294967296) : bits .or .u64 ((x / 2 * 2 : Nat) : Int) 1 = ((x / 2 * 2 + 1 : Nat) : Int) := by
  have e1 := u64_or_nat (x / 2 * 2) 1 (by omega) (by omega)
  rw [or_one, show x / 2 * 2 / 2 * 2 + 1 = x / 2 * 2 + 1 by omega] at e1
  exact e1

set_option maxHeartbeats 1000000 in
theorem chain_any (gh gi n c c' : Nat) (H K : Nat → Nat) (w : World) (hH : ∀ i, i < n → H i < 4294967296) (hr : w.rowIs gh 40 n (ivl .u32 H)) (hr' : w.rowIs gi 43 n (ivl .u64 K)) (hn : n ≤ 1000) (hnc : n ≤ c) (hc : c ≤ maxLen) :
    Calls Try.prog 22 #[.slice (some ⟨gh, 0, none⟩) n c, .slice (some ⟨gi, 0, none⟩) n c'] w fun e w' => ∃ g, e = .returned (.slice (some ⟨g, 0, none⟩) n n) ∧ w.heap.size ≤ g ∧ w'.rowIs g 43 n (ivl .u64 (chK H K n)) ∧ Grow w w' := by
  unfold maxLen at hc
  have hmk : ∀ W : World, (Instr.makeSlice 42 (.int .i64 (n : Int)) (.int .i64 (n : Int))).run Try.prog W = .ok (.slice (some ⟨W.heap.size, 0, none⟩) n n) (W.alloc (.cells (madeCells #[.int .u64 0] n) 43)) :=
    fun W => run_make_row' 42 43 (.int .u64 0) 8 Try.underlying42 (by kernel_rfl) rfl _ _ n (by omega) (by omega) W
  obtain ⟨F, hF⟩ : ∃ F : Nat → Nat, F = chK H K n := ⟨_, rfl⟩
  have H0 := Lib.hid (rows_new w 43 .u64 n F)
  have HF := Lib.hid hF
  have HH := Lib.hid hH
  have HRH := Lib.hid hr
  have HRI := Lib.hid hr'
  have l1 := hr.lt
  have l2 := hr'.lt
  clear hF hH hr hr'
  go_enter Try.func22, Try.ntmps22
  go_wp2
  obtain ⟨g, hg⟩ : ∃ g, g = w.heap.size := ⟨_, rfl⟩
  rw [← hg] at H0 l1 l2
  have HG := Lib.hid hg
  rw [← hg]
  clear hmk
  go_loopw [13] (fun i wr => ∃ k : Nat, k ≤ n ∧ i = .int .i64 k ∧ wr.rowIs g 43 n (ivl .u64 (upTo F k)) ∧ Below g w wr) (fun i _ => n - (intOf i).toNat)
  case atStart => exact ⟨0, Nat.zero_le _, rfl, H0.out, (Below.refl _ _).alloc (by omega) _⟩
  case round =>
    obtain ⟨k, hk, rfl, hrow, hbel⟩ := hrel
    have HR := Lib.hid hrow
    have HB := Lib.hid hbel
    clear hbel hg H0
    by_cases hlt : k < n
    · have q : wr.cell? ⟨gh, k, none⟩ = some (.int .u32 (H k : Int)) := (rows_below HRH.out HB.out l1).cell hlt
      have hfz := hrow.frozen k
      have hcl := hrow.cell hlt
      have h32 := HH.out k hlt
      have e0 : IntKind.u64.wrap (H k : Int) = (H k : Int) := by rw [IntKind.wrap_u64]; omega
      have e1 := clear_bit (H k) h32
      have e2 := set_bit (H k) h32
      have HX := Lib.hid (HR.out.set k (.int .u64 ((H k / 2 * 2 : Nat) : Int)))
      have HX1 := Lib.hid (HX.out.set k (.int .u64 ((H k / 2 * 2 + 1 : Nat) : Int)))
      have HB1 := Lib.hid (HB.out.setCell (p := ⟨g, k, none⟩) (Nat.le_refl g) (.int .u64 ((H k / 2 * 2 : Nat) : Int)))
      have HB2 := Lib.hid (HB1.out.setCell (p := ⟨g, k, none⟩) (Nat.le_refl g) (.int .u64 ((H k / 2 * 2 + 1 : Nat) : Int)))
      have HFy : Hid (lastK K n k = true → F k = H k / 2 * 2 + 1) := Lib.hid fun h => by rw [HF.out, chK, if_pos h]
      have HFn : Hid (lastK K n k = false → F k = H k / 2 * 2) := Lib.hid fun h => by rw [HF.out, chK, if_neg (by rw [h]; decide)]; rfl
      generalize H k / 2 * 2 + 1 = y1 at e2 HX1 HB2 HFy
      generalize H k / 2 * 2 = y at e1 e2 HX HX1 HB1 HB2 HFn
      generalize H k = x at q h32 e0 e1
      clear hrow
      go_wp2_with fail
      have s1 : IntKind.i64.wrap ((n : Int) - 1) = (n : Int) - 1 := by rw [IntKind.wrap_i64]; omega
      have hxc : (wr.setCell ⟨g, k, none⟩ (.int .u64 (y : Int))).cell? ⟨g, k, none⟩ = some (.int .u64 (y : Int)) := by simpa using HX.out.cell hlt
      have hxf := HX.out.frozen k
      generalize wr.setCell ⟨g, k, none⟩ (.int .u64 (y : Int)) = w1 at HX HX1 HB1 HB2 hxc hxf ⊢
      clear hcl hfz q e0 e1
      by_cases hlast : k + 1 = n
      · have HLa : Hid (lastK K n k = true) := Lib.hid (by simp [lastK, hlast])
        have hz : ((k : Int) == (n : Int) - 1) = true := by simp; omega
        go_quiet (fail)
        clear hz
        have d1 : (w1.drewN nq).cell? ⟨g, k, none⟩ = some (.int .u64 (y : Int)) := hxc
        have d2 : (w1.drewN nq).frozen? ⟨g, k, none⟩ = false := hxf
        go_wp2
        go_roundw
        case rel =>
          refine ⟨k + 1, by omega, by go_num, ?_, (below_drewN HB1.out _).setCell (p := ⟨g, k, none⟩) (Nat.le_refl g) _⟩
          exact (HX1.out : ((w1.drewN nq).setCell ⟨g, k, none⟩ (.int .u64 (y1 : Int))).rowIs g 43 n _).congr fun j _ => by
            rw [← upTo_set, HFy.out (HLa.out)]
            split <;> rfl
        case measure => simp [intOf]; omega
      · have hz : ((k : Int) == (n : Int) - 1) = false := by simp; omega
        obtain ⟨i, hi⟩ : ∃ i, i = k + 1 := ⟨_, rfl⟩
        have q2 : w1.cell? ⟨gi, k, none⟩ = some (.int .u64 (K k : Int)) := (rows_below HRI.out HB1.out l2).cell hlt
        have q3 : w1.cell? ⟨gi, i, none⟩ = some (.int .u64 (K i : Int)) := (rows_below HRI.out HB1.out l2).cell (by omega)
        have p1 : ((k : Int) + 1).toNat = i := by omega
        have p2 : (0 : Int) ≤ (k : Int) + 1 := by omega
        have p3 : (k : Int) + 1 < (n : Int) := by omega
        have p4 : IntKind.i64.wrap ((k : Int) + 1) = (k : Int) + 1 := by rw [IntKind.wrap_i64]; omega
        by_cases hkk : K k = K i
        · have HLa : Hid (lastK K n k = false) := Lib.hid (by simp only [lastK, Bool.or_eq_false_iff, decide_eq_false_iff_not]; exact ⟨hlast, by rw [← hi]; simpa using hkk⟩)
          rw [hkk] at q2
          generalize K i = u at q2 q3
          have hne : ((u : Int) != (u : Int)) = false := by simp
          clear hkk hi hlast
          go_quiet (fail)
          clear q2 q3 p1 p2 p3 p4 hz
          go_wp2
          go_roundw
          case rel =>
            refine ⟨k + 1, by omega, by go_num, ?_, below_drewN HB1.out _⟩
            exact (HX.out : (w1.drewN nq).rowIs g 43 n _).congr fun j _ => by
              rw [← upTo_set, HFn.out (HLa.out)]
          case measure => simp [intOf]; omega
        · have HLa : Hid (lastK K n k = true) := Lib.hid (by simp only [lastK, Bool.or_eq_true, decide_eq_true_eq]; exact .inr (by rw [← hi]; exact hkk))
          have hne : ((K k : Int) != (K i : Int)) = true := by simp; omega
          generalize K i = u at q3 hne
          generalize K k = v at q2 hne
          clear hkk hi hlast
          go_quiet (fail)
          clear q2 q3 p1 p2 p3 p4 hz
          have d1 : (w1.drewN nq).cell? ⟨g, k, none⟩ = some (.int .u64 (y : Int)) := hxc
          have d2 : (w1.drewN nq).frozen? ⟨g, k, none⟩ = false := hxf
          go_wp2
          go_roundw
          case rel =>
            refine ⟨k + 1, by omega, by go_num, ?_, (below_drewN HB1.out _).setCell (p := ⟨g, k, none⟩) (Nat.le_refl g) _⟩
            exact (HX1.out : ((w1.drewN nq).setCell ⟨g, k, none⟩ (.int .u64 (y1 : Int))).rowIs g 43 n _).congr fun j _ => by
              rw [← upTo_set, HFy.out (HLa.out)]
              split <;> rfl
          case measure => simp [intOf]; omega
    · have HX : Hid (wr.rowIs g 43 n (ivl .u64 F)) := by
        have e : k = n := by omega
        rw [e] at hrow
        exact Lib.hid (upTo_all hrow)
      clear hrow
      go_wp2
      go_ret
      refine ⟨g, rfl, by rw [HG.out]; exact Nat.le_refl _, by rw [← HF.out]; exact HX.out, ?_⟩
      have := HB.out
      rw [HG.out] at this
      exact this

/-! ### Numbers behind bytes -/
set_option maxHeartbeats 1000000 in
theorem lay_any (A : Option Addr) (n c : Nat) (l : List UInt8) (base g m cg z : Nat) (f : Nat → Nat) (wide big : Bool) (w : World) (ho : OB w base 5 A n c l) (hbase : base ≤ w.heap.size) (hz : wid z = true) (hr : w.rowIs g 43 m (ivl .u64 f)) (hm : m ≤ 2000) (hmc : m ≤ cg) (hc : cg ≤ maxLen) (hl : l.length ≤ 1000000) :
    Calls Try.prog 19 #[.slice A n c, .slice (some ⟨g, 0, none⟩) m cg, .int .i64 (z : Int), .agg #[.bool wide, .bool big]] w fun e w' =>
      ∃ A2 n2 c2, e = .returned (.slice A2 n2 c2) ∧ OB w' base 5 A2 n2 c2 (l ++ layN z big f m) ∧ Below base w w' := by
  unfold maxLen at hc
  have hz8 : z ≤ 8 := by have := wid_cases hz; omega
  have HZ := Lib.hid hz
  have HO0 := Lib.hid (ho.alloc (.cells #[.bool wide, .bool big] 26))
  have HR0 := Lib.hid (rows_grow hr (Grow.of_alloc w (.cells #[.bool wide, .bool big] 26)))
  have HB0 := Lib.hid ((Below.refl base w).alloc hbase (.cells #[.bool wide, .bool big] 26))
  have HX0 := Lib.hid (Blk.new w 26 #[.bool wide, .bool big])
  have HS0 : Hid (base ≤ (w.alloc (.cells #[.bool wide, .bool big] 26)).heap.size) := Lib.hid (by simp; omega)
  have HL := Lib.hid hl
  have HN := Lib.hid ho.len
  clear hz ho hr hbase hl
  go_enter Try.func19, Try.ntmps19
  go_wp2
  obtain ⟨gx, hgx⟩ : ∃ gx, gx = w.heap.size := ⟨_, rfl⟩
  rw [← hgx] at HX0 ⊢
  clear hgx
  generalize hW : World.alloc _ _ = W0 at HO0 HR0 HB0 HX0 HS0 ⊢
  clear hW
  go_loopw [0, 13] (fun b i wr => ∃ (k : Nat) (A : Option Addr) (n c : Nat), k ≤ m ∧ i = .int .i64 k ∧ b = .slice A n c ∧ OB wr base 5 A n c (l ++ layN z big f k) ∧ wr.rowIs g 43 m (ivl .u64 f) ∧ Blk wr gx 26 #[.bool wide, .bool big] ∧ Below base w wr ∧ base ≤ wr.heap.size) (fun _ i _ => m - (intOf i).toNat)
  case atStart => exact ⟨0, A, n, c, Nat.zero_le _, rfl, rfl, by rw [layN, List.append_nil]; exact HO0.out, HR0.out, HX0.out, HB0.out, HS0.out⟩
  case round =>
    obtain ⟨k, A, n, c, hk, rfl, rfl, ho, hrow, hbox, hbel, hsz⟩ := hrel
    have HO := Lib.hid ho
    have HR := Lib.hid hrow
    have HX := Lib.hid hbox
    have HB := Lib.hid hbel
    have HS := Lib.hid hsz
    clear HO0 HR0 HX0 HB0 HS0 ho hrow hbox hbel hsz
    by_cases hlt : k < m
    · have q := HR.out.cell hlt
      unfold ivl at q
      obtain ⟨x0, x1⟩ := HX.out.c2
      have HP := Lib.hid (put_wide (f k : Int) z big · HZ.out (by omega))
      have hnl : n ≤ 1000000 + 16000 := by
        have h1 := HO.out.len
        have h2 := HL.out
        have h3 : k * z ≤ 2000 * 8 := Nat.mul_le_mul (by omega) hz8
        rw [List.length_append, length_layN] at h1
        omega
      go_wp2_with fail
      refine (HP.out _).mono ?_
      rintro e w2 ⟨A', c', rfl, hob, hbel⟩
      rw [Int.toNat_natCast] at hob
      have HP2 := Lib.hid hob
      have HO2 := Lib.hid (HO.out.keep hbel)
      have HG2 := Lib.hid hbel
      have HS2 := Lib.hid (Nat.le_trans HS.out hbel.size)
      clear hob hbel q x0 x1
      go_wp2_with (refine wpList_appendG w2 rfl (.tmp 17) (.tmp 22) 32 rfl base 5 Try.underlying32 (by kernel_rfl) A n c _ rfl HO2.out w2.heap.size A' z c' _ rfl HP2.out.rb (by omega) HS2.out ?_)
      intro A2 c2 w3 ho3 hg3
      have HO3 := Lib.hid ho3
      have HR3 := Lib.hid ((rows_grow HR.out HG2.out).of_block (hg3.block g (rows_grow HR.out HG2.out).lt (fun e => (HO2.out.rowNe (rows_grow HR.out HG2.out) (by decide)) e)))
      have hbx2 := HX.out.grow HG2.out
      have hrx : w2.rowIs gx 26 2 (fun i => (#[Value.bool wide, Value.bool big] : Array Value)[i]?.getD undef) := ⟨_, hbx2, rfl, fun i hi => by
        match i, hi with
        | 0, _ => rfl
        | 1, _ => rfl⟩
      have HX3 : Hid (Blk w3 gx 26 #[.bool wide, .bool big]) := Lib.hid (by rw [Blk, hg3.block gx hbx2.lt (fun e => (HO2.out.rowNe hrx (by decide)) e)]; exact hbx2)
      have HB3 := Lib.hid ((HB.out.trans (HG2.out.mono HS.out)).trans (below_of hg3 HS2.out (fun q hq => HO2.out.ge hq)))
      have HS3 := Lib.hid (Nat.le_trans HS2.out hg3.size)
      clear ho3 hg3 hbx2 hrx
      go_wp2
      go_roundw
      case rel => exact ⟨k + 1, A2, _, c2, by omega, by go_num, rfl, by rw [layN]; exact HO3.out, HR3.out, HX3.out, HB3.out, HS3.out⟩
      case measure => simp [intOf]; omega
    · have e : k = m := by omega
      subst e
      go_wp2
      go_ret
      exact ⟨A, n, c, rfl, HO.out, HB.out⟩
end Go.Proofs.Ythdgkhigekogiaa
