/-
  The contract of gnu.Order at any few names: places of them, as many as they are, by rising buckets.
-/
import Derived.Test.YthdgkhigekogiaaGnHash
namespace Go.Proofs.Ythdgkhigekogiaa
open Go.RowKit

/-- What Order tells. -/
def Ordered (L : List Bs) (b : Nat) (w : World) (e : Ending) (w' : World) : Prop :=
  ∃ g f, e = .returned (.slice (some ⟨g, 0, none⟩) L.length L.length) ∧ w.heap.size ≤ g ∧ Row w' g L.length f ∧ (∀ i, i < L.length → f i < L.length) ∧ Rise (fun i => gnH (L.getD i []) % b) 0 L.length f ∧ Grow w w'

set_option maxHeartbeats 1000000 in
theorem order_any (A : Option Addr) (n c b : Nat) (L : List Bs) (w : World) (h : SS w w.heap.size A n c L) (hn : n ≤ 1000) (hb : 1 ≤ b) (hb2 : b ≤ 1024) :
    Calls Try.prog 7 #[.slice A n c, .int .i64 (b : Int)] w (Ordered L b w) := by
  have HSS := Lib.hid h
  have HLen := Lib.hid h.len
  have hmk : ∀ W : World, (Instr.makeSlice 30 (.int .i64 (n : Int)) (.int .i64 (n : Int))).run Try.prog W = .ok (.slice (some ⟨W.heap.size, 0, none⟩) n n) (W.alloc (.cells (madeCells #[.int .i64 0] n) 3)) :=
    fun W => run_make_row' 30 3 (.int .i64 0) 8 Try.underlying30 (by kernel_rfl) rfl _ _ n (by omega) (by omega) W
  have HB := Lib.hid hb
  have z1 : (1 : Int) ≤ (b : Int) := by omega
  have z2 : IntKind.u64.wrap (b : Int) = (b : Int) := by rw [IntKind.wrap_u64]; omega
  clear h hb
  go_enter Try.func7, Try.ntmps7
  go_wp2_with fail
  refine (hashesOf_any A n c L _ HSS.out hn).mono ?_
  rintro e w1 ⟨gh, rfl, hgh, hrow1, hgr1⟩
  have HR1 := Lib.hid hrow1
  have HG1 := Lib.hid hgr1
  have HH := Lib.hid hgh
  clear hrow1 hgr1 hgh
  obtain ⟨H, hH⟩ : ∃ H : Nat → Nat, H = fun i => gnH (L.getD i []) := ⟨_, rfl⟩
  rw [← hH] at HR1
  have HHe := Lib.hid hH
  have HH32 : Hid (∀ i, i < n → H i < 4294967296) := Lib.hid fun i _ => by rw [hH]; exact gnH_lt _
  have HK : Hid (Calls Try.prog 11 #[.agg #[.int .u64 (b : Int), .int .u64 0, .int .u64 0, .int .u64 0, .int .u64 0], .slice (some ⟨gh, 0, none⟩) n n] w1 fun e w' => ∃ g, e = .returned (.slice (some ⟨g, 0, none⟩) n n) ∧ w1.heap.size ≤ g ∧ w'.rowIs g 43 n (ivl .u64 fun i => H i % b) ∧ Grow w1 w') :=
    Lib.hid (bucketsOf_any b 0 0 0 0 gh n n H w1 HB.out HH32.out HR1.out hn (Nat.le_refl _) (by unfold maxLen; omega))
  clear hH
  go_wp2_with fail
  refine HK.out.mono ?_
  rintro e w2 ⟨gi, rfl, hgi, hrow2, hgr2⟩
  have HR2 := Lib.hid hrow2
  have HG2 := Lib.hid hgr2
  clear hrow2 hgr2 hgi HK HR1
  go_wp2
  generalize hW : World.alloc _ _ = W0
  obtain ⟨gb, hgb⟩ : ∃ gb, gb = w2.heap.size := ⟨_, rfl⟩
  obtain ⟨g, hg⟩ : ∃ g, g = w2.heap.size + 1 := ⟨_, rfl⟩
  have HRow : Hid (W0.rowIs g 3 n (ivl .i64 (upTo (fun x => x) 0))) := Lib.hid (by
    have := rows_new (w2.alloc (.cells #[.slice (some ⟨gi, 0, none⟩) n n] 42)) 3 .i64 n (fun x => x)
    rw [hW] at this
    simpa [hg] using this)
  have HBx : Hid (Blk W0 gb 42 #[.slice (some ⟨gi, 0, none⟩) n n]) := Lib.hid (by rw [← hW, hgb]; exact (Blk.new _ _ _).alloc _)
  have HGr : Hid (Grow w2 W0) := Lib.hid (by rw [← hW]; exact (Grow.of_alloc _ _).trans (Grow.of_alloc _ _))
  have HSz : Hid (w2.heap.size + 1 < W0.heap.size) := Lib.hid (by rw [← hW]; simp)
  have HGb := Lib.hid hgb
  have HGg := Lib.hid hg
  rw [← hg, ← hgb]
  clear hmk hW hg hgb
  go_loopw [21] (fun i wr => ∃ k : Nat, k ≤ n ∧ i = .int .i64 k ∧ wr.rowIs g 3 n (ivl .i64 (upTo (fun x => x) k)) ∧ W0.grownBy wr (some g)) (fun i _ => n - (intOf i).toNat)
  case atStart => exact ⟨0, Nat.zero_le _, rfl, HRow.out, grown_refl _ _⟩
  case round =>
    obtain ⟨k, hk, rfl, hrow, hgr⟩ := hrel
    have HR := Lib.hid hrow
    have HG := Lib.hid hgr
    clear HRow hgr
    by_cases hlt : k < n
    · have hcl := hrow.cell hlt
      have hfz := hrow.frozen k
      have HX := Lib.hid ((hrow.set k (.int .i64 (k : Int))).congr fun j _ => upTo_set .i64 (fun x => x) k j)
      clear hrow
      go_wp2
      go_roundw
      case rel => exact ⟨k + 1, by omega, by go_num, HX.out, grown_trans HG.out (grown_set _ _ _)⟩
      case measure => simp [intOf]; omega
    · have e : k = n := by omega
      subst e
      have HRow : Hid (Row wr g k (fun x => x)) := Lib.hid (upTo_all HR.out)
      clear hrow HR
      have h1 : gb ≠ g := by rw [HGb.out, HGg.out]; omega
      have h2 : gi ≠ g := by have := HR2.out.lt; rw [HGg.out]; omega
      have hbw : wr.cell? ⟨gb, 0, none⟩ = some (.slice (some ⟨gi, 0, none⟩) k k) := by
        have : Blk wr gb 42 #[.slice (some ⟨gi, 0, none⟩) k k] := by rw [Blk, HG.out.block gb HBx.out.lt (by simp; exact h1)]; exact HBx.out
        exact this.at 0
      have hrw : wr.rowIs gi 43 k (ivl .u64 fun i => H i % b) := by
        have := rows_grow HR2.out HGr.out
        exact this.of_block (HG.out.block gi this.lt (by simp; exact h2))
      have hbl : gb < wr.heap.size := Nat.lt_of_lt_of_le HBx.out.lt HG.out.size
      have HC := Lib.hid (CmpAt.of (g := g) hbw hrw h1 h2 hbl)
      have HS := Lib.hid (sortStable_any g k k gb k (fun i => H i % b) (fun x => x) wr HRow.out HC.out (fun x hx => hx) (Nat.le_refl _) (by unfold maxLen; omega) (by omega))
      unfold cmpF at HS
      clear hbw hrw hbl h1 h2
      go_wp2_with (go_at_call 13; refine HS.out.mono ?_; rintro e w' ⟨rfl, F, hrow, hmix, hrise, hgr⟩)
      go_ret
      have eL := HLen.out
      have hgw : w.heap.size ≤ g := by
        have := HG1.out.size
        have := HG2.out.size
        rw [HGg.out]; omega
      refine ⟨g, F, by rw [← eL]; rfl, hgw, by rw [← eL]; exact hrow, ?_, ?_, ?_⟩
      · rw [← eL]; exact hmix.lt (Nat.le_refl _) (fun x hx => hx)
      · rw [← eL]
        have := hrise
        rw [HHe.out] at this
        exact this
      · refine ((HG1.out.trans HG2.out).trans HGr.out).trans' ?_
        have s0 : w.heap.size ≤ W0.heap.size := Nat.le_trans HG1.out.size (Nat.le_trans HG2.out.size HGr.out.size)
        exact below_of (grown_trans HG.out hgr) s0 (fun q hq => by injection hq with hq; omega)
end Go.Proofs.Ythdgkhigekogiaa
