/-
  The contract of gnu.Lookup at a table's bytes: where the name first stands, or that it doesn't.
-/
import Derived.Test.YthdgkhigekogiaaGnFrom
namespace Go.Proofs.Ythdgkhigekogiaa
open Go.RowKit

theorem low_bit (v : Nat) (hv : v < 4294967296) : bits .and .u64 (v : Int) 1 = ((v % 2 : Nat) : Int) := by
  have e1 := u64_and_nat v 1 (by omega) (by omega)
  rw [nat_mask1] at e1
  exact e1
theorem with_bit (v : Nat) (hv : v < 4294967296) : bits .or .u64 (v : Int) 1 = ((v / 2 * 2 + 1 : Nat) : Int) := by
  have e1 := u64_or_nat v 1 (by omega) (by omega)
  rw [or_one] at e1
  exact e1

set_option maxHeartbeats 4000000 in
set_option maxRecDepth 100000 in
theorem lookup_core (A : Option Addr) (n c : Nat) (l : List UInt8) (A' : Option Addr) (n' c' : Nat) (all : List Bs) (S : ByteArray) (s : Bs) (b f wd sh z n0 h word bt place : Nat) (wide big : Bool) (ch : Nat → Nat) (P J : Nat → Prop) (w : World)
    (hr : RB w w.heap.size A n c l) (ha : SS w w.heap.size A' n' c' all) (hlen : n' = f + n0) (hf : 1 ≤ f) (hf2 : f ≤ 65536) (hn0 : n0 ≤ 1000) (hb2 : b ≤ 1024) (hw2 : wd ≤ 1024) (hz8 : z ≤ 8) (hS : S = bstr s) (hs : S.size ≤ maxLen) (hh : gnH s = h)
    (hrd : ∀ W, RB W W.heap.size A n c l → Calls Try.prog 23 #[.slice A n c, .agg #[.bool wide, .bool big]] W fun e w' => e = .returned (.tuple #[.agg (shC b f wd sh z), .bool true]) ∧ Grow W w')
    (hfr : ∀ W, RB W W.heap.size A n c l → Calls Try.prog 24 #[.agg (shC b f wd sh z), .slice A n c, .int .u32 (h : Int), .agg #[.bool wide, .bool big]] W (FromR word bt place W))
    (hgt : ∀ i, i < n0 → 16 + wd * z + b * 4 + i * 4 + 4 ≤ l.length ∧ getB ((l.drop (16 + wd * z + b * 4 + i * 4)).take 4) big = ch i) (hch : ∀ i, ch i < 4294967296)
    (hno : word &&& bt ≠ bt → P 0) (hpz : place = 0 → P 0) (hpl : place ≠ 0 → ∃ i, i < n0 ∧ place = f + i ∧ J i)
    (hstep : ∀ i, i < n0 → J i → (ch i / 2 = h / 2 ∧ all.getD (f + i) [] = s ∧ P (f + i)) ∨ (all.getD (f + i) [] ≠ s ∧ ch i % 2 = 1 ∧ P 0) ∨ (all.getD (f + i) [] ≠ s ∧ ch i % 2 = 0 ∧ i + 1 < n0 ∧ J (i + 1))) :
    Calls Try.prog 9 #[.slice A n c, .slice A' n' c', .agg #[.bool wide, .bool big], .string S] w fun e w' => ∃ v : Nat, e = .returned (.tuple #[.int .i64 (v : Int), .bool (decide (0 < v))]) ∧ P v ∧ Grow w w' := by
  have HR := Lib.hid hr
  have HA := Lib.hid ha
  have HRd := Lib.hid hrd
  have HFr := Lib.hid hfr
  have HGt := Lib.hid hgt
  have HCh := Lib.hid hch
  have HNo := Lib.hid hno
  have HPz := Lib.hid hpz
  have HPl := Lib.hid hpl
  have HStep := Lib.hid hstep
  have HLen := Lib.hid hlen
  have HSS := Lib.hid hS
  have HSz := Lib.hid hs
  have HHs := Lib.hid (fun W => hash_any S s W hS hs)
  rw [hh] at HHs
  have h32 : h < 4294967296 := by rw [← hh]; exact gnH_lt s
  have HHA := Lib.hid (fun W => hashes_any b f wd sh z W hb2 hw2 hz8)
  have q1 : wd * z ≤ 1024 * 8 := Nat.mul_le_mul hw2 hz8
  obtain ⟨y, hy⟩ : ∃ y, y = 16 + wd * z + b * 4 := ⟨_, rfl⟩
  rw [← hy] at HHA HGt
  have hy2 : y < 20000 := by omega
  unfold shC at HRd HFr HHA
  have hn2 : n' < 100000 := by omega
  have hcn := ha.cap
  have hcm := ha.max
  unfold maxLen at hcm
  clear hr ha hlen hS hs hrd hfr hgt hch hno hpz hpl hstep hh hb2 hw2 hz8 q1 hy
  go_enter Try.func9, Try.ntmps9
  go_wp2_with fail
  generalize hW0 : World.alloc _ _ = W0
  obtain ⟨hb1, hgr⟩ := blk1 hW0
  obtain ⟨gf, hgf⟩ : ∃ g, g = w.heap.size := ⟨_, rfl⟩
  rw [← hgf] at hb1 ⊢
  have HF0 := Lib.hid hb1
  have HG0 := Lib.hid hgr
  clear hW0 hb1 hgr hgf
  refine (HRd.out _ ((HR.out.belowAt HG0.out (Nat.le_refl _)).more HG0.out.size)).mono ?_
  rintro e w1 ⟨rfl, hg⟩
  have HF1 := Lib.hid (HF0.out.grow hg)
  have HG1 := Lib.hid (HG0.out.trans hg)
  clear hg HF0 HG0 HRd
  go_wp2_with fail
  generalize hW2 : World.alloc _ _ = w2
  obtain ⟨hb2, hgr2⟩ := blk1 hW2
  obtain ⟨gx, hgx⟩ : ∃ g, g = w1.heap.size := ⟨_, rfl⟩
  rw [← hgx] at hb2 ⊢
  have HX2 := Lib.hid hb2
  have HF2 := Lib.hid (HF1.out.grow hgr2)
  have HG2 := Lib.hid (HG1.out.trans hgr2)
  clear hW2 hb2 hgr2 hgx HF1 HG1
  refine (HHs.out _).mono ?_
  rintro e w' ⟨rfl, rfl⟩
  obtain ⟨c0, c1, c2, c3, c4⟩ := HX2.out.c5
  obtain ⟨k0, k1⟩ := HF2.out.c2
  go_wp2_with fail
  refine (HFr.out _ ((HR.out.belowAt HG2.out (Nat.le_refl _)).more HG2.out.size)).mono ?_
  rintro e w3 ⟨hg, ⟨hno, rfl⟩ | ⟨hyes, rfl⟩⟩
  · have HG3 := Lib.hid (HG2.out.trans hg)
    have HP := Lib.hid (HNo.out hno)
    clear hg hno HX2 HF2 HG2 c0 c1 c2 c3 c4 k0 k1
    go_wp2
    go_ret2
    exact ⟨0, rfl, HP.out, HG3.out⟩
  · have HX3 := Lib.hid (HX2.out.grow hg)
    have HF3 := Lib.hid (HF2.out.grow hg)
    have HG3 := Lib.hid (HG2.out.trans hg)
    clear hg hyes HX2 HF2 HG2 c0 c1 c2 c3 c4 k0 k1
    by_cases hp0 : place = 0
    · have hd : decide (place ≠ 0) = false := decide_eq_false (fun h => h hp0)
      have HP := Lib.hid (HPz.out hp0)
      rw [hd]
      clear hp0 hd
      go_wp2
      go_ret2
      exact ⟨0, rfl, HP.out, HG3.out⟩
    · have hd : decide (place ≠ 0) = true := decide_eq_true hp0
      obtain ⟨i0, hi0, hpi, hJ⟩ := HPl.out hp0
      have HJ0 := Lib.hid hJ
      have HI0 := Lib.hid hi0
      have HPI := Lib.hid hpi
      rw [hd]
      clear hp0 hd hi0 hpi hJ
      go_wp2
      go_loopw [13] (fun p wr => ∃ i q : Nat, p = .int .u64 (q : Int) ∧ Hid (q = f + i) ∧ Hid (i < n0) ∧ Hid (J i) ∧ Blk wr gx 45 #[.int .u64 (b : Int), .int .u64 (f : Int), .int .u64 (wd : Int), .int .u64 (sh : Int), .int .u64 (z : Int)] ∧ Blk wr gf 26 #[.bool wide, .bool big] ∧ Grow w wr) (fun p _ => f + n0 - (intOf p).toNat)
      case atStart => exact ⟨i0, place, rfl, HPI, HI0, HJ0, HX3.out, HF3.out, HG3.out⟩
      case round =>
        obtain ⟨i, q, rfl, HQ, HI, HJ, hbx, hbf, hgr⟩ := hrel
        have HX := Lib.hid hbx
        have HF := Lib.hid hbf
        have HG := Lib.hid hgr
        clear HX3 HF3 HG3 HJ0 HI0 HPI hbx hbf hgr
        have hq1 := HQ.out
        have hi1 := HI.out
        have hn1 := HLen.out
        have e1 : IntKind.u64.wrap (n' : Int) = (n' : Int) := by rw [IntKind.wrap_u64]; omega
        have p1 : (q : Int) < (n' : Int) := by omega
        have e2 : IntKind.u64.wrap ((q : Int) - (f : Int)) = (i : Int) := by rw [IntKind.wrap_u64]; omega
        have e3 : IntKind.u64.wrap ((i : Int) * 4) = (i : Int) * 4 := by rw [IntKind.wrap_u64]; omega
        obtain ⟨x, hx⟩ : ∃ x, x = y + i * 4 := ⟨_, rfl⟩
        have e4 : IntKind.u64.wrap ((y : Int) + (i : Int) * 4) = (x : Int) := by rw [IntKind.wrap_u64]; omega
        obtain ⟨g1, g2⟩ := HGt.out i hi1
        rw [← hx] at g1 g2
        obtain ⟨v, hv⟩ : ∃ v, v = ch i := ⟨_, rfl⟩
        rw [← hv] at g2
        have hv32 : v < 4294967296 := by rw [hv]; exact HCh.out i
        have HGe := Lib.hid (fun B W (hW : RB W B A n c l) => (get_at A n c l B x 4 big v W hW (.inl rfl) g1 g2 : Calls Try.prog 25 #[_, _, .int .i64 4, _] _ _))
        have e5 := with_bit v hv32
        have e6 := with_bit h h32
        have e7 : IntKind.u64.wrap (h : Int) = (h : Int) := by rw [IntKind.wrap_u64]; omega
        have e8 := low_bit v hv32
        have e9 : IntKind.i64.wrap (q : Int) = (q : Int) := by rw [IntKind.wrap_i64]; omega
        have e10 : IntKind.u64.wrap ((q : Int) + 1) = (q : Int) + 1 := by rw [IntKind.wrap_u64]; omega
        have hqn : q < n' := by omega
        have HXc := HStep.out i hi1 HJ.out
        rw [← hv, ← hq1] at HXc
        have hi2 := Lib.hid hi1
        have HHX : Hid ((v / 2 = h / 2 ∧ all.getD q [] = s ∧ P q) ∨ (all.getD q [] ≠ s ∧ v % 2 = 1 ∧ P 0) ∨ (all.getD q [] ≠ s ∧ v % 2 = 0 ∧ i + 1 < n0 ∧ J (i + 1))) := Lib.hid HXc
        have HQ2 : Hid (f + (i + 1) = q + 1 ∧ q < f + n0 ∧ 0 < q) := Lib.hid (by omega)
        clear hx hv g1 g2 hq1 hi1 hn1 HXc hi2
        go_wp2_with fail
        have HXW : Hid (∀ W, Grow wr.drew W → (W.cell? ⟨gx, 0, none⟩ = some (.int .u64 (b : Int)) ∧ W.cell? ⟨gx, 1, none⟩ = some (.int .u64 (f : Int)) ∧ W.cell? ⟨gx, 2, none⟩ = some (.int .u64 (wd : Int)) ∧ W.cell? ⟨gx, 3, none⟩ = some (.int .u64 (sh : Int)) ∧ W.cell? ⟨gx, 4, none⟩ = some (.int .u64 (z : Int))) ∧ W.cell? ⟨gf, 0, none⟩ = some (.bool wide) ∧ W.cell? ⟨gf, 1, none⟩ = some (.bool big)) :=
          Lib.hid fun W hW => ⟨((HX.out.drew).grow hW).c5, ((HF.out.drew).grow hW).c2⟩
        refine wp_region_chain [(0, true), (1, true), (3, true), (4, true), (5, true), (6, true), (7, true), (9, true), (10, true), (2, false), (8, true), (11, false), (12, true), (13, true), (14, true), (15, true), (16, true)] (by kernel_rfl) (by kernel_rfl) (by kernel_rfl) ?_
        have HX4 : Hid (Blk wr.drew gx 45 #[.int .u64 (b : Int), .int .u64 (f : Int), .int .u64 (wd : Int), .int .u64 (sh : Int), .int .u64 (z : Int)]) := HX
        have HF4 : Hid (Blk wr.drew gf 26 #[.bool wide, .bool big]) := HF
        have HG4 : Hid (Grow w wr.drew) := Lib.hid (HG.out.trans (Grow.of_drew _))
        generalize wr.drew = w4 at HXW HX4 HF4 HG4 ⊢
        repeat (refine chain_take rfl (by rfl) ?_ (fun W hG => ?_) ?_; rotate_left; (obtain ⟨⟨q1, q2, q3, q4, q5⟩, q6, q7⟩ := HXW.out W hG; go_simp; rfl); simp only [Act.put, List.setIfInBounds_toArray, List.set_cons_zero, List.set_cons_succ])
        clear HXW
        refine chain_only rfl (by rfl) (fun K hK => ?_)
        go_simp
        refine (HHA.out _).mono ?_
        rintro e w5 ⟨rfl, hg⟩
        refine hK _ _ hg ?_
        clear hK K
        have HX5 := Lib.hid (HX4.out.grow hg)
        have HF5 := Lib.hid (HF4.out.grow hg)
        have HG5 := Lib.hid (HG4.out.trans hg)
        clear hg HX4 HF4 HG4
        repeat (refine chain_take rfl (by rfl) ?_ (fun W hG => ?_) ?_; rotate_left; (go_simp; rfl); simp only [Act.put, List.setIfInBounds_toArray, List.set_cons_zero, List.set_cons_succ])
        refine chain_only rfl (by rfl) (fun K hK => ?_)
        go_simp
        refine (HGe.out _ _ (HR.out.belowAt HG5.out (Nat.le_refl _))).mono ?_
        rintro e w6 ⟨rfl, m2, rfl⟩
        refine hK _ _ (Grow.of_drewN _ _) ?_
        clear hK K
        have HX6 : Hid (Blk (w5.drewN m2) gx 45 #[.int .u64 (b : Int), .int .u64 (f : Int), .int .u64 (wd : Int), .int .u64 (sh : Int), .int .u64 (z : Int)]) := HX5
        have HF6 : Hid (Blk (w5.drewN m2) gf 26 #[.bool wide, .bool big]) := HF5
        have HG6 : Hid (Grow w (w5.drewN m2)) := Lib.hid (below_drewN HG5.out m2)
        generalize w5.drewN m2 = w6 at HX6 HF6 HG6 ⊢
        clear HX5 HF5 HG5 e1 e2 e3 e4
        repeat (refine chain_take rfl (by rfl) ?_ (fun W hG => ?_) ?_; rotate_left; (go_simp; rfl); simp only [Act.put, List.setIfInBounds_toArray, List.set_cons_zero, List.set_cons_succ])
        refine chain_done ?_
        obtain ⟨ba, oa, rfl, hba, hcell⟩ := (HA.out.belowAt HG6.out (Nat.le_refl _)).pos (by omega)
        have q9 := hcell q (by have := HA.out.len; omega)
        clear hcell hba
        obtain ⟨N, hN⟩ : ∃ N, N = bstr (all.getD q []) := ⟨_, rfl⟩
        rw [← hN] at q9
        have HN := Lib.hid hN
        clear hN
        rcases HHX.out with ⟨a1, a2, a3⟩ | ⟨a2, a1, a3⟩ | ⟨a2, a1, a3, a4⟩
        · have hs2 := bstr_eq HN.out HSS.out a2
          have h2 : (((v / 2 * 2 + 1 : Nat) : Int) == ((h / 2 * 2 + 1 : Nat) : Int)) = true := by rw [a1]; simp
          have HP := Lib.hid a3
          generalize v / 2 * 2 + 1 = v1 at e5 h2
          generalize h / 2 * 2 + 1 = h1 at e6 h2
          clear a1 a2 a3 HHX
          go_wp2
          go_ret2
          exact ⟨q, by rw [decide_eq_true HQ2.out.2.2]; rfl, HP.out, HG6.out⟩
        · have hs2 := bstr_ne HN.out HSS.out a2
          rw [a1] at e8
          have HP := Lib.hid a3
          generalize v / 2 * 2 + 1 = v1 at e5
          generalize h / 2 * 2 + 1 = h1 at e6
          clear a1 a2 a3 HHX
          by_cases hv1 : v1 = h1
          · have h2 : ((v1 : Int) == (h1 : Int)) = true := by rw [hv1]; simp
            clear hv1
            go_wp2
            go_ret2
            exact ⟨0, rfl, HP.out, HG6.out⟩
          · have h2 : ((v1 : Int) == (h1 : Int)) = false := by simp; omega
            clear hv1
            go_wp2
            go_ret2
            exact ⟨0, rfl, HP.out, HG6.out⟩
        · have hs2 := bstr_ne HN.out HSS.out a2
          rw [a1] at e8
          have HP3 := Lib.hid a3
          have HP4 := Lib.hid a4
          generalize v / 2 * 2 + 1 = v1 at e5
          generalize h / 2 * 2 + 1 = h1 at e6
          clear a1 a2 a3 a4 HHX
          by_cases hv1 : v1 = h1
          · have h2 : ((v1 : Int) == (h1 : Int)) = true := by rw [hv1]; simp
            clear hv1
            go_wp2
            go_roundw
            case rel => exact ⟨i + 1, q + 1, by go_num, Lib.hid HQ2.out.1.symm, HP3, HP4, HX6.out, HF6.out, HG6.out⟩
            case measure => have := HQ2.out.2.1; simp [intOf]; omega
          · have h2 : ((v1 : Int) == (h1 : Int)) = false := by simp; omega
            clear hv1
            go_wp2
            go_roundw
            case rel => exact ⟨i + 1, q + 1, by go_num, Lib.hid HQ2.out.1.symm, HP3, HP4, HX6.out, HF6.out, HG6.out⟩
            case measure => have := HQ2.out.2.1; simp [intOf]; omega

/-- Lookup at a table's bytes. -/
theorem lookup_any (t : Gn) (ht : t.Ok) (A : Option Addr) (n c : Nat) (A' : Option Addr) (n' c' : Nat) (all : List Bs) (S : ByteArray) (s : Bs) (w : World) (hr : RB w w.heap.size A n c t.B) (ha : SS w w.heap.size A' n' c' all)
    (hlen : all.length = t.first + t.n) (hall : ∀ i, i < t.n → all.getD (t.first + i) [] = t.L.getD i []) (hS : S = bstr s) (hs : S.size ≤ maxLen) :
    Calls Try.prog 9 #[.slice A n c, .slice A' n' c', .agg #[.bool t.wide, .bool t.big], .string S] w fun e w' => ∃ v : Nat, e = .returned (.tuple #[.int .i64 (v : Int), .bool (decide (0 < v))]) ∧ t.Fst s v ∧ Grow w w' := by
  have hz := t.z_pos
  have hk : gnH s % t.buckets < t.buckets := Nat.mod_lt _ (by have := ht.b1; omega)
  have hrd : ∀ W, RB W W.heap.size A n c t.B → Calls Try.prog 23 #[.slice A n c, .agg #[.bool t.wide, .bool t.big]] W fun e w' => e = .returned (.tuple #[.agg (shC t.buckets t.first t.words t.shift t.z), .bool true]) ∧ Grow W w' := fun W hW =>
    read_any A n c t.B t.buckets t.first t.words t.shift t.z t.wide t.big t.hd W hW rfl ht.b1 ht.w1 (t.hd_lt ht) (fun _ _ => rfl) (t.read0 ht)
  have hpl : t.pl (gnH s % t.buckets) = 0 ∨ t.first ≤ t.pl (gnH s % t.buckets) := by
    rcases t.bucket_is ht s with ⟨h, _⟩ | ⟨i, _, h, _⟩
    · exact .inl h
    · exact .inr (by omega)
  have hfr : ∀ W, RB W W.heap.size A n c t.B → Calls Try.prog 24 #[.agg (shC t.buckets t.first t.words t.shift t.z), .slice A n c, .int .u32 (gnH s : Int), .agg #[.bool t.wide, .bool t.big]] W (FromR (t.wd (t.at_ (gnH s))) (t.bt (gnH s)) (t.pl (gnH s % t.buckets)) W) := fun W hW =>
    from_core A n c t.B t.buckets t.first t.words t.shift t.z (gnH s) (t.at_ (gnH s)) (t.bt (gnH s)) (t.wd (t.at_ (gnH s))) (t.pl (gnH s % t.buckets)) t.wide t.big W hW hz ht.b1 ht.b2 ht.w1 ht.w2 ht.s2 (gnH_lt s) rfl rfl
      (Nat.lt_of_lt_of_le (t.bt_lt _) (Nat.pow_le_pow_right (by decide) (by omega))) (t.wd_64 _) hpl (t.read1 _ (t.at_lt ht _)) (t.read2 ht _ hk)
  refine lookup_core A n c t.B A' n' c' all S s t.buckets t.first t.words t.shift t.z t.n (gnH s) (t.wd (t.at_ (gnH s))) (t.bt (gnH s)) (t.pl (gnH s % t.buckets)) t.wide t.big t.ch (t.Fst s) (fun i => t.k i = gnH s % t.buckets ∧ ∀ x, x < i → t.L.getD x [] ≠ s) w
    hr ha (ha.len.trans hlen) ht.f1 ht.f2 ht.n2 ht.b2 ht.w2 (by omega) hS hs rfl hrd hfr (fun i hi => t.read3 i hi) t.ch_lt (fun h => .inl ⟨rfl, t.no_bits h⟩) ?_ ?_ ?_
  · intro h0
    rcases t.bucket_is ht s with ⟨_, h⟩ | ⟨i, _, h, _⟩
    · exact .inl ⟨rfl, h⟩
    · have := ht.f1; omega
  · intro h0
    rcases t.bucket_is ht s with ⟨h, _⟩ | ⟨i, hi, h, h1, h2⟩
    · exact absurd h h0
    · exact ⟨i, hi, h, h1, h2⟩
  · intro i hi ⟨hk1, hno⟩
    rw [hall i hi]
    obtain ⟨c1, c2⟩ := t.ch_half i
    by_cases he : t.L.getD i [] = s
    · refine .inl ⟨?_, he, .inr ⟨i, hi, rfl, he, hno⟩⟩
      rw [c1, Gn.h, he]
    · have hno2 : ∀ x, x ≤ i → t.L.getD x [] ≠ s := fun x hx => by
        by_cases e : x = i
        · rw [e]; exact he
        · exact hno x (by omega)
      cases hl : t.last i with
      | true => exact .inr (.inl ⟨he, by rw [c2, hl]; rfl, .inl ⟨rfl, t.past_last ht hi hk1 hl hno2⟩⟩)
      | false =>
        obtain ⟨n1, n2⟩ := t.not_last hi hl
        exact .inr (.inr ⟨he, by rw [c2, hl]; rfl, n1, n2.trans hk1, fun x hx => hno2 x (by omega)⟩)
end Go.Proofs.Ythdgkhigekogiaa
