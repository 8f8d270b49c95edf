/-
  The walk of layer 12's statement: of a table of any names, ordered, any name is found just where it first stands.
-/
import Derived.Test.YthdgkhigekogiaaUp12
import Derived.Test.YthdgkhigekogiaaGnSmall
import Derived.Test.YthdgkhigekogiaaGnOrder
import Derived.Test.YthdgkhigekogiaaStrApp
import Derived.Lib.SmallJoins
namespace Go.Proofs.Ythdgkhigekogiaa
open Go.RowKit

/-- The names at n places. -/
def pickL (L : List Bs) (f : Nat → Nat) (n : Nat) : List Bs := (List.range n).map fun i => L.getD (f i) []
theorem pickL_len (L : List Bs) (f : Nat → Nat) (n : Nat) : (pickL L f n).length = n := by simp [pickL]
theorem pickL_at (L : List Bs) (f : Nat → Nat) (n i : Nat) (h : i < n) : (pickL L f n).getD i [] = L.getD (f i) [] := by simp [pickL, h]
theorem pickL_succ (L : List Bs) (f : Nat → Nat) (n : Nat) : pickL L f (n + 1) = pickL L f n ++ [L.getD (f n) []] := by simp [pickL, List.range_succ]
theorem pickL_each {L : List Bs} {f : Nat → Nat} {n m : Nat} (hf : ∀ i, i < n → f i < L.length) (h : ∀ s ∈ L, s.length ≤ m) : ∀ s ∈ pickL L f n, s.length ≤ m := fun s hs => by
  obtain ⟨i, hi, rfl⟩ := List.mem_map.1 hs
  exact h _ (getD_mem (hf i (by simpa using hi)))

/-- The table of the statement. -/
def lawG (F b wd sh : Nat) (wide big : Bool) (L : List Bs) (f : Nat → Nat) : Gn := ⟨F, b, wd, sh, wide, big, pickL L f L.length⟩
theorem lawG_ok {F b wd sh : Nat} {wide big : Bool} {L : List Bs} {f : Nat → Nat} (h1 : 1 ≤ F) (h2 : F ≤ 60) (b1 : 1 ≤ b) (b2 : b ≤ 50) (w1 : 1 ≤ wd) (w2 : wd ≤ 10) (s2 : sh < 32) (hn : L.length ≤ 60)
    (he : ∀ s ∈ L, s.length ≤ 200) (hf : ∀ i, i < L.length → f i < L.length) (hr : Rise (fun i => gnH (L.getD i []) % b) 0 L.length f) : (lawG F b wd sh wide big L f).Ok := by
  have e : (lawG F b wd sh wide big L f).n = L.length := pickL_len L f L.length
  refine ⟨h1, show F ≤ 65536 by omega, b1, show b ≤ 1024 by omega, w1, show wd ≤ 1024 by omega, show sh ≤ 31 by omega, by rw [e]; omega, fun i j hij hj => ?_, fun s hs => ?_⟩
  · rw [e] at hj
    have := hr i j (Nat.zero_le _) hij hj
    simp only [Gn.k, Gn.h, lawG]
    rw [pickL_at L f _ i (by omega), pickL_at L f _ j hj]
    exact this
  · have := pickL_each hf he s hs
    omega

theorem Blk.put4 {w : World} {g : Nat} {t : TypeId} {a b c d : Value} (h : Blk w g t #[a, b, c, d]) (a' b' c' d' : Value) :
    Blk ((((w.setCell ⟨g, 0, none⟩ a').setCell ⟨g, 1, none⟩ b').setCell ⟨g, 2, none⟩ c').setCell ⟨g, 3, none⟩ d') g t #[a', b', c', d'] := by
  have h1 := Joins.block_setCell (i := 0) h a'
  have h2 := Joins.block_setCell (i := 1) h1 b'
  have h3 := Joins.block_setCell (i := 2) h2 c'
  have h4 := Joins.block_setCell (i := 3) h3 d'
  simpa [Blk] using h4

/-- Where a name first stands from place j of the table on, or 0. -/
def FstFrom (t : Gn) (s : Bs) (j v : Nat) : Prop := (v = 0 ∧ ∀ i, j ≤ i → i < t.n → t.L.getD i [] ≠ s) ∨ ∃ i, j ≤ i ∧ i < t.n ∧ v = t.first + i ∧ t.L.getD i [] = s ∧ ∀ x, j ≤ x → x < i → t.L.getD x [] ≠ s
theorem FstFrom.zero {t : Gn} {s : Bs} {v : Nat} (h : FstFrom t s 0 v) : t.Fst s v := by
  rcases h with ⟨h1, h2⟩ | ⟨i, _, h1, h2, h3, h4⟩
  · exact .inl ⟨h1, fun i hi => h2 i (Nat.zero_le _) hi⟩
  · exact .inr ⟨i, h1, h2, h3, fun x hx => h4 x (Nat.zero_le _) hx⟩
theorem FstFrom.hit {t : Gn} {s : Bs} {j : Nat} (hj : j < t.n) (he : t.L.getD j [] = s) : FstFrom t s j (t.first + j) := .inr ⟨j, Nat.le_refl _, hj, rfl, he, fun x h1 h2 => absurd h1 (by omega)⟩
theorem FstFrom.miss {t : Gn} {s : Bs} {j v : Nat} (h : FstFrom t s (j + 1) v) (he : t.L.getD j [] ≠ s) : FstFrom t s j v := by
  rcases h with ⟨h1, h2⟩ | ⟨i, h0, h1, h2, h3, h4⟩
  · refine .inl ⟨h1, fun i hi hn => ?_⟩
    by_cases e : i = j
    · rw [e]; exact he
    · exact h2 i (by omega) hn
  · refine .inr ⟨i, by omega, h1, h2, h3, fun x hx hxi => ?_⟩
    by_cases e : x = j
    · rw [e]; exact he
    · exact h4 x (by omega) hxi
theorem FstFrom.none (t : Gn) (s : Bs) : FstFrom t s t.n 0 := .inl ⟨rfl, fun i h1 h2 => absurd h1 (by omega)⟩

set_option maxHeartbeats 8000000 in
set_option maxRecDepth 100000 in
theorem gnuFinds_core (F0 b0 wd0 sh0 : Int) (A1 : Option Addr) (n1 c1 : Nat) (L1 : List Bs) (A2 : Option Addr) (n2 c2 : Nat) (L : List Bs) (wide big : Bool) (S : ByteArray) (s : Bs) (w : World) (h1 : SS w w.heap.size A1 n1 c1 L1) (h2 : SS w w.heap.size A2 n2 c2 L) (hS : S = bstr s) :
    Calls Try.prog 3 #[.agg #[.int .i64 F0, .int .i64 b0, .int .i64 wd0, .int .i64 sh0], .slice A1 n1 c1, .slice A2 n2 c2, .agg #[.bool wide, .bool big], .string S] w fun e w' => e = .returned (.bool true) ∧ Grow w w' := by
  have HA := Lib.hid h1
  have HL := Lib.hid h2
  have HN1 := Lib.hid h1.len
  have HN2 := Lib.hid h2.len
  have hc1 := h1.cap
  have hm1 := h1.max
  have hc2 := h2.cap
  have hm2 := h2.max
  unfold maxLen at hm1 hm2
  have HS := Lib.hid hS
  clear h1 h2 hS
  go_enter Try.func3, Try.ntmps3
  go_wp2_with fail
  generalize hW0 : World.alloc _ _ = W0
  obtain ⟨hb1, hb2, hgr⟩ := blk2 hW0
  obtain ⟨gt, hgt⟩ : ∃ g, g = w.heap.size := ⟨_, rfl⟩
  obtain ⟨gf, hgf⟩ : ∃ g, g = w.heap.size + 1 := ⟨_, rfl⟩
  rw [← hgf, ← hgt]
  rw [← hgf] at hb2
  rw [← hgt] at hb1
  have HNe : Hid (gt ≠ gf ∧ w.heap.size ≤ gt) := Lib.hid (by omega)
  have HT0 := Lib.hid hb1
  have HF0 := Lib.hid hb2
  have HG0 := Lib.hid hgr
  clear hW0 hb1 hb2 hgr hgt hgf
  refine (up12_any _).mono ?_
  rintro e w1 ⟨rfl, hg⟩
  have HT1 := Lib.hid (HT0.out.grow hg)
  have HF1 := Lib.hid (HF0.out.grow hg)
  have HG1 := Lib.hid (HG0.out.trans hg)
  clear hg HT0 HF0 HG0
  go_wp2_with fail
  refine (small_any A2 n2 c2 L _ w1 (HL.out.belowAt HG1.out (Nat.le_refl _))).mono ?_
  rintro e w' ⟨rfl, rfl | ⟨rfl, hl60, hl200⟩⟩
  · go_wp2
    go_ret
    exact ⟨rfl, HG1.out⟩
  go_wp2_with fail
  refine (small_any A1 n1 c1 L1 _ w1 (HA.out.belowAt HG1.out (Nat.le_refl _))).mono ?_
  rintro e w' ⟨rfl, rfl | ⟨rfl, ha60, ha200⟩⟩
  · go_wp2
    go_ret
    exact ⟨rfl, HG1.out⟩
  have HL6 := Lib.hid hl60
  have HL2 := Lib.hid hl200
  have HA6 := Lib.hid ha60
  have HA2 := Lib.hid ha200
  clear hl60 hl200 ha60 ha200
  by_cases hn10 : n1 = 0
  · have z1 : ((n1 : Int) == 0) = true := by rw [hn10]; rfl
    clear hn10
    go_wp2
    go_ret
    exact ⟨rfl, HG1.out⟩
  have z1 : ((n1 : Int) == 0) = false := by simp; exact hn10
  by_cases hs5 : 500 < S.size
  · go_wp2
    go_ret
    exact ⟨rfl, HG1.out⟩
  have z2 : decide (500 < S.size) = false := decide_eq_false hs5
  have z3 : decide (500 < (S.size : Int)) = false := decide_eq_false (by omega)
  have HS5 : Hid (S.size ≤ 500) := Lib.hid (by omega)
  have HN10 : Hid (1 ≤ n1) := Lib.hid (by omega)
  clear hn10 hs5
  obtain ⟨t0, t1, t2, t3⟩ := HT1.out.c4
  have u0 := HT1.out.soft 0
  have u1 := HT1.out.soft 1
  have u2 := HT1.out.soft 2
  have u3 := HT1.out.soft 3
  go_wp2_with fail
  refine (pick_by b0 50 _ (by omega) (by omega) : Calls Try.prog 6 #[.int .i64 b0, .int .i64 50] _ _).mono ?_
  rintro e w' ⟨kb, hkb, rfl, rfl⟩
  obtain ⟨b, hb⟩ : ∃ b, b = 1 + kb := ⟨_, rfl⟩
  have y1 : IntKind.i64.wrap (1 + (kb : Int)) = (b : Int) := by rw [IntKind.wrap_i64]; omega
  have HBn : Hid (1 ≤ b ∧ b ≤ 50) := Lib.hid (by omega)
  clear hb hkb
  go_wp2_with fail
  refine (pick_by wd0 10 _ (by omega) (by omega) : Calls Try.prog 6 #[.int .i64 wd0, .int .i64 10] _ _).mono ?_
  rintro e w' ⟨kwd, hkwd, rfl, rfl⟩
  obtain ⟨wd, hwd⟩ : ∃ b, b = 1 + kwd := ⟨_, rfl⟩
  have y2 : IntKind.i64.wrap (1 + (kwd : Int)) = (wd : Int) := by rw [IntKind.wrap_i64]; omega
  have HWn : Hid (1 ≤ wd ∧ wd ≤ 10) := Lib.hid (by omega)
  clear hwd hkwd
  go_wp2_with fail
  refine (pick_by sh0 32 _ (by omega) (by omega) : Calls Try.prog 6 #[.int .i64 sh0, .int .i64 32] _ _).mono ?_
  rintro e w' ⟨ksh, hksh, rfl, rfl⟩
  have HSn := Lib.hid hksh
  clear hksh
  go_wp2_with fail
  have HT2 := Lib.hid (HT1.out.put4 (.int .i64 (n1 : Int)) (.int .i64 (b : Int)) (.int .i64 (wd : Int)) (.int .i64 (ksh : Int)))
  have HF2 : Hid (Blk ((((w1.setCell ⟨gt, 0, none⟩ (.int .i64 (n1 : Int))).setCell ⟨gt, 1, none⟩ (.int .i64 (b : Int))).setCell ⟨gt, 2, none⟩ (.int .i64 (wd : Int))).setCell ⟨gt, 3, none⟩ (.int .i64 (ksh : Int))) gf 26 #[.bool wide, .bool big]) :=
    Lib.hid ((((HF1.out.cellset (Ne.symm HNe.out.1) _).cellset (Ne.symm HNe.out.1) _).cellset (Ne.symm HNe.out.1) _).cellset (Ne.symm HNe.out.1) _)
  have HG2 : Hid (Grow w ((((w1.setCell ⟨gt, 0, none⟩ (.int .i64 (n1 : Int))).setCell ⟨gt, 1, none⟩ (.int .i64 (b : Int))).setCell ⟨gt, 2, none⟩ (.int .i64 (wd : Int))).setCell ⟨gt, 3, none⟩ (.int .i64 (ksh : Int)))) :=
    Lib.hid ((((HG1.out.cellset HNe.out.2 0 _).cellset HNe.out.2 1 _).cellset HNe.out.2 2 _).cellset HNe.out.2 3 _)
  generalize World.setCell _ _ _ = w2 at HT2 HF2 HG2 ⊢
  clear HT1 HF1 HG1 t0 t1 t2 t3 u0 u1 u2 u3 y1 y2
  refine (order_any A2 n2 c2 b L w2 ((HL.out.belowAt HG2.out (Nat.le_refl _)).more HG2.out.size) (by have := HL6.out; have := HN2.out; omega) HBn.out.1 (by have := HBn.out.2; omega)).mono ?_
  rintro e w3 ⟨go, f, rfl, hgo, hrow, hfl, hrise, hg⟩
  rw [← HN2.out] at hrow hfl hrise ⊢
  have HO3 := Lib.hid hrow
  have HFl := Lib.hid hfl
  have HRi := Lib.hid hrise
  have HT3 := Lib.hid (HT2.out.grow hg)
  have HF3 := Lib.hid (HF2.out.grow hg)
  have HG3 := Lib.hid (HG2.out.trans hg)
  clear hgo hrow hfl hrise hg HT2 HF2 HG2
  obtain ⟨L', hL'⟩ : ∃ L', L' = pickL L f n2 := ⟨_, rfl⟩
  have HL' := Lib.hid hL'
  clear hL'
  have z4 : ((n2 : Int) != (n2 : Int)) = false := by simp
  go_wp2_with (at_builtin; refine wpList_appendN (w3.alloc (.cells #[] 9)) rfl (.tmp 69) (.tmp 70) 24 rfl w3.heap.size 9 (.string { data := #[] }) 16 Try.underlying24 (by kernel_rfl) rfl (some ⟨w3.heap.size, 0, none⟩) 0 0 [] rfl (SO.lit w3 w3.heap.size 9 (Nat.le_refl _)) w.heap.size A1 n1 c1 L1 rfl ((HA.out.belowAt (HG3.out.trans (Grow.of_alloc _ _)) (Nat.le_refl _))) HN10.out (by unfold maxLen; omega) (by have := HA6.out; have := HN1.out; omega) (by simp) ?_)
  intro A3 c3 w4 ho hb
  obtain ⟨Bs0, hBs⟩ : ∃ B, B = w3.heap.size := ⟨_, rfl⟩
  rw [← hBs] at ho hb
  have HBd : Hid (go < Bs0 ∧ gt < Bs0 ∧ gf < Bs0 ∧ w.heap.size ≤ Bs0) := Lib.hid (by rw [hBs]; exact ⟨HO3.out.lt, HT3.out.lt, HF3.out.lt, HG3.out.size⟩)
  have hbel : Below Bs0 w3 w4 := by rw [hBs] at hb ⊢; exact ((Below.refl _ _).alloc (Nat.le_refl _) _).trans hb
  have HD4 := Lib.hid hbel
  have HS4 : Hid (Bs0 ≤ w4.heap.size) := Lib.hid (by rw [hBs]; exact hbel.size)
  have HO4 : Hid (SO w4 Bs0 9 A3 n1 c3 L1) := Lib.hid ho
  have HGw : Hid (∀ W, Below Bs0 w3 W → Grow w W) := Lib.hid fun W hW => HG3.out.trans' (hW.mono HBd.out.2.2.2)
  have HB3 : Hid (Bs0 = w3.heap.size) := Lib.hid hBs
  clear ho hb hbel hBs z1 z2 z3 z4
  go_wp2
  go_loopw [13, 14] (fun a i wr => ∃ (k : Nat) (A : Option Addr) (c : Nat), k ≤ n2 ∧ i = .int .i64 k ∧ a = .slice A (n1 + k) c ∧ SO wr Bs0 9 A (n1 + k) c (L1 ++ pickL L f k) ∧ Below Bs0 w3 wr ∧ Bs0 ≤ wr.heap.size) (fun _ i _ => n2 - (intOf i).toNat)
  case atStart => exact ⟨0, A3, c3, Nat.zero_le _, rfl, rfl, by rw [show pickL L f 0 = [] from rfl, List.append_nil]; exact HO4.out, HD4.out, HS4.out⟩
  case round =>
    obtain ⟨k, A, c, hk, rfl, rfl, ho, hbel, hsz⟩ := hrel
    have HO := Lib.hid ho
    have HD := Lib.hid hbel
    have HZ := Lib.hid hsz
    clear HO4 HD4 HS4 ho hbel hsz
    by_cases hlt : k < n2
    · have q1 : wr.cell? ⟨go, k, none⟩ = some (.int .i64 (f k : Int)) := (rows_below HO3.out HD.out HBd.out.1).cell hlt
      have hfk := HFl.out k hlt
      obtain ⟨bL, oL, rfl, hbL, hcell⟩ := (HL.out.belowAt (HGw.out _ HD.out) (Nat.le_refl _)).pos (by omega)
      have q2 := hcell (f k) (by have := HN2.out; omega)
      have hsz2 : (L.getD (f k) []).length ≤ maxLen := HL.out.size _
      obtain ⟨nm, hnm⟩ : ∃ nm, nm = L.getD (f k) [] := ⟨_, rfl⟩
      have HPk : Hid (L1 ++ pickL L f (k + 1) = L1 ++ (pickL L f k ++ [nm])) := Lib.hid (by rw [pickL_succ, hnm])
      rw [← hnm] at q2 hsz2
      clear hnm
      have HSL := Lib.hid (SS.lit wr 9 [nm] (show 1 ≤ maxLen by unfold maxLen; omega) (by intro s hs; simp only [List.mem_singleton] at hs; rw [hs]; exact hsz2) #[.string (bstr nm)] rfl)
      have HOA := Lib.hid (HO.out.keep (Grow.of_alloc wr (.cells #[.string (bstr nm)] 9)))
      have HZA : Hid (Bs0 ≤ (wr.alloc (.cells #[.string (bstr nm)] 9)).heap.size) := Lib.hid (by have := HZ.out; simp; omega)
      have HDA : Hid (Below Bs0 w3 (wr.alloc (.cells #[.string (bstr nm)] 9))) := Lib.hid (HD.out.alloc HZ.out _)
      generalize bstr nm = N at q2 HSL HOA HZA HDA
      generalize f k = fk at q1 q2 hfk
      have y1 : decide ((fk : Int) < 0) = false := decide_eq_false (by omega)
      have y2 : decide ((n2 : Int) ≤ (fk : Int)) = false := decide_eq_false (by omega)
      have y3 : (fk : Int) < (n2 : Int) := by omega
      have HSm : Hid (n1 + k + 1 ≤ 200) := Lib.hid (by have := HA6.out; have := HN1.out; have := HL6.out; have := HN2.out; omega)
      clear hcell hbL hsz2
      go_wp2_with (at_builtin; refine wpList_appendN (wr.alloc (.cells #[.string N] 9)) rfl (.tmp 92) (.tmp 100) 24 rfl Bs0 9 (.string { data := #[] }) 16 Try.underlying24 (by kernel_rfl) rfl A (n1 + k) c _ rfl HOA.out (wr.alloc (.cells #[.string N] 9)).heap.size (some ⟨wr.heap.size, 0, none⟩) 1 1 _ rfl HSL.out (by omega) (by have := HSm.out; unfold maxLen; omega) (by have := HSm.out; omega) HZA.out ?_)
      intro A5 c5 w5 ho hb
      have HO5 : Hid (SO w5 Bs0 9 A5 (n1 + k + 1) c5 (L1 ++ pickL L f (k + 1))) := Lib.hid (by rw [HPk.out]; simpa using ho)
      have HD5 := Lib.hid (HDA.out.trans hb)
      have HZ5 := Lib.hid (Nat.le_trans HZA.out hb.size)
      clear ho hb q1 q2 y1 y2 y3 HSL HOA HZA HDA HPk
      go_wp2
      go_roundw
      case rel => exact ⟨k + 1, A5, c5, by omega, by go_num, rfl, HO5.out, HD5.out, HZ5.out⟩
      case measure => simp [intOf]; omega
    · have e : n2 = k := by omega
      subst e
      have hF1 := HN10.out
      have hF2 : n1 ≤ 60 := by have := HA6.out; have := HN1.out; omega
      have hN2 := HN2.out
      have hn60 : n2 ≤ 60 := by have := HL6.out; omega
      have hfl := HFl.out
      have hri := HRi.out
      rw [hN2] at hfl hri
      have HOk : Hid (lawG n1 b wd ksh wide big L f).Ok := Lib.hid (lawG_ok hF1 hF2 HBn.out.1 HBn.out.2 HWn.out.1 HWn.out.2 HSn.out HL6.out HL2.out hfl hri)
      have hEach : ∀ s ∈ L1 ++ pickL L f n2, s.length ≤ maxLen := fun s hs => by
        have : s.length ≤ 200 := by
          rcases List.mem_append.1 hs with h | h
          · exact HA2.out s h
          · exact pickL_each (by rw [hN2]; exact hfl) HL2.out s h
        unfold maxLen; omega
      have hall := HO.out.ss hEach
      obtain ⟨ba, oa, hA, -, -⟩ := hall.pos (by omega)
      subst hA
      obtain ⟨m, hm⟩ : ∃ m, m = n1 + n2 := ⟨_, rfl⟩
      have hcm := hall.cap
      have hcx := hall.max
      unfold maxLen at hcx
      have HM := Lib.hid hm
      rw [← hm] at HO hall hcm ⊢
      have hdrop := hall.drop (p := n1) (by omega)
      rw [List.drop_append_of_le_length (by rw [← HN1.out]; exact Nat.le_refl _), List.drop_of_length_le (by rw [← HN1.out]; exact Nat.le_refl _), List.nil_append] at hdrop
      have hcut : ∀ W, (Instr.slice 24 (.slice (some ⟨ba, oa, none⟩) m c) (some (.int .i64 (n1 : Int))) none none).run Try.prog W = .ok (.slice (some (cutA ⟨ba, oa, none⟩ c n1)) (m - n1) (c - n1)) W :=
        fun W => run_cut_l 24 Try.underlying24 (fun W => by kernel_rfl) ⟨ba, oa, none⟩ m c .i64 n1 (by omega) W
      have HDr := Lib.hid hdrop
      have HAll := Lib.hid hall
      have HEa := Lib.hid hEach
      have hmn : m - n1 = n2 := by omega
      rw [hmn] at hcut HDr
      generalize cutA ⟨ba, oa, none⟩ c n1 = cu at hcut HDr
      generalize c - n1 = cc at hcut HDr
      have HBg : Hid (Grow w wr) := Lib.hid (HGw.out _ HD.out)
      have HTw := Lib.hid (HT3.out.below HD.out HBd.out.2.1)
      have HFw := Lib.hid (HF3.out.below HD.out HBd.out.2.2.1)
      clear hF1 hF2 hN2 hn60 hfl hri hEach hall hcm hcx hm hdrop hmn hlt hk HO HD HZ HGw HBd HO3 HT3 HF3
      go_wp2_with fail
      have HXW : Hid (∀ W, Grow wr.drew W → (W.cell? ⟨gt, 0, none⟩ = some (.int .i64 (n1 : Int)) ∧ W.cell? ⟨gt, 1, none⟩ = some (.int .i64 (b : Int)) ∧ W.cell? ⟨gt, 2, none⟩ = some (.int .i64 (wd : Int)) ∧ W.cell? ⟨gt, 3, none⟩ = some (.int .i64 (ksh : Int))) ∧ W.cell? ⟨gf, 0, none⟩ = some (.bool wide) ∧ W.cell? ⟨gf, 1, none⟩ = some (.bool big)) :=
        Lib.hid fun W hW => ⟨((HTw.out.drew).grow hW).c4, ((HFw.out.drew).grow hW).c2⟩
      refine wp_region_chain [(0, true), (1, true), (2, true), (3, true), (4, true), (5, true), (6, false), (7, true), (8, true), (9, true), (10, true), (11, true)] (by kernel_rfl) (by kernel_rfl) (by kernel_rfl) ?_
      have HF5 : Hid (Blk wr.drew gf 26 #[.bool wide, .bool big]) := HFw
      have HG5 : Hid (Grow w wr.drew) := Lib.hid (HBg.out.trans (Grow.of_drew _))
      have HD5 : Hid (SS wr.drew wr.drew.heap.size (some cu) n2 cc (pickL L f n2)) := Lib.hid (HDr.out.grow (Grow.of_drew _))
      have HA5 : Hid (SS wr.drew wr.drew.heap.size (some ⟨ba, oa, none⟩) m c (L1 ++ pickL L f n2)) := Lib.hid (HAll.out.grow (Grow.of_drew _))
      generalize wr.drew = w5 at HXW HF5 HG5 HD5 HA5 ⊢
      clear HTw HFw HBg HDr HAll
      repeat (refine chain_take rfl (by rfl) ?_ (fun W hG => ?_) ?_; rotate_left; (obtain ⟨⟨q1, q2, q3, q4⟩, q5, q6⟩ := HXW.out W hG; go_simp; rfl); simp only [Act.put, List.setIfInBounds_toArray, List.set_cons_zero, List.set_cons_succ])
      clear HXW hcut
      obtain ⟨cz, hcz⟩ : ∃ cz, cz = c := ⟨_, rfl⟩
      rw [← hcz] at HA5 ⊢
      clear hcz
      have hpk : pickL L f n2 = (lawG n1 b wd ksh wide big L f).L := by show pickL L f n2 = pickL L f L.length; rw [← HN2.out]
      have hTn : (lawG n1 b wd ksh wide big L f).n = n2 := by show (pickL L f L.length).length = n2; rw [pickL_len, HN2.out]
      obtain ⟨ALL, hALL⟩ : ∃ ALL, ALL = L1 ++ pickL L f n2 := ⟨_, rfl⟩
      rw [← hALL] at HA5
      have hlen : ALL.length = n1 + n2 := by rw [hALL, List.length_append, pickL_len, ← HN1.out]
      have hat : ∀ i, i < n2 → ALL.getD (n1 + i) [] = (lawG n1 b wd ksh wide big L f).L.getD i [] := fun i hi => by
        rw [hALL, ← hpk, List.getD_eq_getElem?_getD, List.getElem?_append_right (by rw [← HN1.out]; omega), ← HN1.out, show n1 + i - n1 = i by omega, ← List.getD_eq_getElem?_getD]
      rw [hpk] at HD5
      have HBu : Hid (Calls Try.prog 8 #[.agg #[.int .i64 (n1 : Int), .int .i64 (b : Int), .int .i64 (wd : Int), .int .i64 (ksh : Int)], .slice (some cu) n2 cc, .agg #[.bool wide, .bool big]] w5 fun e w' =>
          ∃ A2 n2 c2, e = .returned (.tuple #[.slice A2 n2 c2, .nilIface]) ∧ RB w' w'.heap.size A2 n2 c2 (lawG n1 b wd ksh wide big L f).B ∧ Grow w5 w') := Lib.hid (build_any (lawG n1 b wd ksh wide big L f) HOk.out (some cu) n2 cc w5 HD5.out)
      have HLk : Hid (∀ (A : Option Addr) (n c : Nat) (N : ByteArray) (nm : Bs) (W : World), RB W W.heap.size A n c (lawG n1 b wd ksh wide big L f).B → SS W W.heap.size (some ⟨ba, oa, none⟩) m cz ALL → N = bstr nm → N.size ≤ maxLen →
          Calls Try.prog 9 #[.slice A n c, .slice (some ⟨ba, oa, none⟩) m cz, .agg #[.bool wide, .bool big], .string N] W fun e w' => ∃ v : Nat, e = .returned (.tuple #[.int .i64 (v : Int), .bool (decide (0 < v))]) ∧ (lawG n1 b wd ksh wide big L f).Fst nm v ∧ Grow W w') :=
        Lib.hid fun A n c N nm W hB hS hN hz => lookup_any (lawG n1 b wd ksh wide big L f) HOk.out A n c (some ⟨ba, oa, none⟩) m cz ALL N nm W hB hS (by rw [hlen, hTn]; rfl) (fun i hi => hat i (by rw [← hTn]; exact hi)) hN hz
      have hTf : (lawG n1 b wd ksh wide big L f).first = n1 := rfl
      clear hpk hALL
      generalize lawG n1 b wd ksh wide big L f = T at HBu HLk hTn hat hTf HD5 HOk
      have HAt := Lib.hid hat
      have HTn := Lib.hid hTn
      have HTf := Lib.hid hTf
      have HAl := Lib.hid hlen
      clear hat hTn hTf hlen HOk HD5
      refine chain_only rfl (by rfl) (fun K hK => ?_)
      go_simp
      refine HBu.out.mono ?_
      rintro e w6 ⟨Ab, nb, cb, rfl, hrb, hg⟩
      refine hK _ _ hg ?_
      clear hK K
      have HB6 := Lib.hid hrb
      have HF6 := Lib.hid (HF5.out.grow hg)
      have HG6 := Lib.hid (HG5.out.trans hg)
      have HA6' := Lib.hid (HA5.out.grow hg)
      clear hrb hg HBu HF5 HG5 HA5
      repeat (refine chain_take rfl (by rfl) ?_ (fun W hG => ?_) ?_; rotate_left; (go_simp; rfl); simp only [Act.put, List.setIfInBounds_toArray, List.set_cons_zero, List.set_cons_succ])
      refine chain_done ?_
      have hn60 : n2 ≤ 60 := by have := HL6.out; have := HN2.out; omega
      have hm60 : m ≤ 120 := by have := HM.out; have := HA6.out; have := HN1.out; omega
      go_wp2_with fail
      go_loopw [17] (fun i wr => ∃ k : Nat, k ≤ n2 + 1 ∧ i = .int .i64 k ∧ Grow w6 wr) (fun i _ => n2 + 1 - (intOf i).toNat)
      case atStart => exact ⟨0, Nat.zero_le _, rfl, Grow.refl _⟩
      case round =>
        obtain ⟨k, hk, rfl, hgr⟩ := hrel
        have HK := Lib.hid hgr
        clear hgr
        by_cases hle : k ≤ n2
        · have HR7 := Lib.hid (HB6.out.grow HK.out)
          have HS7 := Lib.hid (HA6'.out.grow HK.out)
          have HF7 := Lib.hid (HF6.out.grow HK.out)
          have HNam : Hid (∃ N nm, (k < n2 → ∃ bL oL, A2 = some ⟨bL, oL, none⟩ ∧ wr.cell? ⟨bL, oL + k, none⟩ = some (.string N)) ∧ (¬ k < n2 → N = S) ∧ N = bstr nm ∧ N.size ≤ maxLen) := by
            refine Lib.hid ?_
            by_cases hlt : k < n2
            · obtain ⟨bL, oL, hA2, -, hcell⟩ := (HL.out.belowAt (HG6.out.trans HK.out) (Nat.le_refl _)).pos (by omega)
              refine ⟨bstr (L.getD k []), L.getD k [], fun _ => ⟨bL, oL, hA2, hcell k (by rw [← HN2.out]; exact hlt)⟩, fun h => absurd hlt h, rfl, by rw [bstr_size]; exact HL.out.size _⟩
            · exact ⟨S, s, fun h => absurd h hlt, fun _ => rfl, HS.out, by have := HS5.out; unfold maxLen; omega⟩
          obtain ⟨N, nm, hN1, hN2, hN3, hN4⟩ := HNam.out
          have HN3 := Lib.hid hN3
          have HN4 := Lib.hid hN4
          have s1 : IntKind.i64.wrap ((m : Int) - 1) = (m : Int) - 1 := by rw [IntKind.wrap_i64]; omega
          clear HNam hN3 hN4
          have hcase : (∃ bL oL, k < n2 ∧ (k : Int) < (n2 : Int) ∧ A2 = some ⟨bL, oL, none⟩ ∧ wr.cell? ⟨bL, oL + k, none⟩ = some (.string N)) ∨ (decide (k < n2) = false ∧ decide ((k : Int) < (n2 : Int)) = false ∧ N = S) := by
            by_cases hlt : k < n2
            · obtain ⟨bL, oL, hA2, hc⟩ := hN1 hlt
              exact .inl ⟨bL, oL, hlt, by omega, hA2, hc⟩
            · exact .inr ⟨decide_eq_false hlt, decide_eq_false (by omega), hN2 hlt⟩
          clear hN1 hN2
          rcases hcase with ⟨bL, oL, g1, g2, rfl, g3⟩ | ⟨g1, g2, rfl⟩
          all_goals
            go_wp2_with fail
            go_loopw [19, 20] (fun want i wr2 => ∃ (q : Int) (j V : Nat), i = .int .i64 q ∧ want = .int .i64 (V : Int) ∧ q = (n1 : Int) + (j : Int) - 1 ∧ j ≤ n2 ∧ Hid (FstFrom T nm j V) ∧ wr2 = wr) (fun _ i _ => (intOf i).toNat)
            case atStart => exact ⟨(m : Int) - 1, n2, 0, rfl, rfl, by have := HM.out; omega, Nat.le_refl _, Lib.hid (by have := FstFrom.none T nm; rwa [HTn.out] at this), rfl⟩
            case round =>
              obtain ⟨q, j, V, rfl, rfl, hq, hj, HV, rfl⟩ := hrel
              clear g1 g2 s1
              by_cases hj0 : j = 0
              · have hd : decide ((n1 : Int) ≤ q) = false := decide_eq_false (by omega)
                rw [hj0] at HV
                obtain ⟨k0, k1⟩ := HF7.out.c2
                clear hj0 hq hj
                go_wp2_with fail
                refine (HLk.out Ab nb cb N nm _ HR7.out HS7.out HN3.out HN4.out).mono ?_
                rintro e w8 ⟨v, rfl, hv, hg⟩
                have hvV : v = V := Gn.Fst.eq hv HV.out.zero
                subst hvV
                have HK8 := Lib.hid (HK.out.trans hg)
                clear hv hg HV k0 k1 hd HR7 HS7 HF7 HLk
                have z1 : ((v : Int) != (v : Int)) = false := by simp
                by_cases hv0 : v = 0
                · subst hv0
                  go_wp2
                  go_roundw
                  case rel => exact ⟨k + 1, by omega, by go_num, HK8.out⟩
                  case measure => simp [intOf]; omega
                · have d1 : decide (0 < v) = true := decide_eq_true (by omega)
                  have d2 : (0 : Int) < (v : Int) := by omega
                  rw [d1]
                  clear hv0 d1
                  go_wp2
                  go_roundw
                  case rel => exact ⟨k + 1, by omega, by go_num, HK8.out⟩
                  case measure => simp [intOf]; omega
              · obtain ⟨i, rfl⟩ : ∃ i, j = i + 1 := ⟨j - 1, by omega⟩
                obtain ⟨r, rfl⟩ : ∃ r : Nat, q = (r : Int) := ⟨q.toNat, by omega⟩
                have hr : r = n1 + i := by omega
                have hin : i < n2 := by omega
                obtain ⟨b', o', he, -, hcell⟩ := HS7.out.pos (by have := HM.out; omega)
                injection he with he
                injection he with he1 he2 _
                subst he1
                subst he2
                have hrm : r < m := by have := HM.out; omega
                have q9 := hcell r (by rw [← HS7.out.len]; exact hrm)
                rw [hr, HAt.out i hin, ← hr] at q9
                obtain ⟨X, hX⟩ : ∃ X, X = bstr (T.L.getD i []) := ⟨_, rfl⟩
                rw [← hX] at q9
                have p1 : (n1 : Int) ≤ (r : Int) := by omega
                have p2 : (r : Int) < (m : Int) := by omega
                have s2 : IntKind.i64.wrap ((r : Int) - 1) = (r : Int) - 1 := by rw [IntKind.wrap_i64]; omega
                have HI := Lib.hid hin
                have Hr := Lib.hid hr
                have Hrm := Lib.hid hrm
                have HXn := Lib.hid hX
                clear hcell hj0 hq hj hin hr hX hrm
                by_cases he : T.L.getD i [] = nm
                · have e1 := bstr_eq HXn.out HN3.out he
                  have HV2 : Hid (FstFrom T nm i r) := Lib.hid (by have := FstFrom.hit (by rw [HTn.out]; exact HI.out) he; rwa [HTf.out, ← Hr.out] at this)
                  clear he
                  go_wp2
                  go_roundw
                  case rel => exact ⟨(r : Int) - 1, i, r, rfl, rfl, by have := Hr.out; omega, by have := HI.out; omega, HV2, by trivial⟩
                  case measure => have := Hr.out; have := HN10.out; simp [intOf]; omega
                · have e1 := bstr_ne HXn.out HN3.out he
                  have HV2 : Hid (FstFrom T nm i V) := Lib.hid (HV.out.miss he)
                  clear he
                  go_wp2
                  go_roundw
                  case rel => exact ⟨(r : Int) - 1, i, V, rfl, rfl, by have := Hr.out; omega, by have := HI.out; omega, HV2, by trivial⟩
                  case measure => have := Hr.out; have := HN10.out; simp [intOf]; omega
        · have hd : decide ((k : Int) ≤ (n2 : Int)) = false := decide_eq_false (by omega)
          have hd' : decide (k ≤ n2) = false := decide_eq_false hle
          have HGf := Lib.hid (HG6.out.trans HK.out)
          clear hle
          go_wp2
          go_ret
          exact ⟨rfl, HGf.out⟩
end Go.Proofs.Ythdgkhigekogiaa
