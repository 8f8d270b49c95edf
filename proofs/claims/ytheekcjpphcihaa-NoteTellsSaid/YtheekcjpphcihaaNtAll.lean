/-
  The contract of note.All: all notes of any bytes, in new memory; or what is wrong, and where the note begins.
-/
import Derived.Test.YtheekcjpphcihaaNtRead
import Derived.Test.YtheekcjpphcihaaZapp
import Derived.Test.YtheekcjpphcihaaErr
namespace Go.Proofs.Ytheekcjpphcihaa
open Go.RowKit

theorem NtO.mono {w : World} {base base' : Nat} {e : TypeId} {r : Array Value} {s : Nt} (h : NtO w base e r s) (hb : base' ≤ base) : NtO w base' e r s := by
  obtain ⟨A, n, c, A', n', c', e1, h1, h2⟩ := h
  exact ⟨A, n, c, A', n', c', e1, h1.mono hb, h2.mono hb⟩
theorem NtOs.otherRow {w : World} {base : Nat} {e t : TypeId} {R : List (Array Value)} {L : List Nt} {g : Nat} {cs : Array Value} (h : NtOs w base e R L) (hb : Blk w g t cs) (ht : e ≠ t) (cs' : Array Value) : NtOs (w.setRow g cs') base e R L := ⟨h.1, fun j h1 h2 => (h.2 j h1 h2).otherRow hb ht cs'⟩

/-- What All answers. -/
def NAll (S : List Nt × Nat × Nat) (w : World) (e : Ending) (w' : World) : Prop :=
  (S.2.1 = 0 ∧ ∃ A c, e = .returned (.tuple #[.slice A S.1.length c, .nilIface]) ∧ ZN w' w'.heap.size A S.1.length c S.1 ∧ Grow w w') ∨
  (S.2.1 ≠ 0 ∧ ∃ er, e = .returned (.tuple #[.slice none 0 0, er]) ∧ Err w' er S.2.1 S.2.2 ∧ Grow w w')

set_option maxHeartbeats 2000000 in
theorem nAll_any (A : Option Addr) (n c : Nat) (l : List UInt8) (wide big : Bool) (w : World) (h : RB w w.heap.size A n c l) (h10 : l.length ≤ 100000) :
    Calls Try.prog 7 #[.slice A n c, .agg #[.bool wide, .bool big]] w (NAll (ntRest l big 0) w) := by
  have HR := Lib.hid h
  have hl := h.len
  have hcp := h.cap
  have hmx := h.max
  unfold maxLen at hmx
  have elem8 : Try.prog.elem 25 = 5 := by kernel_rfl
  have ht8 : Try.prog.underlying 25 = some (.slice (Try.prog.elem 25)) := by rw [elem8]; exact Try.underlying25
  have hz8 : ∀ W, (sizeOf (Try.prog.elem 25)).run Try.prog W = .ok 1 W := fun W => by rw [elem8]; kernel_rfl
  have HRd : Hid (∀ (a : Addr) (q : Nat), q < n → A = some a → ∃ (a1 : Addr) (n1 c1 : Nat), (∀ W, (Instr.slice 25 (.slice A n c) (some (.int .i64 (q : Int))) none none).run Try.prog W = .ok (.slice (some a1) n1 c1) W) ∧
      ∀ W, Grow w W → Calls Try.prog 13 #[.slice (some a1) n1 c1, .agg #[.bool wide, .bool big]] W (NRd (ntBad (l.drop q) big) (ntE (l.drop q) big) (ntOf (l.drop q) big) W)) := Lib.hid fun a q hq hA => by
    subst hA
    have hc := h.cut (p := q) (m := n - q) (by omega)
    rw [List.take_of_length_le (by rw [List.length_drop, hl]; exact Nat.le_refl _)] at hc
    exact ⟨_, _, _, run_cut_l (P := Try.prog) 25 ht8 hz8 a n c .i64 q (by omega), fun W hg => nRead_any _ _ _ _ wide big W ((hc.belowAt hg (Nat.le_refl _)).more hg.size)⟩
  have HSt : Hid (∀ q, (n ≤ q → ntRest l big q = ([], 0, 0)) ∧ (q < n → ntBad (l.drop q) big ≠ 0 → ntRest l big q = ([], ntBad (l.drop q) big, q)) ∧
      (q < n → ntBad (l.drop q) big = 0 → ntRest l big q = (ntOf (l.drop q) big :: (ntRest l big (q + ntE (l.drop q) big)).1, (ntRest l big (q + ntE (l.drop q) big)).2) ∧ 12 ≤ ntE (l.drop q) big ∧ q + ntE (l.drop q) big ≤ n)) := Lib.hid fun q => by
    obtain ⟨s1, s2, s3⟩ := nt_step l big q
    rw [← hl] at s1 s2 s3
    refine ⟨s1, s2, fun hq hb => ⟨s3 hq hb, ntE_ge _ _, ?_⟩⟩
    have hw : ntE (l.drop q) big ≤ (l.drop q).length := by rcases ntBad_cases (l.drop q) big with ⟨-, hb2⟩ | ⟨h4, -⟩ | ⟨h4, -⟩ <;> omega
    rw [List.length_drop, ← hl] at hw
    omega
  have HBl : Hid (∀ q, ntBad (l.drop q) big < 100) := Lib.hid fun q => by rcases ntBad_cases (l.drop q) big with ⟨-, h⟩ | ⟨-, -, h⟩ | ⟨-, -, h⟩ <;> omega
  rw [← hl] at h10
  have HS : Hid (∃ T, ntRest l big 0 = (T ++ (ntRest l big 0).1, (ntRest l big 0).2) ∧ T = []) := Lib.hid ⟨[], rfl, rfl⟩
  generalize hS : ntRest l big 0 = S at HS ⊢
  have HSe := Lib.hid hS
  generalize ntRest l big = N at HSt HSe
  unfold NAll
  clear h hl elem8 ht8 hz8 hS
  go_enter Try.func7, Try.ntmps7
  go_wp2_with fail
  generalize hW : World.alloc _ _ = W0
  obtain ⟨bf, hg0⟩ := blk1 hW
  have HBF0 := Lib.hid bf
  have HG0 := Lib.hid hg0
  clear hW bf hg0
  go_loopw [6, 7] (fun x i wr => ∃ (q : Nat) (T : List Nt) (R : List (Array Value)) (A2 : Option Addr) (c2 : Nat), q ≤ n ∧ T.length * 12 ≤ q ∧ S = (T ++ (N q).1, (N q).2) ∧ i = .int .i64 q ∧ x = .slice A2 T.length c2 ∧
    ZO wr (w.heap.size + 1) 41 3 A2 T.length c2 R ∧ NtOs wr (w.heap.size + 1) 5 R T ∧ Blk wr w.heap.size 24 #[.bool wide, .bool big] ∧ Grow w wr) (fun _ i _ => n - (intOf i).toNat)
  case atStart => exact ⟨0, [], [], none, 0, Nat.zero_le _, by simp, by rw [HSe.out]; simp, rfl, rfl, ZO.nil, NtOs.nil, HBF0.out, HG0.out⟩
  case round =>
    obtain ⟨q, T, R, A2, c2, hq, hT, hSq, rfl, rfl, ho, ht, hbf, hg⟩ := hrel
    have HO := Lib.hid ho
    have HT := Lib.hid ht
    have HBF := Lib.hid hbf
    have HG := Lib.hid hg
    have HSq := Lib.hid hSq
    clear ho ht hbf hg hSq HBF0 HG0
    by_cases hlt : q < n
    · obtain ⟨b, off, hA, -, -⟩ := HR.out.pos (by omega)
      obtain ⟨a1, n1, c1, hcut, hrd⟩ := HRd.out _ q hlt hA
      obtain ⟨-, hst2, hst3⟩ := HSt.out q
      have hbl := HBl.out q
      have HCut := Lib.hid hcut
      generalize ntBad (l.drop q) big = bd at hrd hst2 hst3 hbl
      generalize ntE (l.drop q) big = Ek at hrd hst3
      generalize ntOf (l.drop q) big = s at hrd hst3
      have HRq := Lib.hid hrd
      have HS2 := Lib.hid (hst2 hlt)
      have HS3 := Lib.hid (hst3 hlt)
      have HTk := Lib.hid hT
      obtain ⟨k, hk⟩ : ∃ k, k = T.length := ⟨_, rfl⟩
      have HKe := Lib.hid hk
      rw [← hk] at HO hT
      rw [← hk]
      clear hcut hrd hst2 hst3 hA hk HTk
      go_wp2_with fail
      refine wp_region_tree (leap_below (w.heap.size + 1)) (.chain [(0, true), (1, true), (2, true), (3, true)] (.both 4 (.chain [(5, true), (6, true), (7, true), (8, true), (9, false), (10, false), (11, true), (12, true)] .done) 9 (.chain [(4, false), (5, true), (6, true), (7, true), (8, true), (10, false), (11, true), (12, true)] .done))) (by kernel_rfl) (by kernel_rfl) (by kernel_rfl) ?_
      refine tr_chain ?_
      have HX : Hid (∀ W, Below (w.heap.size + 1) wr.drew W → _ ∧ _) := fun W hW => ((HBF.out.drew).below hW (Nat.lt_succ_self _)).c2
      have HB1 : Hid (Blk wr.drew w.heap.size 24 #[.bool wide, .bool big]) := HBF.out.drew
      have HO1 : Hid (ZO wr.drew _ _ _ _ _ _ _) := HO.out
      have HT1 : Hid (NtOs wr.drew _ _ _ _) := HT.out
      have HG1 : Hid (Grow w wr.drew) := HG.out.trans (Grow.of_drew _)
      generalize wr.drew = w3 at HX HB1 HO1 HT1 HG1 ⊢
      clear HO HBF HG HT
      repeat (refine chain_take rfl (by rfl) ?_ (fun W hG => ?_) ?_; rotate_left; (obtain ⟨q1, q2⟩ := HX.out W hG; have q3 := HCut.out W; go_simp; rfl); simp only [Act.put, List.setIfInBounds_toArray, List.set_cons_zero, List.set_cons_succ])
      clear HX HCut
      refine chain_done (tr_both (step_op rfl (by rfl) ?A) (step_op rfl (by rfl) ?B))
      case' A =>
        intro K hK
        go_simp
        refine (HRq.out _ HG1.out).mono ?_
        rintro e w4 ⟨r, m, rfl, hrs, hro, hrn, hg4⟩
        refine hK _ _ (hg4.mono HB1.out.lt) ?_
        clear hK K
        have HRs := Lib.hid hrs
        have HRo := Lib.hid hro
        have HRn := Lib.hid hrn
        have HB2 := Lib.hid (HB1.out.grow hg4)
        have HO2 := Lib.hid (HO1.out.keep hg4)
        have HT2 := Lib.hid (HT1.out.keep hg4)
        have HG2 : Hid (Grow w w4) := HG1.out.trans hg4
        have HBs : Hid (w.heap.size + 1 ≤ w3.heap.size) := Lib.hid HB1.out.lt
        clear hrs hro hrn hg4 HB1 HO1 HT1 HG1
        refine tr_chain ?_
        repeat (refine chain_take rfl (by rfl) ?_ (fun W hG => ?_) ?_; rotate_left; (go_simp; rfl); simp only [Act.put, List.setIfInBounds_toArray, List.set_cons_zero, List.set_cons_succ])
        refine chain_only rfl (by rfl) (fun K hK => ?_)
        go_simp
        refine hK _ _ (Below.alloc (Below.refl _ _) (show w.heap.size + 1 ≤ w4.heap.size from HB2.out.lt) _) ?_
        clear hK K
        have HD8 := Lib.hid (Blk.new w4 41 #[.slice none 0 0, .slice none 0 0, .int .u32 0])
        have HB8 := Lib.hid (HB2.out.alloc (.cells #[.slice none 0 0, .slice none 0 0, .int .u32 0] 41))
        have HO8 := Lib.hid (HO2.out.keep (Grow.of_alloc w4 (.cells #[.slice none 0 0, .slice none 0 0, .int .u32 0] 41)))
        have HT8 := Lib.hid (HT2.out.keep (Grow.of_alloc w4 (.cells #[.slice none 0 0, .slice none 0 0, .int .u32 0] 41)))
        have HG8 : Hid (Grow w (w4.alloc (.cells #[.slice none 0 0, .slice none 0 0, .int .u32 0] 41))) := HG2.out.trans (Grow.of_alloc _ _)
        have HGe : Hid (w.heap.size + 1 ≤ w4.heap.size) := Lib.hid HB2.out.lt
        have HNe : Hid (own A2 ≠ some w4.heap.size) := Lib.hid (HO2.out.ne (.inr (Nat.le_refl _)))
        have HRm : Hid (bd = 0 → m = Ek ∧ NtO (w4.alloc (.cells #[.slice none 0 0, .slice none 0 0, .int .u32 0] 41)) (w.heap.size + 1) 5 r s) := Lib.hid (fun h => by
          obtain ⟨h1, h2⟩ := HRn.out h
          exact ⟨h1, (h2.mono HBs.out).keep (Grow.of_alloc _ _)⟩)
        generalize w4.alloc _ = w5 at HD8 HB8 HO8 HT8 HG8 HRm ⊢
        generalize w4.heap.size = g8 at HD8 HGe HNe ⊢
        clear HB2 HO2 HT2 HG2 HRn HBs
      case' B =>
        intro K hK
        go_simp
        refine hK _ _ (Below.alloc (Below.refl _ _) (show w.heap.size + 1 ≤ w3.heap.size from HB1.out.lt) _) ?_
        clear hK K
        have HD8 := Lib.hid (Blk.new w3 41 #[.slice none 0 0, .slice none 0 0, .int .u32 0])
        have HB8 := Lib.hid (HB1.out.alloc (.cells #[.slice none 0 0, .slice none 0 0, .int .u32 0] 41))
        have HO8 := Lib.hid (HO1.out.keep (Grow.of_alloc w3 (.cells #[.slice none 0 0, .slice none 0 0, .int .u32 0] 41)))
        have HT8 := Lib.hid (HT1.out.keep (Grow.of_alloc w3 (.cells #[.slice none 0 0, .slice none 0 0, .int .u32 0] 41)))
        have HG8 : Hid (Grow w (w3.alloc (.cells #[.slice none 0 0, .slice none 0 0, .int .u32 0] 41))) := HG1.out.trans (Grow.of_alloc _ _)
        have HGe : Hid (w.heap.size + 1 ≤ w3.heap.size) := Lib.hid HB1.out.lt
        have HNe : Hid (own A2 ≠ some w3.heap.size) := Lib.hid (HO1.out.ne (.inr (Nat.le_refl _)))
        generalize w3.alloc _ = w4 at HD8 HB8 HO8 HT8 HG8 ⊢
        generalize w3.heap.size = g8 at HD8 HGe HNe ⊢
        have HD4 := HD8
        have HB4 := HB8
        have HO4 := HO8
        have HT4 := HT8
        have HG4 := HG8
        clear HB1 HO1 HT1 HG1 HD8 HB8 HO8 HT8 HG8
        refine tr_chain ?_
        refine chain_only rfl (by rfl) (fun K hK => ?_)
        go_simp
        refine (HRq.out _ HG4.out).mono ?_
        rintro e w5 ⟨r, m, rfl, hrs, hro, hrn, hg5⟩
        refine hK _ _ (hg5.mono HB4.out.lt) ?_
        clear hK K
        have HRs := Lib.hid hrs
        have HRo := Lib.hid hro
        have HRm : Hid (bd = 0 → m = Ek ∧ NtO w5 (w.heap.size + 1) 5 r s) := Lib.hid (fun h => by
          obtain ⟨h1, h2⟩ := hrn h
          exact ⟨h1, h2.mono HB4.out.lt⟩)
        have HD8 := Lib.hid (HD4.out.grow hg5)
        have HB8 := Lib.hid (HB4.out.grow hg5)
        have HO8 := Lib.hid (HO4.out.keep hg5)
        have HT8 := Lib.hid (HT4.out.keep hg5)
        have HG8 : Hid (Grow w w5) := HG4.out.trans hg5
        clear hrs hro hrn hg5 HD4 HB4 HO4 HT4 HG4
        repeat (refine chain_take rfl (by rfl) ?_ (fun W hG => ?_) ?_; rotate_left; (go_simp; rfl); simp only [Act.put, List.setIfInBounds_toArray, List.set_cons_zero, List.set_cons_succ])
      all_goals
        refine chain_only rfl (by rfl) (fun K hK => ?_)
        refine wp_store_row 41 (.tmp 8) (.tmp 21) rfl g8 r rfl rfl _ _ HD8.out (by rw [HRs.out]; kernel_rfl) (by rw [HRs.out]; rfl) HRo.out ?_
        refine hK _ _ (Below.setRow' _ HGe.out _) ?_
        clear hK K
        have HD9 := Lib.hid (HD8.out.set r)
        have HB9 := Lib.hid (HB8.out.other (show w.heap.size ≠ g8 by have := HGe.out; omega) r)
        have HG9 : Hid (Grow w (w5.setRow g8 r)) := Grow.set HG8.out (by have := HGe.out; omega) _
        have HO9 := Lib.hid (HO8.out.other HNe.out r)
        have HT9 := Lib.hid (HT8.out.otherRow HD8.out (by decide) r)
        have HR9 : Hid (bd = 0 → m = Ek ∧ NtO (w5.setRow g8 r) (w.heap.size + 1) 5 r s) := Lib.hid (fun h => ⟨(HRm.out h).1, (HRm.out h).2.otherRow HD8.out (by decide) r⟩)
        generalize w5.setRow g8 _ = w7 at HD9 HB9 HG9 HO9 HT9 HR9 ⊢
        clear HD8 HB8 HG8 HO8 HT8 HRm
        repeat (refine chain_take rfl (by rfl) ?_ (fun W hG => ?_) ?_; rotate_left; (go_simp; rfl); simp only [Act.put, List.setIfInBounds_toArray, List.set_cons_zero, List.set_cons_succ])
        refine chain_done (tr_done ?_)
        clear HRq HGe HNe
        by_cases h0 : bd = 0
        · subst h0
          obtain ⟨rfl, hnt⟩ := HR9.out rfl
          obtain ⟨hS3, hE12, hEn⟩ := HS3.out rfl
          have HS4 : Hid (S = ((T ++ [s]) ++ (N (q + m)).1, (N (q + m)).2)) := Lib.hid (by rw [HSq.out, hS3]; simp)
          have HNt := Lib.hid hnt
          obtain ⟨A3, n3, c3, A4, n4, c4, rfl, -, -⟩ := hnt
          clear hS3 HS3 HR9 HS2 HSq hbl
          have hal : Below (w.heap.size + 1) w7 (w7.alloc (.cells #[.slice A3 n3 c3, .slice A4 n4 c4, .int .u32 (s.typ : Int)] 41)) := Below.alloc (Below.refl _ _) HB9.out.lt _
          have HSz := Lib.hid (Nat.le_trans (show w.heap.size + 1 ≤ w7.heap.size from HB9.out.lt) hal.size)
          have HNu := Lib.hid (Blk.new w7 41 #[.slice A3 n3 c3, .slice A4 n4 c4, .int .u32 (s.typ : Int)])
          have HOA := Lib.hid (HO9.out.keep (Grow.of_alloc w7 (.cells #[.slice A3 n3 c3, .slice A4 n4 c4, .int .u32 (s.typ : Int)] 41)))
          have HTA := Lib.hid (HT9.out.keep (Grow.of_alloc w7 (.cells #[.slice A3 n3 c3, .slice A4 n4 c4, .int .u32 (s.typ : Int)] 41)))
          have HNA := Lib.hid (HNt.out.keep (Grow.of_alloc w7 (.cells #[.slice A3 n3 c3, .slice A4 n4 c4, .int .u32 (s.typ : Int)] 41)))
          have HLb := Lib.hid hal
          have z3 : IntKind.i64.wrap ((q : Int) + (m : Int)) = ((q + m : Nat) : Int) := by rw [IntKind.wrap_i64]; omega
          clear hal
          go_wp2_with (first | (refine wpList_load_row rfl 41 (.tmp 8) rfl g8 rfl _ #[.slice A3 n3 c3, .slice A4 n4 c4, .int .u32 (s.typ : Int)] (0, 0) _ HD9.out Try.underlying41 rfl (by kernel_rfl) ?_) | (refine wpList_appendZ (w7.alloc (.cells #[.slice A3 n3 c3, .slice A4 n4 c4, .int .u32 (s.typ : Int)] 41)) rfl (.tmp 31) (.tmp 33) 22 rfl (w.heap.size + 1) 41 (.agg #[.slice none 0 0, .slice none 0 0, .int .u32 0]) 3 56 Try.underlying22 (by kernel_rfl) rfl (by omega) A2 k c2 _ rfl HOA.out w7.heap.size _ _ rfl HNu.out rfl HRo.out (by unfold maxLen; omega) (by omega) HSz.out ?_; intro A5 c5 w9 ho9 hg9 _; refine Hid.out ?_))
          have hb9 : Below (w.heap.size + 1) w7 w9 := HLb.out.trans ((Below.refl _ _).grown hg9 HSz.out (fun j hj => HO9.out.ge hj))
          have HB10 := Lib.hid (HB9.out.below hb9 (Nat.lt_succ_self _))
          have HG10 : Hid (Grow w w9) := HG9.out.trans' (hb9.mono (Nat.le_succ _))
          have HO10 := Lib.hid ho9
          have HT10 : Hid (NtOs w9 (w.heap.size + 1) 5 (R ++ [#[.slice A3 n3 c3, .slice A4 n4 c4, .int .u32 (s.typ : Int)]]) (T ++ [s])) := Lib.hid ((HTA.out.past HOA.out (by decide) hg9).snoc (HNA.out.past HOA.out (by decide) hg9))
          clear ho9 hg9 hb9 HB9 HD9 HG9 HO9 HT9 HSz HNu HOA HTA HNA HNt HLb HRo HRs
          refine Lib.hid ?_
          go_wp2
          go_roundw
          case rel =>
            have e : (T ++ [s]).length = k + 1 := by rw [HKe.out]; simp
            exact ⟨q + m, T ++ [s], _, A5, c5, hEn, by omega, HS4.out, rfl, by rw [e], by rw [e]; exact HO10.out, HT10.out, HB10.out, HG10.out⟩
          case measure => simp [intOf]; omega
        · have hS2 := HS2.out h0
          have HG2 : Hid (Grow w (w7.alloc (.cells #[.int .i64 (q : Int), .int .i64 (bd : Int)] 47))) := HG9.out.trans (Grow.of_alloc _ _)
          have HE : Hid (Err (w7.alloc (.cells #[.int .i64 (q : Int), .int .i64 (bd : Int)] 47)) (.iface 45 (.pointer (some ⟨w7.heap.size, 0, none⟩))) bd q) := Err.box w7 bd q _ (by omega)
          have HSe2 : Hid (S.2 = (bd, q)) := Lib.hid (by rw [HSq.out, hS2])
          have y0 : ((bd : Int) != 0) = true := by simp; omega
          clear HS3 HR9 hS2 HS2 HT9 HO9
          go_wp2
          go_ret2
          refine .inr ⟨by rw [HSe2.out]; exact h0, _, rfl, ?_, HG2.out⟩
          rw [HSe2.out]
          exact HE.out
    · have e : q = n := by omega
      have hSe : S = (T, 0, 0) := by
        rw [HSq.out, (HSt.out q).1 (by omega)]; simp
      have HZn := Lib.hid (HO.out.zn HT.out)
      have HSe2 := Lib.hid hSe
      clear HSt HSq HRd hSe
      go_wp2
      go_ret2
      exact .inl ⟨by rw [HSe2.out], A2, c2, by rw [HSe2.out]; rfl, by rw [HSe2.out]; exact HZn.out, HG.out⟩
end Go.Proofs.Ytheekcjpphcihaa
