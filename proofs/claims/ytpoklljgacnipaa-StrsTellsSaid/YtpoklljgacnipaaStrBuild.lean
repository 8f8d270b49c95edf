/-
  The contract of strs.Build: of few and short names the table, and where each stands; or that one is no name.
-/
import Derived.Test.YtpoklljgacnipaaStrIdx
import Derived.Test.YtpoklljgacnipaaStrMap
import Derived.Test.YtpoklljgacnipaaAppG
import Derived.Test.YtpoklljgacnipaaForm
namespace Go.Proofs.Ytpoklljgacnipaa
open Go.RowKit Go.Maps

theorem strKeyed : Keyed Try.prog 9 := string_keyed Try.underlying9
theorem zeroU64 (w : World) : (zeroValue 23).run Try.prog w = .ok (.int .u64 0) w := by kernel_rfl
theorem keyStr {s : Bs} {S : ByteArray} (h : s.length ≤ maxLen) (hS : S = bstr s) : keyOf Try.prog 9 (.string S) = some (.string s) := by
  subst hS
  rw [WideMaps.keyOf_string_mk Try.underlying9 (by rw [bstr_size]; exact h), bstr_list]

/-- What Build tells. -/
def BuiltR (L : List Bs) (w : World) (e : Ending) (w' : World) : Prop :=
  Grow w w' ∧ ((areN L = false ∧ e = .returned (.tuple #[.slice none 0 0, .slice none 0 0, .iface 41 (.int .i64 9)])) ∨
    (areN L = true ∧ ∃ A c A2 c2, e = .returned (.tuple #[.slice A (tab L L.length).length c, .slice A2 L.length c2, .nilIface]) ∧ RB w' w'.heap.size A (tab L L.length).length c (tab L L.length) ∧
      NS w' w'.heap.size .u64 A2 L.length c2 (ats L L.length)))

theorem bound_tab {L : List Bs} {k : Nat} (h5 : ∀ s ∈ L, s.length ≤ 500) (hk : k ≤ 60) : (tab L k).length ≤ 40000 := by
  have h1 := tab_le h5 k
  have h2 : k * (500 + 1) ≤ 60 * 501 := Nat.mul_le_mul hk (Nat.le_refl _)
  omega

theorem own_new (w : World) (n : Nat) : (((w.alloc (.cells #[.int .u8 0] 5)).alloc (.cells (madeCells #[.int .u64 0] n) 23)).alloc (.map #[] 0)).ownsMap Try.prog 9 (plainElem (H := Unit) Try.prog 23) (w.heap.size + 1 + 1) 0 (.map []) := by
  have := World.ownsMap_made (H := Unit) ((w.alloc (.cells #[.int .u8 0] 5)).alloc (.cells (madeCells #[.int .u64 0] n) 23)) Try.prog 9 (plainElem Try.prog 23)
  simpa using this

/-- What stands ahead of the loop. -/
theorem build_start (w : World) (n : Nat) (F : List Nat) {W : World} (hg : (((w.alloc (.cells #[.int .u8 0] 5)).alloc (.cells (madeCells #[.int .u64 0] n) 23)).alloc (.map #[] 0)).grownBy W (some (w.heap.size + 1 + 1))) :
    OB W w.heap.size 5 (some ⟨w.heap.size, 0, none⟩) 1 1 [0] ∧ W.rowIs (w.heap.size + 1) 23 n (laidTo .u64 F 0) ∧ Below w.heap.size w W ∧ w.heap.size + 1 + 1 < W.heap.size := by
  have h1 : OB (w.alloc (.cells #[.int .u8 0] 5)) w.heap.size 5 (some ⟨w.heap.size, 0, none⟩) 1 1 [0] := OB.lit w w.heap.size 5 [0] (by decide) (Nat.le_refl _)
  have h2 := ((h1.alloc (.cells (madeCells #[.int .u64 0] n) 23)).alloc (.map #[] 0)).grownBy hg (.inr (by simp [own]; omega))
  have r1 := (World.rowIs_made (w.alloc (.cells #[.int .u8 0] 5)) (.int .u64 0) n 23)
  have r2 := (r1.alloc (.map #[] 0))
  have s1 := hg.size
  simp at s1
  have e1 : (w.alloc (.cells #[.int .u8 0] 5)).heap.size = w.heap.size + 1 := by simp
  rw [e1] at r2
  refine ⟨h2, (r2.of_block (hg.block _ (by simp) (by simp))).congr fun i _ => by simp [laidTo], ?_, by omega⟩
  exact ((((Below.refl _ _).alloc (Nat.le_refl _) _).alloc (by simp) _).alloc (by simp; omega) _).grown hg (by simp; omega) (fun k hk => by injection hk with hk; omega)

set_option maxHeartbeats 1000000 in
set_option maxRecDepth 100000 in
theorem build_any (A : Option Addr) (n c : Nat) (L : List Bs) (w : World) (h : SS w w.heap.size A n c L) (h60 : L.length ≤ 60) (h5 : ∀ s ∈ L, s.length ≤ 500) :
    Calls Try.prog 9 #[.slice A n c] w (BuiltR L w) := by
  obtain rfl := h.len
  have HS := Lib.hid h
  have hc := h.cap
  have hm := h.max
  unfold maxLen at hm
  have HA := Lib.hid (fun W (hS : SS W w.heap.size A L.length c L) => areNames_any A L.length c L _ W hS)
  have H5 := Lib.hid h5
  clear h h5
  obtain ⟨N, hN⟩ : ∃ N, N = areN L := ⟨_, rfl⟩
  rw [← hN] at HA
  cases N with
  | false =>
    have HN := Lib.hid hN.symm
    clear hN
    go_enter Try.func9, Try.ntmps9
    go_wp2_with (go_at_call 14; refine (HA.out _ HS.out).mono ?_; rintro e w' ⟨rfl, rfl⟩)
    go_ret3
    exact ⟨Grow.refl _, .inl ⟨HN.out, rfl⟩⟩
  | true =>
    have HN := Lib.hid hN.symm
    clear hN
    have hmk := run_make_row' (P := Try.prog) 29 23 (.int .u64 0) 8 Try.underlying29 (by kernel_rfl) rfl .i64 .i64 L.length (by omega) (by omega)
    have hmm := @run_makeMap Try.prog
    go_enter Try.func9, Try.ntmps9
    go_wp2_with fail
    refine (HA.out _ HS.out).mono ?_
    rintro e w' ⟨rfl, rfl⟩
    go_wp2_with (refine wpList_insert_own _ rfl (.tmp 20) _ _ 42 rfl 9 23 strKeyed Try.underlying42 (plainElem (H := Unit) Try.prog 23) (w.heap.size + 1 + 1) 0 (.map []) rfl (own_new w L.length) (by unfold maxLen; omega) _ _ _ rfl rfl (keyStr (s := []) (Nat.zero_le _) rfl) _ _ (plainElem_int Try.underlying23 (by decide)) ?_)
    intro W1 hown1 hg1
    obtain ⟨a1, a2, a3, a4⟩ := build_start w L.length (ats L L.length) hg1
    have HO0 := Lib.hid a1
    have HR0 := Lib.hid a2
    have HB0 := Lib.hid a3
    have HM0 := Lib.hid hown1
    clear hown1 hg1 a1 a2 a3 hmk hmm HA
    have HD0 : Hid (MapOf ((DataW.map []).put (.string []) (.lit (.int .u64 0))) (look (L.take 0) (ats L 0))) := by
      refine Lib.hid (MapOf.put (p := 0) mapOf_empty fun x => ?_)
      rw [List.take_zero, ats_zero, look_nil]
      by_cases e : x = []
      · rw [if_pos e, if_pos e.symm]
      · rw [if_neg e, if_neg fun h => e h.symm]
    generalize (DataW.map []).put (.string []) (.lit (.int .u64 0)) = D0 at HM0 HD0
    obtain ⟨G, hG⟩ : ∃ G, G = w.heap.size := ⟨_, rfl⟩
    rw [← hG] at a4 HO0 HR0 HM0 HB0 ⊢
    have HGw := Lib.hid hG
    clear hG
    have h61 : (L.length : Int) ≤ 60 := by omega
    go_wp2_with fail
    go_loopw [5, 24] (fun T i wr => ∃ (k : Nat) (A : Option Addr) (c : Nat) (D : DataW Unit), k ≤ L.length ∧ i = .int .i64 k ∧ T = .slice A (tab L k).length c ∧ OB wr G 5 A (tab L k).length c (tab L k) ∧
      wr.ownsMap Try.prog 9 (plainElem Try.prog 23) (G + 1 + 1) (k + 1) D ∧ MapOf D (look (L.take k) (ats L k)) ∧ wr.rowIs (G + 1) 23 L.length (laidTo .u64 (ats L L.length) k) ∧ Below G w wr ∧ G + 1 + 1 < wr.heap.size) (fun _ i _ => L.length - (intOf i).toNat)
    case atStart => exact ⟨0, _, _, D0, Nat.zero_le _, rfl, rfl, HO0.out, HM0.out, HD0.out, HR0.out, HB0.out, a4⟩
    case round =>
      obtain ⟨k, TA, tc, D, hk, rfl, rfl, ho, hmap, hD, hrow, hbel, hsz⟩ := hrel
      have HO := Lib.hid ho
      have HM := Lib.hid hmap
      have HD := Lib.hid hD
      have HR := Lib.hid hrow
      have HB := Lib.hid hbel
      clear ho hmap hD hrow hbel HO0 HR0 HB0 HM0 HD0
      by_cases hlt : k < L.length
      · have HSw := (HS.out.belowAt HB.out (by rw [HGw.out]; exact Nat.le_refl _))
        obtain ⟨b, off, rfl, hb, hcell⟩ := HSw.pos (by omega)
        have q := hcell k hlt
        clear hb hcell
        have HQ := Lib.hid (H5.out _ (getD_mem hlt))
        obtain ⟨s, hs⟩ : ∃ s, s = L.getD k [] := ⟨_, rfl⟩
        rw [← hs] at q HQ
        have Hs := Lib.hid hs
        obtain ⟨S, hS⟩ : ∃ S, S = bstr s := ⟨_, rfl⟩
        rw [← hS] at q
        have HSs := Lib.hid hS
        have HK := Lib.hid (keyStr (S := S) (s := s) (by have := HQ.out; unfold maxLen; omega) hS)
        clear hs hS
        have ht := bound_tab H5.out (k := k) (by omega)
        cases hl : look (L.take k) (ats L k) s with
        | some p =>
          have HP := Lib.hid hl
          have HPL : Hid (look (L.take k) (ats L k) (L.getD k []) = some p) := by rw [← Hs.out]; exact HP
          clear hl
          have c1 := HR.out.cell hlt
          have f1 := HR.out.frozen k
          have HR1 := Lib.hid (HR.out.set k (.int .u64 (p : Int)))
          go_wp2_with (refine wpList_lookup_there _ rfl (.tmp 30) (.tmp 31) 42 rfl 9 23 strKeyed Try.underlying42 Try.underlying23 (zeroU64 _) (G + 1 + 1) _ D rfl HM.out _ s rfl HK.out _ HD.out p HP.out ?_)
          go_roundw
          case rel =>
            have e1 := (tab_old HPL.out).1
            exact ⟨k + 1, TA, tc, D, by omega, by go_num, by rw [e1], by rw [e1]; exact HO.out.grownBy (grown_set _ _ _) (.inr (HO.out.rowNe HR.out (by decide)).symm), (HM.out.setCell (show G + 1 + 1 ≠ G + 1 by omega) _).mono (by omega),
              HD.out.congr fun x => look_old hlt HPL.out x, HR1.out.congr fun j _ => laidTo_succ (ats_at_old hlt HPL.out) j, HB.out.setCell (show G ≤ G + 1 by omega) _, by simpa using hsz⟩
          case measure => simp [intOf]; omega
        | none =>
          have HP := Lib.hid hl
          have HPL : Hid (look (L.take k) (ats L k) (L.getD k []) = none) := by rw [← Hs.out]; exact HP
          clear hl
          have z1 : IntKind.u64.wrap ((tab L k).length : Int) = ((tab L k).length : Int) := by rw [IntKind.wrap_u64]; omega
          go_wp2_with (first
            | (refine wpList_lookup_not _ rfl (.tmp 30) (.tmp 31) 42 rfl 9 23 strKeyed Try.underlying42 Try.underlying23 (zeroU64 _) (G + 1 + 1) _ D rfl HM.out _ s rfl HK.out _ HD.out HP.out ?_)
            | (refine wpList_mapUpdate_own _ rfl (.tmp 40) (.tmp 41) (.tmp 42) 42 rfl 9 23 strKeyed Try.underlying42 (plainElem (H := Unit) Try.prog 23) (G + 1 + 1) _ D rfl HM.out (by unfold maxLen; omega) _ _ _ rfl rfl HK.out _ _ (plainElem_int Try.underlying23 (WalkArith.wf_u64 (by omega))) ?_))
          intro w2 hown2 hg2
          have HM2 := Lib.hid hown2
          have HG2 := Lib.hid hg2
          have HO2 := Lib.hid (HO.out.grownBy hg2 (.inr (HO.out.mapNe HM.out).symm))
          have HR2 := Lib.hid (HR.out.of_block (hg2.block _ HR.out.lt (by simp)))
          have HB2 := Lib.hid (HB.out.grown hg2 (by omega) (fun j hj => by injection hj with hj; omega))
          have hz2 := hg2.size
          have hq := HQ.out
          clear hown2 hg2 HK
          go_wp2_with (refine wpList_appendStr _ rfl (.tmp 43) (.tmp 44) 22 9 rfl G 5 Try.underlying22 Try.underlying9 (by kernel_rfl) TA _ tc _ rfl HO2.out S s HSs.out rfl (by omega) (by omega) ?_)
          intro A3 c3 w3 ho3 hg3
          have HM3 := Lib.hid (HM2.out.kept hg3 (HO2.out.mapNe HM2.out))
          have HR3 := Lib.hid (HR2.out.of_block (hg3.block _ HR2.out.lt (HO2.out.rowNe HR2.out (by decide))))
          have HB3 := Lib.hid (HB2.out.grown hg3 (by omega) (fun j hj => HO2.out.ge hj))
          have HO3 := Lib.hid (ho3.alloc (.cells #[.int .u8 0] 5))
          have HL3 := Lib.hid (RB.lit w3 5 [0] (by decide))
          have hz3 := hg3.size
          clear ho3 hg3
          go_wp2_with (refine wpList_appendG _ rfl (.tmp 46) (.tmp 47) 22 rfl G 5 Try.underlying22 (by kernel_rfl) A3 _ c3 _ rfl HO3.out _ _ 1 1 [0] rfl HL3.out (by omega) (by simp; omega) ?_)
          intro A4 c4 w4 ho4 hg4
          have hz4 := hg4.size
          simp at hz4
          have HM4 := Lib.hid ((HM3.out.alloc (.cells #[.int .u8 0] 5)).kept hg4 (HO3.out.mapNe (HM3.out.alloc _)))
          have HR4 := Lib.hid ((HR3.out.alloc (.cells #[.int .u8 0] 5)).of_block (hg4.block _ (by have := HR3.out.lt; simp; omega) (HO3.out.rowNe (HR3.out.alloc _) (by decide))))
          have HB4 := Lib.hid ((HB3.out.alloc (show G ≤ w3.heap.size by omega) (.cells #[.int .u8 0] 5)).grown hg4 (by simp; omega) (fun j hj => HO3.out.ge hj))
          have HO4 := Lib.hid ho4
          have c1 := HR4.out.cell hlt
          have f1 := HR4.out.frozen k
          have HR5 := Lib.hid (HR4.out.set k (.int .u64 ((tab L k).length : Int)))
          clear ho4 hg4
          go_wp2
          go_roundw
          case rel =>
            have e1 := (tab_new HPL.out).1
            rw [← Hs.out] at e1
            have e2 : (tab L (k + 1)).length = (tab L k).length + s.length + 1 := by rw [e1, List.length_append, List.length_append]; rfl
            exact ⟨k + 1, A4, c4, _, by omega, by go_num, by rw [e2], by rw [e2, e1]; exact HO4.out.grownBy (grown_set w4 ⟨G + 1, k, none⟩ _) (.inr (HO4.out.rowNe HR4.out (by decide)).symm), HM4.out.setCell (show G + 1 + 1 ≠ G + 1 by omega) _,
              HD.out.put fun x => by rw [look_new hlt HPL.out, Hs.out], HR5.out.congr fun j _ => laidTo_succ (ats_at_new hlt HPL.out) j, HB4.out.setCell (show G ≤ G + 1 by omega) _, by simp; omega⟩
          case measure => simp [intOf]; omega
      · obtain rfl : k = L.length := by omega
        have e0 : (ats L L.length).length = L.length := ats_len _
        have HBl := Lib.hid (blk_of_rowIs HR.out e0)
        have HNs := Lib.hid (NS.of_blk (B := wr.heap.size) HBl.out rfl (by omega) (by rw [e0]; unfold maxLen; omega))
        rw [e0] at HNs
        clear e0
        go_wp2
        go_ret3
        refine ⟨by have := HB.out; rw [HGw.out] at this; exact this, .inr ⟨HN.out, TA, tc, _, _, rfl, HO.out.rb, HNs.out⟩⟩
end Go.Proofs.Ytpoklljgacnipaa
