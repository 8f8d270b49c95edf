/-
  The contract of the document's own PutNotes: the bytes of any notes.
-/
import Derived.Test.YtheekcjpphcihaaNtPut
import Derived.Test.YtheekcjpphcihaaNtRead
import Derived.Test.YtheekcjpphcihaaRefRow
import Derived.Test.YtheekcjpphcihaaCut
namespace Go.Proofs.Ytheekcjpphcihaa
open Go.RowKit

def sliceLen : Value → Nat
  | .slice _ n _ => n
  | _ => 0

theorem Nt.rowed (s : Nt) (ok : s.Ok) : Rowed s.Q := by
  have h1 := ok.name
  have h2 := ok.desc
  have h3 := ok.typ
  refine ⟨by show 3 ≤ 100; decide, fun k hk => ?_, fun k hk => ?_⟩
  · match k, hk with
    | 0, _ => rfl
    | 1, _ => rfl
    | 2, _ => rfl
  · match k, hk with
    | 0, _ => exact Nat.lt_trans h1 (by decide)
    | 1, _ => exact Nat.lt_trans h2 (by decide)
    | 2, _ => exact Nat.lt_trans h3 (by decide)

/-- What is known of note k while its bytes are laid by the document's own. -/
theorem nt_eachR {w : World} {B : Nat} {A : Option Addr} {n c : Nat} {L : List Nt} (h : ZN w B A n c L) (hok : ∀ s ∈ L, s.Ok) (big : Bool) (hb : (ntsB big L).length ≤ 100000) (k : Nat) (hk : k < n) :
    ∃ (s : Nt) (A1 : Option Addr) (n1 c1 : Nat) (A3 : Option Addr) (n3 c3 d1 d3 : Nat), s.Ok ∧ n1 = s.name.length ∧ n3 = s.desc.length ∧ (∀ b off, A = some ⟨b, off, none⟩ → b < B ∧
      (w.cell? ⟨b, off + k * 3, none⟩ = some (.slice A1 n1 c1) ∧ w.cell? ⟨b, off + k * 3 + 1, none⟩ = some (.slice A3 n3 c3) ∧ w.cell? ⟨b, off + k * 3 + 2, none⟩ = some (.int .u32 (s.typ : Int)))) ∧ RB w B A1 n1 c1 s.name ∧ RB w B A3 n3 c3 s.desc ∧
      d1 ≤ 3 ∧ d3 ≤ 3 ∧ (∀ j, j ≤ d1 → ((ntP L big k ++ s.H big ++ s.name).length + j) % 4 = 0 → j = d1) ∧ ((ntP L big k ++ s.H big ++ s.name).length + d1) % 4 = 0 ∧
      (∀ j, j ≤ d3 → ((ntP L big k ++ s.H big ++ s.name ++ List.replicate d1 0 ++ s.desc).length + j) % 4 = 0 → j = d3) ∧ ((ntP L big k ++ s.H big ++ s.name ++ List.replicate d1 0 ++ s.desc).length + d3) % 4 = 0 ∧
      ntP L big (k + 1) = ntP L big k ++ s.H big ++ s.name ++ List.replicate d1 0 ++ s.desc ++ List.replicate d3 0 ∧ (ntP L big (k + 1)).length ≤ 100000 := by
  have hkl : k < L.length := by rw [← h.len]; exact hk
  obtain ⟨b, off, rfl⟩ := h.pos (by omega)
  obtain ⟨A1, n1, c1, A2, n2, c2, hB, hc, r1, r2⟩ := h.at hkl
  have l1 := r1.len
  have l2 := r2.len
  have hm := ntP_mod L big k
  have hH := L[k].lenH big
  have f1 := fil_ge n1
  have f2 := fil_ge n2
  have g1 := fil_le n1
  have g2 := fil_le n2
  have e1 := fil_mod n1
  have e2 := fil_mod n2
  refine ⟨L[k], A1, n1, c1, A2, n2, c2, fil n1 - n1, fil n2 - n2, hok _ (List.getElem_mem hkl), l1, l2, fun b' off' e => ?_, r1, r2, by omega, by omega, fun j hj he => ?_, ?_, fun j hj he => ?_, ?_, ?_, Nat.le_trans (ntP_le L big (k + 1)) hb⟩
  · injection e with e
    injection e with e1 e2
    subst e1; subst e2
    exact ⟨hB, hc⟩
  · simp only [List.length_append, hH, ← l1] at he; omega
  · simp only [List.length_append, hH, ← l1]; omega
  · simp only [List.length_append, List.length_replicate, hH, ← l1, ← l2] at he; omega
  · simp only [List.length_append, List.length_replicate, hH, ← l1, ← l2]; omega
  · rw [ntP_succ L big k hkl, Nt.B, partB, partB, zer, zer, ← l1, ← l2]
    simp only [List.append_assoc]

set_option maxHeartbeats 2000000 in
theorem rPutN_any (A : Option Addr) (n c : Nat) (L : List Nt) (hok : ∀ s ∈ L, s.Ok) (wide big : Bool) (hb : (ntsB big L).length ≤ 100000) (w : World) (h : ZN w w.heap.size A n c L) :
    Calls Try.prog 12 #[.slice A n c, .agg #[.bool wide, .bool big]] w (NPut L big w) := by
  have hn := h.len
  have hcp := h.cap
  have hmx := h.max
  unfold maxLen at hmx
  have HK := Lib.hid (fun k hk => nt_eachR h hok big hb k hk)
  have HPos := Lib.hid (fun hn => h.pos hn)
  have HP0 : Hid (ntP L big 0 = []) := Lib.hid rfl
  have HPn : Hid (ntP L big n = ntsB big L) := Lib.hid (ntP_all L big n (by omega))
  unfold NPut
  generalize ntP L big = P at HK HP0 HPn
  generalize ntsB big L = PL at HPn hb ⊢
  clear h hok hn
  go_enter Try.func12, Try.ntmps12
  go_wp2_with fail
  generalize hW : World.alloc _ _ = W0
  obtain ⟨bf, hg0⟩ := blk1 hW
  clear hW
  have HBF0 := Lib.hid bf
  have HG0 := Lib.hid hg0
  clear bf hg0
  go_loopw [5, 6] (fun x i wr => ∃ (k : Nat) (A2 : Option Addr) (c2 : Nat), k ≤ n ∧ i = .int .i64 k ∧ x = .slice A2 (P k).length c2 ∧ OB wr (w.heap.size + 1) 5 A2 (P k).length c2 (P k) ∧
    Blk wr w.heap.size 24 #[.bool wide, .bool big] ∧ Grow w wr) (fun _ i _ => n - (intOf i).toNat)
  case atStart => exact ⟨0, none, 0, Nat.zero_le _, rfl, by rw [HP0.out]; rfl, by rw [HP0.out]; exact OB.nil, HBF0.out, HG0.out⟩
  case round =>
    obtain ⟨k, A2, c2, hk, rfl, rfl, ho, hbf, hg⟩ := hrel
    have HO := Lib.hid ho
    have HBF := Lib.hid hbf
    have HG := Lib.hid hg
    clear ho hbf hg HBF0 HG0
    by_cases hlt : k < n
    · obtain ⟨b, off, rfl⟩ := HPos.out (by omega)
      obtain ⟨s, A1, n1, c1, A3, n3, c3, d1, d3, ok, e1, e3, hcell, r1, r3, hd1, hd3, hp1, hq1, hp3, hq3, hPk, hLk⟩ := HK.out k hlt
      obtain ⟨hbB, hc3⟩ := hcell b off rfl
      have HR1 := Lib.hid r1
      have HR3 := Lib.hid r3
      have HCell := Lib.hid hc3
      have HbB := Lib.hid hbB
      have HRy := Lib.hid (s.rowed ok)
      have hn1 := ok.name
      have hn3 := ok.desc
      have ht := ok.typ
      have HFs : Hid (∀ (W : World) (g : Nat), Blk W g 51 #[.int .u64 (n1 : Int), .int .u64 (n3 : Int), .int .u64 (s.typ : Int)] → NS W W.heap.size .u64 (some ⟨g, 0, none⟩) 3 3 (s.Q.map (·.1))) := Lib.hid fun W g hb =>
        NS.of_blkN hb rfl (by decide) hb.lt (by rw [e1, e3]; rfl)
      have HSn : Hid (∀ (W : World) (g : Nat), Blk W g 3 #[.int .i64 4, .int .i64 4, .int .i64 4] → NS W W.heap.size .i64 (some ⟨g, 0, none⟩) 3 3 (s.Q.map (·.2))) := Lib.hid fun W g hb =>
        NS.of_blkN hb rfl (by decide) hb.lt rfl
      have HH : Hid (s.H big = rowB big s.Q) := Lib.hid rfl
      have HHl := Lib.hid (s.lenH big)
      rw [HH.out] at HHl hPk hp1 hq1 hp3 hq3
      rw [← e1] at hn1
      rw [← e3] at hn3
      generalize s.Q = sq at HRy HFs HSn HH HHl hPk hp1 hq1 hp3 hq3
      obtain ⟨name, desc, typ⟩ := s
      simp only [] at ht e1 e3 hPk HR1 HR3 HCell HFs hp1 hq1 hp3 hq3
      have HPk := Lib.hid hPk
      have HLk := Lib.hid hLk
      have HP1 := Lib.hid hp1
      have HQ1 := Lib.hid hq1
      have HP3 := Lib.hid hp3
      have HQ3 := Lib.hid hq3
      have HE1 := Lib.hid e1
      have HE3 := Lib.hid e3
      clear hcell hbB hc3 r1 r3 hPk hLk hp1 hq1 hp3 hq3 e1 e3 HH ok
      have w1 : IntKind.u64.wrap (n1 : Int) = (n1 : Int) := by rw [IntKind.wrap_u64]; omega
      have w2 : IntKind.u64.wrap (n3 : Int) = (n3 : Int) := by rw [IntKind.wrap_u64]; omega
      have w3' : IntKind.u64.wrap (typ : Int) = (typ : Int) := by rw [IntKind.wrap_u64]; omega
      have z0 : (0 : Int) ≤ (k : Int) := by omega
      have z1 : (k : Int) < (n : Int) := by omega
      go_wp2_with fail
      refine wp_region_tree leap_grow (.chain [(0, true), (1, true), (2, true), (3, true), (4, true), (5, true), (6, true), (7, true), (8, true), (9, true), (10, true), (11, true), (12, true), (13, true), (14, true), (15, true), (16, true), (17, true), (18, true), (19, true), (22, true), (23, true)]
        (.both 20 (.chain [(21, false), (24, false), (25, true), (26, true), (27, true), (28, true), (29, true)] .done) 21 (.chain [(20, false), (24, false), (25, true), (26, true), (27, true), (28, true), (29, true)] .done))) (by kernel_rfl) (by kernel_rfl) (by kernel_rfl) ?_
      refine tr_chain ?_
      have HX : Hid (∀ W, Grow wr.drew W → (_ ∧ _) ∧ (W.cell? ⟨b, off + k * 3, none⟩ = some (.slice A1 n1 c1) ∧ W.cell? ⟨b, off + k * 3 + 1, none⟩ = some (.slice A3 n3 c3) ∧ W.cell? ⟨b, off + k * 3 + 2, none⟩ = some (.int .u32 (typ : Int)))) := fun W hW => by
        have hg : Grow w W := (HG.out.trans (Grow.of_drew _)).trans hW
        refine ⟨((HBF.out.drew).grow hW).c2, ?_⟩
        obtain ⟨h1, h2, h3⟩ := HCell.out
        exact ⟨by rw [hg.cell HbB.out]; exact h1, by rw [hg.cell HbB.out]; exact h2, by rw [hg.cell HbB.out]; exact h3⟩
      have HB4 := Lib.hid HBF.out.drew
      have HO4 : Hid (OB wr.drew _ _ _ _ _ _) := HO.out
      have HG4 : Hid (Grow w wr.drew) := HG.out.trans (Grow.of_drew _)
      generalize wr.drew = w4 at HX HB4 HO4 HG4 ⊢
      clear HO HBF HG
      repeat (refine chain_take rfl (by rfl) ?_ (fun W hG => ?_) ?_; rotate_left; (obtain ⟨⟨q1, q2⟩, q3, q4, q5⟩ := HX.out W hG; go_simp; rfl); simp only [Act.put, List.setIfInBounds_toArray, List.set_cons_zero, List.set_cons_succ])
      clear HX w1 w2 w3'
      refine chain_done (tr_both (step_op rfl (by rfl) ?A) (step_op rfl (by rfl) ?B))
      case' A =>
        intro K hK
        go_simp
        refine hK _ _ (Grow.of_alloc _ _) ?_
        clear hK K
        have HN5 := Lib.hid (HFs.out _ _ (Blk.new w4 51 #[.int .u64 (n1 : Int), .int .u64 (n3 : Int), .int .u64 (typ : Int)] ))
        have HB5 := Lib.hid (HB4.out.alloc (.cells #[.int .u64 (n1 : Int), .int .u64 (n3 : Int), .int .u64 (typ : Int)] 51))
        have HO5 := Lib.hid (HO4.out.keep (Grow.of_alloc w4 (.cells #[.int .u64 (n1 : Int), .int .u64 (n3 : Int), .int .u64 (typ : Int)] 51)))
        have HG5 : Hid (Grow w (w4.alloc (.cells #[.int .u64 (n1 : Int), .int .u64 (n3 : Int), .int .u64 (typ : Int)] 51))) := HG4.out.trans (Grow.of_alloc _ _)
        generalize w4.alloc _ = w5 at HN5  HB5 HO5 HG5 ⊢
        generalize w4.heap.size = g4 at HN5 ⊢
        clear HB4 HO4 HG4 
        refine tr_chain ?_
        refine chain_only rfl (by rfl) (fun K hK => ?_)
        go_simp
        refine hK _ _ (Grow.of_alloc _ _) ?_
        clear hK K
        have HR7 := Lib.hid (HSn.out _ _ (Blk.new w5 3 #[.int .i64 4, .int .i64 4, .int .i64 4]))
        have HB7 := Lib.hid (HB5.out.alloc (.cells #[.int .i64 4, .int .i64 4, .int .i64 4] 3))
        have HO7 := Lib.hid (HO5.out.keep (Grow.of_alloc w5 (.cells #[.int .i64 4, .int .i64 4, .int .i64 4] 3)))
        have HG7 : Hid (Grow w (w5.alloc (.cells #[.int .i64 4, .int .i64 4, .int .i64 4] 3))) := HG5.out.trans (Grow.of_alloc _ _)
        have HN7 := Lib.hid (HN5.out.alloc (.cells #[.int .i64 4, .int .i64 4, .int .i64 4] 3))
        generalize w5.alloc _ = w7 at HR7 HN7 HB7 HO7 HG7 ⊢
        generalize w5.heap.size = g5 at HR7 ⊢
        clear HB5 HO5 HG5 HN5
      case' B =>
        intro K hK
        go_simp
        refine hK _ _ (Grow.of_alloc _ _) ?_
        clear hK K
        have HR5 := Lib.hid (HSn.out _ _ (Blk.new w4 3 #[.int .i64 4, .int .i64 4, .int .i64 4]))
        have HB5 := Lib.hid (HB4.out.alloc (.cells #[.int .i64 4, .int .i64 4, .int .i64 4] 3))
        have HO5 := Lib.hid (HO4.out.keep (Grow.of_alloc w4 (.cells #[.int .i64 4, .int .i64 4, .int .i64 4] 3)))
        have HG5 : Hid (Grow w (w4.alloc (.cells #[.int .i64 4, .int .i64 4, .int .i64 4] 3))) := HG4.out.trans (Grow.of_alloc _ _)
        generalize w4.alloc _ = w5 at HR5  HB5 HO5 HG5 ⊢
        generalize w4.heap.size = g5 at HR5 ⊢
        clear HB4 HO4 HG4 
        refine tr_chain ?_
        refine chain_only rfl (by rfl) (fun K hK => ?_)
        go_simp
        refine hK _ _ (Grow.of_alloc _ _) ?_
        clear hK K
        have HN7 := Lib.hid (HFs.out _ _ (Blk.new w5 51 #[.int .u64 (n1 : Int), .int .u64 (n3 : Int), .int .u64 (typ : Int)] ))
        have HB7 := Lib.hid (HB5.out.alloc (.cells #[.int .u64 (n1 : Int), .int .u64 (n3 : Int), .int .u64 (typ : Int)] 51))
        have HO7 := Lib.hid (HO5.out.keep (Grow.of_alloc w5 (.cells #[.int .u64 (n1 : Int), .int .u64 (n3 : Int), .int .u64 (typ : Int)] 51)))
        have HG7 : Hid (Grow w (w5.alloc (.cells #[.int .u64 (n1 : Int), .int .u64 (n3 : Int), .int .u64 (typ : Int)] 51))) := HG5.out.trans (Grow.of_alloc _ _)
        have HR7 := Lib.hid (HR5.out.alloc (.cells #[.int .u64 (n1 : Int), .int .u64 (n3 : Int), .int .u64 (typ : Int)] 51))
        generalize w5.alloc _ = w7 at HN7 HR7 HB7 HO7 HG7 ⊢
        generalize w5.heap.size = g4 at HN7 ⊢
        clear HB5 HO5 HG5 HR5
      all_goals
        refine chain_only rfl (by rfl) (fun K hK => ?_)
        go_simp
        refine (row_any sq HRy.out _ 3 3 _ 3 3 big _ HN7.out HR7.out).mono ?_
        rintro e w8 ⟨A5, c5, rfl, ho8, hg8⟩
        refine hK _ _ hg8 ?_
        clear hK K
        have HB8 := Lib.hid (HB7.out.grow hg8)
        have HO8 := Lib.hid (HO7.out.keep hg8)
        have HP8 := Lib.hid ho8.rb
        have HG8 : Hid (Grow w w8) := HG7.out.trans hg8
        clear ho8 hg8 HB7 HO7 HN7 HR7 HG7 HFs HSn
        repeat (refine chain_take rfl (by rfl) ?_ (fun W hG => ?_) ?_; rotate_left; (go_simp; rfl); simp only [Act.put, List.setIfInBounds_toArray, List.set_cons_zero, List.set_cons_succ])
        refine chain_done (tr_done ?_)
        clear HRy
        rw [HHl.out] at HP8
        rw [HHl.out]
        generalize rowB big sq = H at HP8 HHl HPk HP1 HQ1 HP3 HQ3
        have HLPk : Hid ((P k).length + 12 + n1 + d1 + n3 + d3 = (P (k + 1)).length) := Lib.hid (by
          rw [HPk.out, HE1.out, HE3.out]
          simp only [List.length_append, List.length_replicate, HHl.out])
        have hlp : (P k).length + 12 + n1 + d1 + n3 + d3 ≤ 100000 := by rw [HLPk.out]; exact HLk.out
        obtain ⟨p0, hp0⟩ : ∃ p0, p0 = (P k).length := ⟨_, rfl⟩
        have HP0e := Lib.hid hp0
        rw [← hp0] at HO8 hlp HLPk
        rw [← hp0]
        clear hp0
        go_wp2_with fail
        refine wp_region_leap (leap_below (w.heap.size + 1)) [(0, true), (1, true), (3, true), (4, true), (5, true), (6, true), (7, true), (2, false), (8, false), (9, true)] (by kernel_rfl) (by kernel_rfl) (by kernel_rfl) ?_
        have HX : Hid (∀ W, Below (w.heap.size + 1) w8.drew W → W.cell? ⟨b, off + k * 3, none⟩ = some (.slice A1 n1 c1) ∧ W.cell? ⟨b, off + k * 3 + 1, none⟩ = some (.slice A3 n3 c3) ∧ W.cell? ⟨b, off + k * 3 + 2, none⟩ = some (.int .u32 (typ : Int))) := fun W hW => by
          have hg : Grow w W := (HG8.out.trans (Grow.of_drew _)).trans' (hW.mono (Nat.le_succ _))
          obtain ⟨h1, h2, h3⟩ := HCell.out
          exact ⟨by rw [hg.cell HbB.out]; exact h1, by rw [hg.cell HbB.out]; exact h2, by rw [hg.cell HbB.out]; exact h3⟩
        have HB9 := Lib.hid HB8.out.drew
        have HO9 : Hid (OB w8.drew _ _ _ _ _ _) := HO8.out
        have HP9 : Hid (RB w8.drew w8.drew.heap.size A5 12 c5 H) := Lib.hid HP8.out.drew
        have HG9 : Hid (Grow w w8.drew) := HG8.out.trans (Grow.of_drew _)
        generalize w8.drew = w9 at HX HB9 HO9 HP9 HG9 ⊢
        clear HO8 HB8 HG8 HP8
        repeat (refine chain_take rfl (by rfl) ?_ (fun W hG => ?_) ?_; rotate_left; (obtain ⟨q3, q4, q5⟩ := HX.out W hG; go_simp; rfl); simp only [Act.put, List.setIfInBounds_toArray, List.set_cons_zero, List.set_cons_succ])
        clear HX
        refine chain_only rfl (by rfl) (fun K hK => ?_)
        refine wp_appendB w9 (.tmp 43) (.tmp 44) 25 rfl (w.heap.size + 1) 5 Try.underlying25 (by kernel_rfl) A2 p0 c2 _ rfl HO9.out w9.heap.size A5 12 c5 _ rfl HP9.out (by omega) HB9.out.lt ?_
        intro A6 c6 w10 ho10 hb10
        refine hK _ _ hb10 ?_
        clear hK K
        have HO10 := Lib.hid ho10
        have HB10 := Lib.hid (HB9.out.below hb10 (Nat.lt_succ_self _))
        have HG10 : Hid (Grow w w10) := HG9.out.trans' (hb10.mono (Nat.le_succ _))
        clear ho10 hb10 HO9 HP9 HB9 HG9
        refine chain_only rfl (by rfl) (fun K hK => ?_)
        refine wp_appendB w10 (.tmp 45) (.tmp 50) 25 rfl (w.heap.size + 1) 5 Try.underlying25 (by kernel_rfl) A6 (p0 + 12) c6 _ rfl HO10.out w.heap.size A1 n1 c1 _ rfl (HR1.out.belowAt HG10.out (Nat.le_refl _)) (by omega) HB10.out.lt ?_
        intro A7 c7 w11 ho11 hb11
        refine hK _ _ hb11 ?_
        clear hK K
        have HO11 := Lib.hid ho11
        have HB11 := Lib.hid (HB10.out.below hb11 (Nat.lt_succ_self _))
        have HG11 : Hid (Grow w w11) := HG10.out.trans' (hb11.mono (Nat.le_succ _))
        clear ho11 hb11 HO10 HB10 HG10
        repeat (refine chain_take rfl (by rfl) ?_ (fun W hG => ?_) ?_; rotate_left; (go_simp; rfl); simp only [Act.put, List.setIfInBounds_toArray, List.set_cons_zero, List.set_cons_succ])
        refine chain_done ?_
        have HQl : Hid ((P k ++ H ++ name).length = p0 + 12 + n1) := Lib.hid (by rw [HP0e.out, HE1.out]; simp only [List.length_append, HHl.out])
        generalize P k ++ H ++ name = Q1 at HO11 HPk HP1 HQ1 HP3 HQ3 HQl
        rw [HQl.out] at HP1 HQ1
        obtain ⟨N1, hN1⟩ : ∃ N1, N1 = p0 + 12 + n1 := ⟨_, rfl⟩
        rw [← hN1] at HO11 HP1 HQ1 HQl
        rw [← hN1]
        have HN1 : Hid (N1 ≤ 100000 ∧ N1 + d1 + n3 + d3 = (P (k + 1)).length) := Lib.hid (by have := HLPk.out; omega)
        clear hN1 hlp HLPk HQl HHl HP0e
        go_wp2_with fail
        go_loopw [5] (fun x wr => ∃ (j : Nat) (A2 : Option Addr) (c2 : Nat), j ≤ d1 ∧ x = .slice A2 (N1 + j) c2 ∧ OB wr (w.heap.size + 1) 5 A2 (N1 + j) c2 (Q1 ++ List.replicate j 0) ∧
          Blk wr w.heap.size 24 #[.bool wide, .bool big] ∧ Grow w wr) (fun x _ => N1 + d1 - sliceLen x)
        case atStart => exact ⟨0, _, _, Nat.zero_le _, rfl, by simpa using HO11.out, HB11.out, HG11.out⟩
        case round =>
          obtain ⟨j, A8, c8, hj, rfl, ho, hbf, hg⟩ := hrel
          have HO := Lib.hid ho
          have HB := Lib.hid hbf
          have HG := Lib.hid hg
          clear ho hbf hg HO11 HB11 HG11
          by_cases hlj : j < d1
          · have hM0 : ¬ (N1 + j) % 4 = 0 := fun h => by have := HP1.out j hj h; omega
            obtain ⟨M, hM⟩ : ∃ M, M = N1 + j := ⟨_, rfl⟩
            rw [← hM] at HO hM0
            rw [← hM]
            have hM9 : M ≤ 200000 := by have := HN1.out.1; omega
            have y0 : (((M : Int) % 4) != 0) = true := by rw [bne_iff_ne]; omega
            have HMe := Lib.hid hM
            clear hM hM0
            have HRl := Lib.hid (RB.lit wr 5 [0] (by decide))
            have HOl := Lib.hid (HO.out.alloc (.cells #[.int .u8 0] 5))
            have HBl := Lib.hid (HB.out.alloc (.cells #[.int .u8 0] 5))
            have HGl : Hid (Grow w (wr.alloc (.cells #[.int .u8 0] 5))) := HG.out.trans (Grow.of_alloc _ _)
            go_wp2_with (refine wpList_appendB (wr.alloc (.cells #[.int .u8 0] 5)) rfl (.tmp 56) (.tmp 57) 25 rfl (w.heap.size + 1) 5 Try.underlying25 (by kernel_rfl) A8 M c8 _ rfl HOl.out (wr.heap.size + 1) (some ⟨wr.heap.size, 0, none⟩) 1 1 [0] rfl HRl.out (by omega) HBl.out.lt ?_; intro A9 c9 w12 ho12 hb12; refine Hid.out ?_)
            have HB12 := Lib.hid (HBl.out.below hb12 (Nat.lt_succ_self _))
            have HG12 : Hid (Grow w w12) := HGl.out.trans' (hb12.mono (Nat.le_succ _))
            have eM : M + 1 = N1 + (j + 1) := by have := HMe.out; omega
            have eR : Q1 ++ List.replicate j (0 : UInt8) ++ [0] = Q1 ++ List.replicate (j + 1) 0 := by rw [List.append_assoc, ← List.replicate_succ']
            rw [eM, eR] at ho12
            rw [eM]
            have HO12 := Lib.hid ho12
            have HL12 : Hid (N1 + d1 - (N1 + (j + 1)) < N1 + d1 - M) := Lib.hid (by have := HMe.out; omega)
            clear ho12 hb12 HBl HGl HOl HRl HO HB HG y0 eM eR
            refine Lib.hid ?_
            go_wp2
            go_roundw
            case rel => exact ⟨j + 1, A9, c9, by omega, rfl, HO12.out, HB12.out, HG12.out⟩
            case measure => exact HL12.out
          · obtain rfl : j = d1 := by omega
            obtain ⟨M, hM⟩ : ∃ M, M = N1 + j := ⟨_, rfl⟩
            have hM0 : M % 4 = 0 := by rw [hM]; exact HQ1.out
            have hN2 : M + n3 + d3 = (P (k + 1)).length ∧ M + n3 + d3 ≤ 100000 := by have := HN1.out.2; have := HLk.out; omega
            rw [← hM] at HO
            rw [← hM]
            have hM9 : M ≤ 200000 := by omega
            have y0 : (((M : Int) % 4) != 0) = false := by rw [bne_eq_false_iff_eq]; omega
            have y4 : wr.cell? ⟨b, off + k * 3 + 1, none⟩ = some (.slice A3 n3 c3) := by rw [HG.out.cell HbB.out]; exact HCell.out.2.1
            generalize Q1 ++ List.replicate j (0 : UInt8) = Q2' at HO HPk HP3 HQ3
            have HN2' := Lib.hid hN2
            have hn3' : n3 ≤ 100000 := by omega
            clear hM hM0 hN2 HN1 HQ1 HP1
            go_wp2_with (refine wpList_appendB wr rfl (.tmp 59) (.tmp 64) 25 rfl (w.heap.size + 1) 5 Try.underlying25 (by kernel_rfl) A8 M c8 _ rfl HO.out w.heap.size A3 n3 c3 _ rfl (HR3.out.belowAt HG.out (Nat.le_refl _)) (by omega) HB.out.lt ?_; intro A9 c9 w12 ho12 hb12; refine Hid.out ?_)
            have HB12 := Lib.hid (HB.out.below hb12 (Nat.lt_succ_self _))
            have HG12 : Hid (Grow w w12) := HG.out.trans' (hb12.mono (Nat.le_succ _))
            have HO12 := Lib.hid ho12
            have hl12 := ho12.len
            generalize Q2' ++ desc = Q2 at HO12 HPk HP3 HQ3 hl12
            rw [← hl12] at HP3 HQ3
            have HN2 : Hid (M + n3 ≤ 100000 ∧ M + n3 + d3 = (P (k + 1)).length) := Lib.hid ⟨by have := HN2'.out; omega, HN2'.out.1⟩
            generalize M + n3 = N2 at HO12 HP3 HQ3 HN2 ⊢
            clear ho12 hb12 hl12 HN2' HO HB HG y0 y4 hM9
            refine Lib.hid ?_
            go_wp2_with fail
            go_loopw [5] (fun x wr => ∃ (j : Nat) (A2 : Option Addr) (c2 : Nat), j ≤ d3 ∧ x = .slice A2 (N2 + j) c2 ∧ OB wr (w.heap.size + 1) 5 A2 (N2 + j) c2 (Q2 ++ List.replicate j 0) ∧
              Blk wr w.heap.size 24 #[.bool wide, .bool big] ∧ Grow w wr) (fun x _ => N2 + d3 - sliceLen x)
            case atStart => exact ⟨0, _, _, Nat.zero_le _, rfl, by simpa using HO12.out, HB12.out, HG12.out⟩
            case round =>
              obtain ⟨j, A8, c8, hj, rfl, ho, hbf, hg⟩ := hrel
              have HO := Lib.hid ho
              have HB := Lib.hid hbf
              have HG := Lib.hid hg
              clear ho hbf hg HO12 HB12 HG12
              by_cases hlj : j < d3
              · have hM0 : ¬ (N2 + j) % 4 = 0 := fun h => by have := HP3.out j hj h; omega
                obtain ⟨M, hM⟩ : ∃ M, M = N2 + j := ⟨_, rfl⟩
                rw [← hM] at HO hM0
                rw [← hM]
                have hM9 : M ≤ 200000 := by have := HN2.out.1; omega
                have y0 : (((M : Int) % 4) != 0) = true := by rw [bne_iff_ne]; omega
                have HMe := Lib.hid hM
                clear hM hM0
                have HRl := Lib.hid (RB.lit wr 5 [0] (by decide))
                have HOl := Lib.hid (HO.out.alloc (.cells #[.int .u8 0] 5))
                have HBl := Lib.hid (HB.out.alloc (.cells #[.int .u8 0] 5))
                have HGl : Hid (Grow w (wr.alloc (.cells #[.int .u8 0] 5))) := HG.out.trans (Grow.of_alloc _ _)
                go_wp2_with (refine wpList_appendB (wr.alloc (.cells #[.int .u8 0] 5)) rfl (.tmp 70) (.tmp 71) 25 rfl (w.heap.size + 1) 5 Try.underlying25 (by kernel_rfl) A8 M c8 _ rfl HOl.out (wr.heap.size + 1) (some ⟨wr.heap.size, 0, none⟩) 1 1 [0] rfl HRl.out (by omega) HBl.out.lt ?_; intro A9 c9 w12 ho12 hb12; refine Hid.out ?_)
                have HB12 := Lib.hid (HBl.out.below hb12 (Nat.lt_succ_self _))
                have HG12 : Hid (Grow w w12) := HGl.out.trans' (hb12.mono (Nat.le_succ _))
                have eM : M + 1 = N2 + (j + 1) := by have := HMe.out; omega
                have eR : Q2 ++ List.replicate j (0 : UInt8) ++ [0] = Q2 ++ List.replicate (j + 1) 0 := by rw [List.append_assoc, ← List.replicate_succ']
                rw [eM, eR] at ho12
                rw [eM]
                have HO12 := Lib.hid ho12
                have HL12 : Hid (N2 + d3 - (N2 + (j + 1)) < N2 + d3 - M) := Lib.hid (by have := HMe.out; omega)
                clear ho12 hb12 HBl HGl HOl HRl HO HB HG y0 eM eR
                refine Lib.hid ?_
                go_wp2
                go_roundw
                case rel => exact ⟨j + 1, A9, c9, by omega, rfl, HO12.out, HB12.out, HG12.out⟩
                case measure => exact HL12.out
              · obtain rfl : j = d3 := by omega
                obtain ⟨M, hM⟩ : ∃ M, M = N2 + j := ⟨_, rfl⟩
                have hM0 : M % 4 = 0 := by rw [hM]; exact HQ3.out
                have eL : M = (P (k + 1)).length := by have := HN2.out.2; omega
                rw [← hM] at HO
                rw [← hM]
                have hM9 : M ≤ 200000 := by have := HN2.out; omega
                have y0 : (((M : Int) % 4) != 0) = false := by rw [bne_eq_false_iff_eq]; omega
                have HEL := Lib.hid eL
                rw [← HPk.out] at HO
                have HPl : Hid (OB wr (w.heap.size + 1) 5 A8 (P (k + 1)).length c8 (P (k + 1))) := Lib.hid (by have := HO.out; rwa [HEL.out] at this)
                clear hM hM0 eL HO
                go_wp2
                go_roundw
                case rel => exact ⟨k + 1, A8, c8, by omega, by go_num, by rw [HEL.out], HPl.out, HB.out, HG.out⟩
                case measure => simp [intOf]; omega
    · have e : k = n := by omega
      rw [e, HPn.out] at HO
      rw [e, HPn.out]
      have HO' := Lib.hid (HO.out.mono (Nat.le_succ w.heap.size))
      go_wp2
      go_ret
      exact ⟨A2, c2, rfl, HO'.out, HG.out⟩
end Go.Proofs.Ytheekcjpphcihaa
