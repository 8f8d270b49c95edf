/-
  The contract of note.Put: any notes' bytes, in new memory.
-/
import Derived.Test.YtheekcjpphcihaaNtLay
import Derived.Test.YtheekcjpphcihaaWirePut
import Derived.Test.YtheekcjpphcihaaForm
namespace Go.Proofs.Ytheekcjpphcihaa
open Go.RowKit

/-- What Put answers. -/
def NPut (L : List Nt) (big : Bool) (w : World) (e : Ending) (w' : World) : Prop :=
  ∃ A c, e = .returned (.slice A (ntsB big L).length c) ∧ OB w' w.heap.size 5 A (ntsB big L).length c (ntsB big L) ∧ Grow w w'

/-- What is known of note k while its bytes are laid. -/
theorem nt_each {w : World} {B : Nat} {A : Option Addr} {n c : Nat} {L : List Nt} (h : ZN w B A n c L) (hok : ∀ s ∈ L, s.Ok) (big : Bool) (hb : (ntsB big L).length ≤ 100000) :
    ∃ R, ZS w B 3 A n c R ∧ ∀ k, k < n → ∃ (s : Nt) (A1 : Option Addr) (n1 c1 : Nat) (A2 : Option Addr) (n2 c2 : Nat), s.typ < 4294967296 ∧ n1 = s.name.length ∧ n2 = s.desc.length ∧ fil n1 ≤ 100000 ∧ fil n2 ≤ 100000 ∧
      (∃ hR : k < R.length, R[k] = #[.slice A1 n1 c1, .slice A2 n2 c2, .int .u32 (s.typ : Int)]) ∧ RB w B A1 n1 c1 s.name ∧ RB w B A2 n2 c2 s.desc ∧
      ntP L big (k + 1) = ntP L big k ++ s.H big ++ partB s.name ++ partB s.desc := by
  obtain ⟨R, hs, hrow⟩ := h.row
  refine ⟨R, hs, fun k hk => ?_⟩
  have hkl : k < L.length := by rw [← h.len]; exact hk
  obtain ⟨hR, A1, n1, c1, A2, n2, c2, e1, r1, r2⟩ := hrow k hkl
  have hp := ntP_succ L big k hkl
  have hle := ntP_le L big (k + 1)
  rw [hp, List.length_append, Nt.lenB, Nt.size] at hle
  have l1 := r1.len
  have l2 := r2.len
  refine ⟨L[k], A1, n1, c1, A2, n2, c2, (hok _ (List.getElem_mem hkl)).typ, l1, l2, by rw [l1]; omega, by rw [l2]; omega, ⟨hR, e1⟩, r1, r2, ?_⟩
  rw [hp, Nt.B]
  simp only [List.append_assoc]

theorem Nt.Q_len (s : Nt) : s.Q.length = 3 := rfl
theorem Nt.Q_at (s : Nt) (ok : s.name.length < 18446744073709551616 ∧ s.desc.length < 18446744073709551616 ∧ s.typ < 18446744073709551616) : ∀ j (_ : j < 3) (hq : j < s.Q.length), s.Q[j].2 = 4 ∧ s.Q[j].1 < 18446744073709551616 ∧
    (#[.int .u64 (s.name.length : Int), .int .u64 (s.desc.length : Int), .int .u64 (s.typ : Int)] : Array Value)[j]? = some (.int .u64 (s.Q[j].1 : Int))
  | 0, _, _ => ⟨rfl, ok.1, rfl⟩
  | 1, _, _ => ⟨rfl, ok.2.1, rfl⟩
  | 2, _, _ => ⟨rfl, ok.2.2, rfl⟩

set_option maxHeartbeats 1000000 in
theorem nPut_any (A : Option Addr) (n c : Nat) (L : List Nt) (hok : ∀ s ∈ L, s.Ok) (wide big : Bool) (hb : (ntsB big L).length ≤ 100000) (w : World) (h : ZN w w.heap.size A n c L) :
    Calls Try.prog 11 #[.slice A n c, .agg #[.bool wide, .bool big]] w (NPut L big w) := by
  have hn := h.len
  have hcp := h.cap
  have hmx := h.max
  unfold maxLen at hmx
  obtain ⟨R, hs, hk⟩ := nt_each h hok big hb
  have HS := Lib.hid hs
  have HK := Lib.hid hk
  have HPl : Hid (∀ k, (ntP L big k).length ≤ 100000) := Lib.hid (fun k => Nat.le_trans (ntP_le L big k) hb)
  have HP0 : Hid (ntP L big 0 = []) := Lib.hid rfl
  have HPn : Hid (ntP L big n = ntsB big L) := Lib.hid (ntP_all L big n (by omega))
  unfold NPut
  generalize ntP L big = P at HK HPl HP0 HPn
  generalize ntsB big L = PL at HPn hb ⊢
  clear hs hk h hok hn
  go_enter Try.func11, Try.ntmps11
  go_wp2_with fail
  generalize hW : World.alloc _ _ = W0
  obtain ⟨bf, hg0⟩ := blk1 hW
  clear hW
  have HBF0 := Lib.hid bf
  have HG0 := Lib.hid hg0
  clear bf hg0
  go_loopw [5, 12] (fun x i wr => ∃ (k : Nat) (A2 : Option Addr) (c2 : Nat), k ≤ n ∧ i = .int .i64 k ∧ x = .slice A2 (P k).length c2 ∧ OB wr (w.heap.size + 1) 5 A2 (P k).length c2 (P k) ∧
    Blk wr w.heap.size 24 #[.bool wide, .bool big] ∧ Grow w wr) (fun _ i _ => n - (intOf i).toNat)
  case atStart => exact ⟨0, none, 0, Nat.zero_le _, rfl, by rw [HP0.out]; rfl, by rw [HP0.out]; exact OB.nil, HBF0.out, HG0.out⟩
  case round =>
    obtain ⟨k, A2, c2, hk, rfl, rfl, ho, hbf, hg⟩ := hrel
    have HO := Lib.hid ho
    have HBF := Lib.hid hbf
    have HG := Lib.hid hg
    clear ho hbf hg HBF0 HG0
    by_cases hlt : k < n
    · obtain ⟨b, off', rfl, -, -⟩ := HS.out.pos (by omega)
      have HSw := Lib.hid (HS.out.belowAt HG.out (Nat.le_refl _))
      obtain ⟨s, A1, n1, c1, A3, n3, c3, ht, e1, e3, f1, f3, ⟨hR, hRk⟩, r1, r3, hPk⟩ := HK.out k hlt
      have h1 := fil_ge n1
      have h3 := fil_ge n3
      have HkM := Lib.hid hR
      have HRk : Hid (∀ h : k < R.length, R[k] = #[.slice A1 n1 c1, .slice A3 n3 c3, .int .u32 (s.typ : Int)]) := Lib.hid (fun _ => hRk)
      have HC1 : Hid ((#[.slice A1 n1 c1, .slice A3 n3 c3, .int .u32 (s.typ : Int)] : Array Value).all (·.oneCell') = true) := Lib.hid (by simp [Value.oneCell'])
      have HR1 := Lib.hid r1
      have HR3 := Lib.hid r3
      have HPk := Lib.hid hPk
      have HLe := Lib.hid (HPl.out (k + 1))
      have hq := s.Q_at ⟨by omega, by omega, by omega⟩
      rw [← e1, ← e3] at hq
      have HQ := Lib.hid hq
      have HQl := Lib.hid s.Q_len
      have HH : Hid (s.H big = rowB big s.Q) := Lib.hid rfl
      have HHl := Lib.hid (s.lenH big)
      rw [HH.out] at HHl HPk
      generalize s.Q = q at HQ HQl HH HHl HPk
      obtain ⟨name, desc, typ⟩ := s
      simp only [] at ht e1 e3 HRk HC1 HR1 HR3 HPk HQ
      have HNl := Lib.hid (partB_len name)
      have HDl := Lib.hid (partB_len desc)
      rw [← e1] at HNl
      rw [← e3] at HDl
      clear hR hRk r1 r3 hPk hq HH e1 e3
      have z0 : (0 : Int) ≤ (k : Int) := by omega
      have z1 : (k : Int) < (n : Int) := by omega
      go_wp2_with (first | (refine wpList_load_zs HSw.out HkM.out rfl 41 (.tmp 14) rfl rfl _ Try.underlying41 rfl (by kernel_rfl) _ (HRk.out _) ?_) | (refine wpList_store_row rfl 41 (.tmp 7) (.tmp 15) rfl wr.heap.size _ rfl rfl _ _ (Blk.new _ _ _) (by kernel_rfl) rfl HC1.out ?_; rw [World.setRow_alloc_new]; refine Hid.out ?_))
      generalize hW : World.alloc _ _ = w3
      obtain ⟨br, hg3⟩ := blk1 hW
      have HNe : Hid (own A2 ≠ some wr.heap.size) := Lib.hid (HO.out.ne (.inr (Nat.le_refl _)))
      have HO3 := Lib.hid (HO.out.keep hg3)
      have HBF3 := Lib.hid (HBF.out.grow hg3)
      have HBR3 := Lib.hid br
      have HG3 : Hid (Grow w w3) := HG.out.trans hg3
      have HD3 : Hid (w.heap.size < wr.heap.size) := HBF.out.lt
      generalize wr.heap.size = g8 at HNe HBR3 HD3 ⊢
      clear hW hg3 br HO HBF HG HSw HkM HRk HC1 z0 z1
      refine Lib.hid (wpList_nil ?_)
      unfold Exit.then
      apply_assumption
      have y0 := HBR3.out.at 0
      have y1 := HBR3.out.at 1
      have y2 := HBR3.out.at 2
      simp at y0 y1 y2
      have x1 : IntKind.u64.wrap (n1 : Int) = (n1 : Int) := by rw [IntKind.wrap_u64]; omega
      have x2 : IntKind.u64.wrap (n3 : Int) = (n3 : Int) := by rw [IntKind.wrap_u64]; omega
      have x3 : IntKind.u64.wrap (typ : Int) = (typ : Int) := by rw [IntKind.wrap_u64]; omega
      go_wp2_with fail
      clear y0 y1 y2 x1 x2 x3
      have HN4 := Lib.hid (Blk.new w3 51 #[.int .u64 (n1 : Int), .int .u64 (n3 : Int), .int .u64 (typ : Int)])
      have HNf : Hid (own A2 ≠ some w3.heap.size) := Lib.hid (HO3.out.ne (.inr (Nat.le_refl _)))
      have HO4 := Lib.hid (HO3.out.keep (Grow.of_alloc w3 (.cells #[.int .u64 (n1 : Int), .int .u64 (n3 : Int), .int .u64 (typ : Int)] 51)))
      have HBF4 := Lib.hid (HBF3.out.alloc (.cells #[.int .u64 (n1 : Int), .int .u64 (n3 : Int), .int .u64 (typ : Int)] 51))
      have HBR4 := Lib.hid (HBR3.out.alloc (.cells #[.int .u64 (n1 : Int), .int .u64 (n3 : Int), .int .u64 (typ : Int)] 51))
      have HG4 : Hid (Grow w (w3.alloc (.cells #[.int .u64 (n1 : Int), .int .u64 (n3 : Int), .int .u64 (typ : Int)] 51))) := HG3.out.trans (Grow.of_alloc _ _)
      generalize w3.alloc _ = w4 at HN4 HO4 HBF4 HBR4 HG4 ⊢
      generalize w3.heap.size = g9 at HN4 HNf ⊢
      have HRN : Hid (∀ j (_ : j < 3) (hq : j < q.length) (W : World), Blk W g9 51 #[.int .u64 (n1 : Int), .int .u64 (n3 : Int), .int .u64 (typ : Int)] → W.cell? ⟨g9, j, none⟩ = some (.int .u64 (q[j].1 : Int))) := Lib.hid (fun j hj hq W hW => (hW.at j).trans (HQ.out j hj hq).2.2)
      generalize (#[.int .u64 (n1 : Int), .int .u64 (n3 : Int), .int .u64 (typ : Int)] : Array Value) = RN at HN4 HRN
      clear HO3 HBF3 HBR3 HG3
      have HPq : Hid (∀ j, j ≤ 3 → (P k ++ rowB big (q.take j)).length ≤ 200000) := Lib.hid (fun j hj => by
        have h1 : (rowB big (q.take j)).length ≤ (rowB big q).length := by
          have e : rowB big q = rowB big (q.take j) ++ rowB big (q.drop j) := by rw [← rowB_append, List.take_append_drop]
          rw [e, List.length_append]; omega
        have h2 := HPl.out k
        have h3 := HHl.out
        rw [List.length_append]
        omega)
      have HP0q : Hid (P k ++ rowB big (q.take 0) = P k) := Lib.hid (by simp [rowB])
      have HP3q : Hid (P k ++ rowB big (q.take 3) = P k ++ rowB big q) := Lib.hid (by rw [← HQl.out, List.take_length])
      have HPs : Hid (∀ j (hq : j < q.length), P k ++ rowB big (q.take (j + 1)) = (P k ++ rowB big (q.take j)) ++ putB q[j].1 q[j].2 big) := Lib.hid (fun j hq => by rw [rowB_succ big q j hq, List.append_assoc])
      go_loopw [5, 29] (fun x i wr => ∃ (j : Nat) (A2 : Option Addr) (c2 : Nat), j ≤ 3 ∧ i = .int .i64 j ∧ x = .slice A2 (P k ++ rowB big (q.take j)).length c2 ∧ OB wr (w.heap.size + 1) 5 A2 (P k ++ rowB big (q.take j)).length c2 (P k ++ rowB big (q.take j)) ∧
        own A2 ≠ some g8 ∧ own A2 ≠ some g9 ∧ Blk wr w.heap.size 24 #[.bool wide, .bool big] ∧ Blk wr g8 41 #[.slice A1 n1 c1, .slice A3 n3 c3, .int .u32 (typ : Int)] ∧ Blk wr g9 51 RN ∧ Grow w wr) (fun _ i _ => 3 - (intOf i).toNat)
      case atStart => exact ⟨0, A2, c2, by omega, rfl, by rw [HP0q.out], by rw [HP0q.out]; exact HO4.out, HNe.out, HNf.out, HBF4.out, HBR4.out, HN4.out, HG4.out⟩
      case round =>
        obtain ⟨j, A2, c2, hj, rfl, rfl, ho, ha8, ha9, hbf, hbr, hbn, hg⟩ := hrel
        have HO := Lib.hid ho
        have HA8 := Lib.hid ha8
        have HA9 := Lib.hid ha9
        have HBF := Lib.hid hbf
        have HBR := Lib.hid hbr
        have HBN := Lib.hid hbn
        have HG := Lib.hid hg
        clear ho ha8 ha9 hbf hbr hbn hg HO4 HNe HNf HBF4 HBR4 HN4 HG4
        by_cases hlj : j < 3
        · have hkq : j < q.length := by rw [HQl.out]; omega
          have y0 := HRN.out j hlj hkq _ HBN.out
          have HPs1 := Lib.hid (HPs.out j hkq)
          obtain ⟨hq2, hq1, -⟩ := HQ.out j hlj hkq
          rw [hq2] at HPs1
          have HLq := Lib.hid (HPq.out j hj)
          generalize q[j].1 = v at y0 HPs1 hq1
          have HXf : Hid (∃ X, X = P k ++ rowB big (q.take j)) := Lib.hid ⟨_, rfl⟩
          obtain ⟨X, hX⟩ := HXf.out
          rw [← hX] at HO HLq HPs1
          rw [← hX]
          clear hX HXf
          have y1 := HBF.out.at 1
          simp at y1
          clear hkq hq2
          go_wp2_with fail
          clear y0 y1
          refine (put_wide v 4 big _ rfl (by omega)).mono ?_
          rintro e w5 ⟨A5, c5, rfl, ho3, hb3⟩
          rw [Int.toNat_natCast] at ho3
          have HP5 := Lib.hid ho3
          have HO5 := Lib.hid (HO.out.keep hb3)
          have HBF5 := Lib.hid (HBF.out.grow hb3)
          have HBR5 := Lib.hid (HBR.out.grow hb3)
          have HBN5 := Lib.hid (HBN.out.grow hb3)
          have HG5 : Hid (Grow w w5) := HG.out.trans hb3
          clear ho3 hb3 HO HBF HBR HBN HG
          go_wp2_with (refine wpList_appendS w5 rfl (.tmp 33) (.tmp 37) 25 rfl (w.heap.size + 1) 5 Try.underlying25 (by kernel_rfl) A2 _ c2 _ rfl HO5.out w5.heap.size A5 4 c5 _ rfl HP5.out.rb (by have := HLq.out; omega) HBF5.out.lt ?_; intro A6 c6 w6 ho6 hb6 hk6 hn6; refine Hid.out ?_)
          have HL6 := Left.of_append hb6.size hk6 hn6
          obtain ⟨hbf6, -⟩ := HL6.blk (HO5.out.ne (.inl (Nat.lt_succ_self _))) HBF5.out
          obtain ⟨hbr6, ha86⟩ := HL6.blk HA8.out HBR5.out
          obtain ⟨hbn6, ha96⟩ := HL6.blk HA9.out HBN5.out
          have hm : X.length + 4 = (P k ++ rowB big (q.take (j + 1))).length := by rw [HPs1.out, List.length_append, length_putB]
          rw [hm, ← HPs1.out] at ho6
          rw [hm]
          have HO6 := Lib.hid ho6
          have HBF6 := Lib.hid hbf6
          have HBR6 := Lib.hid hbr6
          have HBN6 := Lib.hid hbn6
          have HA86 := Lib.hid ha86
          have HA96 := Lib.hid ha96
          have HG6 : Hid (Grow w w6) := HG5.out.trans' (hb6.mono (Nat.le_succ _))
          clear ho6 hb6 hk6 hn6 HL6 hbf6 hbr6 hbn6 ha86 ha96 hm HO5 HP5 HBF5 HBR5 HBN5 HG5 HA8 HA9
          refine Lib.hid ?_
          go_wp2
          go_roundw
          case rel => exact ⟨j + 1, A6, c6, by omega, by go_num, rfl, HO6.out, HA86.out, HA96.out, HBF6.out, HBR6.out, HBN6.out, HG6.out⟩
          case measure => simp [intOf]; omega
        · obtain rfl : j = 3 := by omega
          rw [HP3q.out] at HO
          rw [HP3q.out]
          have HLq : Hid ((P k ++ rowB big q).length + (fil n1 + fil n3) = (P (k + 1)).length) := Lib.hid (by
            rw [HPk.out]
            simp only [List.length_append, HNl.out, HDl.out]
            omega)
          have HLq2 : Hid ((P k ++ rowB big q).length ≤ 200000) := Lib.hid (by have := HLq.out; have := HLe.out; omega)
          generalize P k ++ rowB big q = Q at HO HLq HLq2 HPk ⊢
          have y0 := HBR.out.at 0
          simp at y0
          clear HPq HP0q HP3q HPs HRN HQ
          go_wp2_with fail
          clear y0
          refine (lay_any (w.heap.size + 1) A2 Q.length c2 Q w.heap.size A1 n1 c1 name _ HO.out (HR1.out.belowAt HG.out (Nat.le_refl _)) HBF.out.lt (by have := HLq2.out; omega) (by omega)).mono ?_
          rintro e w5 ⟨A5, c5, rfl, ho5, hb5, hl5⟩
          obtain ⟨hbf5, -⟩ := hl5.blk (HO.out.ne (.inl (Nat.lt_succ_self _))) HBF.out
          obtain ⟨hbr5, -⟩ := hl5.blk HA8.out HBR.out
          have HO5 := Lib.hid ho5
          have HBF5 := Lib.hid hbf5
          have HBR5 := Lib.hid hbr5
          have HG5 : Hid (Grow w w5) := HG.out.trans' (hb5.mono (Nat.le_succ _))
          clear ho5 hb5 hl5 hbf5 hbr5 HO HBF HBR HBN HG HA8 HA9
          have y1 := HBR5.out.at 1
          simp at y1
          go_wp2_with fail
          clear y1
          refine (lay_any (w.heap.size + 1) A5 (Q.length + fil n1) c5 _ w.heap.size A3 n3 c3 desc _ HO5.out (HR3.out.belowAt HG5.out (Nat.le_refl _)) HBF5.out.lt (by have := HLq2.out; omega) (by omega)).mono ?_
          rintro e w6 ⟨A6, c6, rfl, ho6, hb6, hl6⟩
          obtain ⟨hbf6, -⟩ := hl6.blk (HO5.out.ne (.inl (Nat.lt_succ_self _))) HBF5.out
          rw [Nat.add_assoc, HLq.out, ← HPk.out] at ho6
          rw [Nat.add_assoc, HLq.out]
          have HO6 := Lib.hid ho6
          have HBF6 := Lib.hid hbf6
          have HG6 : Hid (Grow w w6) := HG5.out.trans' (hb6.mono (Nat.le_succ _))
          clear ho6 hb6 hl6 hbf6 HO5 HBF5 HBR5 HG5
          go_wp2
          go_roundw
          case rel => exact ⟨k + 1, A6, c6, by omega, by go_num, rfl, HO6.out, HBF6.out, HG6.out⟩
          case measure => simp [intOf]; omega
    · have e : k = n := by omega
      rw [e, HPn.out] at HO
      rw [e, HPn.out]
      have HO' := Lib.hid (HO.out.mono (Nat.le_succ w.heap.size))
      go_wp2
      go_ret
      exact ⟨A2, c2, rfl, HO'.out, HG.out⟩
end Go.Proofs.Ytheekcjpphcihaa
