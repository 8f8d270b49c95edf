/-
  The contract of model.checkSegs: what is wrong first with the segments.
-/
import Derived.Test.YthebemikhjglbaaMdSeg
import Derived.Test.YthebemikhjglbaaRoom
namespace Go.Proofs.Ythebemikhjglbaa
open Go.RowKit

theorem loads_le (l : List Sg) : (loads l).length ≤ l.length := by
  induction l with
  | nil => simp [loads]
  | cons a r ih =>
    have : loads (a :: r) = loadOf a ++ loads r := by simp [loads]
    rw [this, List.length_append, List.length_cons]
    have : (loadOf a).length ≤ 1 := by unfold loadOf; split <;> simp
    omega
theorem loads_lt {l : List Sg} (ok : ∀ s ∈ l, s.Ok) : ∀ x ∈ loads l, x.1 < 18446744073709551616 ∧ x.2 < 18446744073709551616 := fun x hx => by
  obtain ⟨s, hs, _, rfl⟩ := mem_loads hx
  exact ⟨(ok s hs).vaddr, (ok s hs).memsz⟩

set_option maxRecDepth 100000 in
set_option maxHeartbeats 2000000 in
theorem mSegs_any (m : Md) (ok : m.Ok) (A1 A2 : Option Addr) (n1 c1 n2 c2 : Nat) (w : World) (g1 : ZR sgK w w.heap.size A1 n1 c1 m.segs) (hn : n1 ≤ 16) :
    Calls Try.prog 20 #[.agg (mdC m (.slice A1 n1 c1) (.slice A2 n2 c2))] w fun e w' => e = .returned (eC m.segsC) ∧ Grow w w' := by
  have HS := Lib.hid (fun (s : Sg) (ok : s.Ok) (A : Option Addr) (n c : Nat) (w' : World) (hg : Grow w w') (g : RB w' w'.heap.size A n c s.pl.own) => mSeg_any m A1 A2 n1 c1 n2 c2 s ok A n c w' (g1.grow hg) g)
  obtain ⟨x0, x1, x2, x3, x4, x5, x6, x7, x9, x10, hC⟩ := mdC_cells m (.slice A1 n1 c1) (.slice A2 n2 c2)
  rw [hC] at HS ⊢
  have hcm := g1.max
  have hcc := g1.cap
  have HL := Lib.hid g1.len
  have HZ := Lib.hid g1
  have HOk := Lib.hid ok.segs
  have E : Hid (m.segsC = if fstC m.segC m.segs = 0 then (if rises (loads m.segs) then 0 else 7) else fstC m.segC m.segs) := Lib.hid rfl
  generalize m.segsC = C at E ⊢
  generalize m.segs = L at HL HZ HOk E
  clear hC g1 ok
  unfold maxLen at hcm
  go_enter Try.func20, Try.ntmps20
  go_wp2_with fail
  generalize hW : World.alloc _ _ = W0
  obtain ⟨b1, hg0⟩ := blk1 hW
  clear hW
  have HB1 := Lib.hid b1
  have HG0 := Lib.hid hg0
  have y8 := b1.at 8
  clear b1 hg0
  go_wp2_with fail
  clear y8
  go_loopw [3, 10] (fun x i wr => ∃ (k : Nat) (A : Option Addr) (c : Nat), k ≤ n1 ∧ i = .int .i64 k ∧ x = .slice A (loads (L.take k)).length c ∧ ZO wr W0.heap.size 79 2 A (loads (L.take k)).length c ((loads (L.take k)).map spC) ∧
    (∀ s ∈ L.take k, m.segC s = 0) ∧ Grow W0 wr) (fun _ i _ => n1 - (intOf i).toNat)
  case atStart => exact ⟨0, none, 0, by omega, rfl, rfl, ZO.nil, fun s h => absurd h (by simp), Grow.refl _⟩
  case round =>
    obtain ⟨k, A, c, hk, rfl, rfl, ho, hz, hg⟩ := hrel
    have HO := Lib.hid ho
    have HZ0 := Lib.hid hz
    have HG := Lib.hid hg
    have HB2 := Lib.hid (HB1.out.grow hg)
    have hlt := HB2.out.lt
    clear ho hz hg
    by_cases hlt : k < n1
    · have hkl : k < L.length := by rw [← HL.out]; exact hlt
      obtain ⟨b, off, rfl, hb⟩ := HZ.out.pos (by omega)
      obtain ⟨Ak, nk, ck, -, hcell, gk⟩ := HZ.out.at hkl
      have hcell' : ∀ i v, (sgC L[k] (.slice Ak nk ck))[i]? = some v → wr.cell? ⟨b, off + k * 10 + i, none⟩ = some v := fun i v hv => (Below.cell (HG0.out.trans HG.out) hb).trans (hcell i v hv)
      have HS1 := Lib.hid (fun w' (hg : Grow wr w') => HS.out L[k] (HOk.out _ (List.getElem_mem _)) Ak nk ck w' (HG0.out.trans (HG.out.trans hg)) ((gk.belowAt (HG0.out.trans (HG.out.trans hg)) (Nat.le_refl _)).more (HG0.out.trans (HG.out.trans hg)).size))
      have HE1 := Lib.hid (loads_snoc L k hkl)
      have HE2 := Lib.hid (takeS L k hkl)
      have HE3 := Lib.hid (fun h => fstC_at (f := m.segC) hkl HZ0.out h)
      unfold loadOf at HE1
      unfold sgC at hcell' HS1
      generalize L[k] = s at hcell' HS1 HE1 HE2 HE3
      have t0 : wr.cell? ⟨b, off + k * 10, none⟩ = _ := hcell' 0 _ rfl
      have t1 := hcell' 1 _ rfl
      have t2 := hcell' 2 _ rfl
      have t3 := hcell' 3 _ rfl
      have t4 := hcell' 4 _ rfl
      have t5 := hcell' 5 _ rfl
      have t6 := hcell' 6 _ rfl
      have t7 := hcell' 7 _ rfl
      have t8 := hcell' 8 _ rfl
      have t9 := hcell' 9 _ rfl
      clear hcell hcell' gk
      generalize s.typ = ty at t0 HS1 HE1
      generalize s.vaddr = va at t2 HS1 HE1
      generalize s.memsz = ms at t4 HS1 HE1
      obtain ⟨v0, v1, v2, v3, v4, v5, v6, v7, v8, v9, v10⟩ := HB2.out.c11
      have hne : ¬ (w.heap.size = wr.heap.size) := by omega
      go_wp2_with fail
      generalize hW : World.alloc _ _ = W1
      obtain ⟨b5, hg5⟩ := blk1 hW
      clear hW t0 t1 t2 t3 t4 t5 t6 t7 t8 t9 v0 v1 v2 v3 v4 v5 v6 v7 v8 v9 v10 hne
      refine (HS1.out W1 hg5).mono ?_
      rintro e w2 ⟨rfl, hg2⟩
      have HO2 := Lib.hid (HO.out.keep (hg5.trans hg2))
      have HB5 := Lib.hid (b5.grow hg2)
      have HG2 : Hid (Grow W0 w2) := HG.out.trans (hg5.trans hg2)
      have HS2 := Lib.hid (HG2.out.size)
      clear b5 hg5 hg2 HS1 HO HG HB2
      obtain ⟨q, hq⟩ : ∃ q, m.segC s = q := ⟨_, rfl⟩
      rw [hq] at HE3 ⊢
      have HQ := Lib.hid hq
      clear hq
      by_cases hc : q = 0
      · subst hc
        rw [eC_zero]
        have HZ1 : Hid (∀ s ∈ L.take (k + 1), m.segC s = 0) := Lib.hid fun a ha => by
          rw [HE2.out] at ha
          rcases List.mem_append.1 ha with h | h
          · exact HZ0.out a h
          · obtain rfl : a = s := by simpa using h
            exact HQ.out
        clear HE2 HE3
        obtain ⟨y0, y1, y2, y3, y4, y5, y6, y7, y8, y9⟩ := HB5.out.c10
        clear y1 y3 y5 y6 y7 y8 y9
        by_cases ht : ty = 1
        · have d : ((ty : Int) == 1) = true := by simp [ht]
          have HE : Hid (loads (L.take (k + 1)) = loads (L.take k) ++ [(va, ms)]) := Lib.hid (by rw [HE1.out, if_pos ht])
          have HLen : Hid ((loads (L.take (k + 1))).length = (loads (L.take k)).length + 1) := Lib.hid (by rw [HE.out]; simp)
          have HLe : Hid ((loads (L.take k)).length ≤ 16) := Lib.hid (by have := loads_le (L.take k); rw [List.length_take] at this; omega)
          have HBR := Lib.hid (Blk.new w2 79 #[.int .u64 (va : Nat), .int .u64 (ms : Nat)])
          have hga := Grow.of_alloc w2 (.cells #[.int .u64 (va : Nat), .int .u64 (ms : Nat)] 79)
          have HO3 := Lib.hid (HO2.out.keep hga)
          have HG3 : Hid (Grow W0 (w2.alloc (.cells #[.int .u64 (va : Nat), .int .u64 (ms : Nat)] 79))) := HG2.out.trans hga
          have HS3 := Lib.hid HG3.out.size
          have HOne : Hid ((#[.int .u64 (va : Nat), .int .u64 (ms : Nat)] : Array Value).all (·.oneCell') = true) := Lib.hid (by simp [Value.oneCell'])
          clear ht HE1 hga HO2 HG2
          go_wp2_with (refine wpList_appendZ (w2.alloc (.cells #[.int .u64 (va : Nat), .int .u64 (ms : Nat)] 79)) rfl (.tmp 23) (.tmp 29) 76 rfl W0.heap.size 79 (.agg #[.int .u64 0, .int .u64 0]) 2 16 Try.underlying76 (by kernel_rfl) rfl (by omega) A _ c _ rfl HO3.out w2.heap.size _ #[.int .u64 (va : Nat), .int .u64 (ms : Nat)] rfl HBR.out rfl HOne.out (by have := HLe.out; unfold maxLen; omega) (by have := HLe.out; omega) HS3.out ?_; intro A5 c5 w6 ho5 hg5 hn5; refine Hid.out ?_)
          have hb5 : Below W0.heap.size (w2.alloc (.cells #[.int .u64 (va : Nat), .int .u64 (ms : Nat)] 79)) w6 := (Below.refl _ _).grown hg5 HS3.out (fun j hj => HO3.out.ge hj)
          have HG6 : Hid (Grow W0 w6) := HG3.out.trans' hb5
          have HO6 : Hid (ZO w6 W0.heap.size 79 2 A5 ((loads (L.take k)).length + 1) c5 ((loads (L.take (k + 1))).map spC)) := by
            rw [HE.out, List.map_append]
            exact ho5
          clear ho5 hg5 hn5 hb5 HBR HO3 HG3 HS3 y0 y2 y4 d
          refine Lib.hid ?_
          go_wp2
          go_roundw
          case rel => exact ⟨k + 1, A5, c5, by omega, by go_num, by rw [HLen.out], by rw [HLen.out]; exact HO6.out, HZ1.out, HG6.out⟩
          case measure => simp [intOf]; omega
        · have d : ((ty : Int) == 1) = false := by simp; omega
          have HE : Hid (loads (L.take (k + 1)) = loads (L.take k)) := Lib.hid (by rw [HE1.out, if_neg ht, List.append_nil])
          clear ht HE1 y2 y4
          go_wp2
          go_roundw
          case rel => exact ⟨k + 1, A, c, by omega, by go_num, by rw [HE.out], by rw [HE.out]; exact HO2.out, HZ1.out, HG2.out⟩
          case measure => simp [intOf]; omega
      · have E2 := Lib.hid (show C = q by rw [E.out, HE3.out hc, if_neg hc])
        have HC := Lib.hid hc
        rw [eC_some hc]
        clear hc
        go_wp2
        go_ret
        exact e_ret E2.out _ (eC_some HC.out).symm (HG0.out.trans HG2.out)
    · have hkn : k = n1 := by omega
      have HT : Hid (L.take k = L) := Lib.hid (by rw [hkn, HL.out, List.take_length])
      have HF : Hid (fstC m.segC L = 0) := Lib.hid (fstC_zero.2 (by have := HZ0.out; rwa [HT.out] at this))
      have ho := HO.out
      have HLt := Lib.hid (loads_lt HOk.out)
      rw [HT.out] at ho ⊢
      have HR := Lib.hid (rising_any A _ c _ wr ho.zs HLt.out)
      have E2 := Lib.hid (show C = if rises (loads L) then 0 else 7 by rw [E.out, if_pos HF.out])
      generalize rises (loads L) = R at HR E2
      generalize loads L = LL at HR ⊢
      clear ho hkn
      go_wp2_with fail
      refine HR.out.mono ?_
      rintro e w2 ⟨rfl, hg2⟩
      have HG2 : Hid (Grow w w2) := HG0.out.trans (HG.out.trans hg2)
      clear hg2
      cases R with
      | false =>
        go_wp2
        go_ret
        exact e_ret (a := 7) (by rw [E2.out]; rfl) _ rfl HG2.out
      | true =>
        go_wp2
        go_ret
        exact e_ret (a := 0) (by rw [E2.out]; rfl) _ rfl HG2.out
end Go.Proofs.Ythebemikhjglbaa
