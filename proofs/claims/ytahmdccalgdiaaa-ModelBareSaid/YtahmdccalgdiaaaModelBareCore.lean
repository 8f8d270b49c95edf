/-
  The walk of ModelBare: what it answers at every model.
-/
import Derived.Test.YtahmdccalgdiaaaUp14
import Derived.Test.YtahmdccalgdiaaaMdBytes
import Derived.Test.YtahmdccalgdiaaaMdFew
import Derived.Test.YtahmdccalgdiaaaCut
namespace Go.Proofs.Ytahmdccalgdiaaa
open Go.RowKit

/-- The model without segments, sections and Str. -/
def Md.bare (m : Md) : Md := ⟨m.wide, m.big, m.osabi, m.abi, m.typ, m.mach, m.flags, m.entry, [], [], 0⟩
theorem Md.bare_ok {m : Md} (ok : m.Ok) : m.bare.Ok := ⟨ok.osabi, ok.abi, ok.typ, ok.mach, ok.flags, ok.entry, fun s h => absurd h (by simp [Md.bare]), fun s h => absurd h (by simp [Md.bare]), by unfold I64 Md.bare; simp⟩
theorem Md.bare_chk (m : Md) : m.bare.chk = if fitW m.wide m.entry then 0 else 1 := Md.chk_bare rfl rfl rfl
theorem few_sum {m : Md} (h : m.few ≠ 0) : m.segs.length ≤ 20 ∧ m.secs.length ≤ 70 ∧ m.sum ≤ 100000 := by
  unfold Md.few at h
  split at h
  · omega
  split at h
  · omega
  split at h
  · omega
  · omega
theorem le_sum {α : Type} (f : α → Nat) : ∀ {l : List α} {a : α}, a ∈ l → f a ≤ (l.map f).sum
  | b :: r, a, h => by
    simp only [List.map_cons, List.sum_cons]
    rcases List.mem_cons.1 h with e | e
    · subst e; omega
    · have := le_sum f e; omega
theorem Md.bytes_le {m : Md} (p : Pl) (h : p.own.length ≤ m.sum) : (m.bytes p).length ≤ m.sum := by
  unfold Md.bytes
  split
  · exact h
  split
  · rename_i h1 h2
    simp only [Bool.and_eq_true] at h2
    obtain ⟨k, hk, hkl⟩ := isSegN_true h2.1
    rw [hk, m.seg_nat k hkl, List.length_take, List.length_drop]
    have := le_sum (fun s : Sg => s.pl.own.length) (List.getElem_mem hkl)
    unfold Md.sum
    omega
  · simp

theorem list12 {l : List Value} (h : l.length = 12) : ∃ x0 x1 x2 x3 x4 x5 x6 x7 x8 x9 x10 x11, l = [x0, x1, x2, x3, x4, x5, x6, x7, x8, x9, x10, x11] := by
  match l, h with
  | [x0, x1, x2, x3, x4, x5, x6, x7, x8, x9, x10, x11], _ => exact ⟨_, _, _, _, _, _, _, _, _, _, _, _, rfl⟩

/-- What is known of a model that may be, segment by segment, and section by section. -/
theorem bare_segs {m : Md} (ok : m.Ok) (h : m.chk = 0) (k : Nat) (hk : k < m.segs.length) : (m.bytes m.segs[k].pl).length = m.segs[k].pl.size ∧
    (m.segs[k].typ = 1 → lastV m.segs k ≤ m.segs[k].vaddr ∧ (1 < m.segs[k].align → m.segs[k].align % 2 = 0) ∧ m.segs[k].pl.own.length ≤ m.segs[k].memsz) := by
  obtain ⟨h1, h2, -⟩ := Md.chk_zero h
  obtain ⟨h3, h4⟩ := Md.segC_zero (ok.segs _ (List.getElem_mem hk)) (h1 _ (List.getElem_mem hk))
  exact ⟨Md.may_len h3, fun ht => ⟨lastV_le ok.segs h2 hk ht, (h4 ht).1, (h4 ht).2⟩⟩
theorem bare_secs {m : Md} (h : m.chk = 0) (k : Nat) (hk : k < m.secs.length) : (m.bytes m.secs[k].pl).length = m.secs[k].pl.size ∧ (m.secs[k].typ = 0 ∨ m.secs[k].typ = 8 ∨ m.secs[k].pl.size = m.secs[k].size) := by
  obtain ⟨-, -, h1⟩ := Md.chk_zero h
  obtain ⟨h3, h4⟩ := Md.secC_zero (h1 _ (List.getElem_mem hk))
  refine ⟨Md.may_len h3, ?_⟩
  unfold Se.held at h4
  split at h4
  · omega
  · omega
theorem lastV_lt {l : List Sg} (ok : ∀ s ∈ l, s.Ok) (k : Nat) : lastV l k < 18446744073709551616 := by
  unfold lastV
  cases h : (loads (l.take k)).getLast? with
  | none => simp
  | some x =>
    obtain ⟨s, hs, _, rfl⟩ := mem_loads (List.mem_of_getLast? h)
    exact (ok s (List.mem_of_mem_take hs)).vaddr

set_option maxRecDepth 100000 in
set_option maxHeartbeats 4000000 in
theorem modelBare_core (m : Md) (ok : m.Ok) (A1 A2 : Option Addr) (n1 c1 n2 c2 : Nat) (w : World) (g1 : ZR sgK w w.heap.size A1 n1 c1 m.segs) (g2 : ZR seK w w.heap.size A2 n2 c2 m.secs)
    (hs1 : ∀ s ∈ m.segs, s.pl.own.length ≤ reachBytes) (hs2 : ∀ s ∈ m.secs, s.pl.own.length ≤ reachBytes) :
    Calls Try.prog 3 #[.agg (mdC m (.slice A1 n1 c1) (.slice A2 n2 c2))] w fun e w' => e = .returned (.bool true) ∧ Grow w w' := by
  have hsm : n1 ≤ 20 → n2 ≤ 70 → m.sum ≤ 4000000000000000000 := fun h1 h2 => by
    have q1 := sum_le (fun s : Sg => s.pl.own.length) reachBytes m.segs hs1
    have q2 := sum_le (fun s : Se => s.pl.own.length) reachBytes m.secs hs2
    have l1 := g1.len
    have l2 := g2.len
    have e1 : m.segs.length * reachBytes ≤ 20 * reachBytes := Nat.mul_le_mul_right _ (by omega)
    have e2 : m.secs.length * reachBytes ≤ 70 * reachBytes := Nat.mul_le_mul_right _ (by omega)
    unfold Md.sum
    unfold reachBytes at q1 q2 e1 e2
    omega
  have HF := Lib.hid (fun (w' : World) (hg : Grow w w') => few_any m A1 A2 n1 c1 n2 c2 w' (g1.grow hg) (g2.grow hg) hsm)
  have HM := Lib.hid (fun (w' : World) (hg : Grow w w') => check_any m ok A1 A2 n1 c1 n2 c2 w' (g1.grow hg) (g2.grow hg))
  have HK := Lib.hid (fun (w' : World) => check_any m.bare (Md.bare_ok ok) none none 0 0 0 0 w' ZR.nil ZR.nil)
  have HY := Lib.hid (fun (hf : m.few ≠ 0) (p : Pl) (okp : p.Ok) (hp : p.own.length ≤ m.sum) (A : Option Addr) (n c : Nat) (w' : World) (hg : Grow w w') (g : RB w' w'.heap.size A n c p.own) =>
    mBytes_any m A1 A2 n1 c1 n2 c2 p okp A n c w' (g1.grow hg) g (by have := few_sum hf; have := Md.bytes_le p hp; omega))
  have HX := Lib.hid (fun (h : m.chk = 0) => And.intro (bare_segs ok h) (bare_secs h))
  have HLV := Lib.hid (lastV_lt ok.segs)
  have HO1 := Lib.hid ok.segs
  have HO2 := Lib.hid ok.secs
  have hcm1 := g1.max
  have hcc1 := g1.cap
  have hcm2 := g2.max
  have hcc2 := g2.cap
  have HL1 := Lib.hid g1.len
  have HL2 := Lib.hid g2.len
  have HZ1 := Lib.hid g1
  have HZ2 := Lib.hid g2
  have HS1 := Lib.hid (fun (s : Sg) (h : s ∈ m.segs) => (Nat.le_trans (le_sum (fun s : Sg => s.pl.own.length) h) (Nat.le_add_right _ _) : s.pl.own.length ≤ m.sum))
  have HS2 := Lib.hid (fun (s : Se) (h : s ∈ m.secs) => (Nat.le_trans (le_sum (fun s : Se => s.pl.own.length) h) (Nat.le_add_left _ _) : s.pl.own.length ≤ m.sum))
  rw [Md.bare_chk] at HK
  have HFW : Hid (fitW m.wide m.entry = (m.wide || decide (m.entry ≤ 4294967295))) := Lib.hid (by
    have := ok.entry
    unfold fitW
    cases m.wide
    · rw [Bool.false_or, Bool.eq_iff_iff, decide_eq_true_iff, decide_eq_true_iff]; unfold byWide; simp; omega
    · rw [Bool.true_or, decide_eq_true_iff]; unfold byWide; simpa using this)
  unfold mdC at HF HM HK HY ⊢
  unfold Md.bare at HK
  unfold plC at HY
  clear g1 g2 hs1 hs2 hsm ok
  unfold maxLen at hcm1 hcm2
  simp only at HK
  generalize m.few = fw at HF HY
  generalize m.chk = ck0 at HM HX
  generalize fitW m.wide m.entry = FW at HK HFW
  generalize m.wide = xw at HF HM HK HY HFW ⊢
  generalize m.entry = xe at HF HM HK HY HFW ⊢
  generalize m.big = x1 at HF HM HK HY ⊢
  generalize m.osabi = x2 at HF HM HK HY ⊢
  generalize m.abi = x3 at HF HM HK HY ⊢
  generalize m.typ = x4 at HF HM HK HY ⊢
  generalize m.mach = x5 at HF HM HK HY ⊢
  generalize m.flags = x6 at HF HM HK HY ⊢
  generalize m.str = x10 at HF HM HY ⊢
  generalize m.segs = L1 at HL1 HZ1 HX HLV HO1 HS1
  generalize m.secs = L2 at HL2 HZ2 HX HO2 HS2
  generalize m.sum = S at HS1 HS2 HY
  go_enter Try.func3, Try.ntmps3
  go_wp2_with fail
  generalize hW : World.alloc _ _ = W0
  obtain ⟨b1, hg0⟩ := blk1 hW
  clear hW
  have HB1 := Lib.hid b1
  have HG0 := Lib.hid hg0
  clear b1 hg0
  refine (up14 _).mono ?_
  rintro e w1 ⟨rfl, hg1⟩
  have HB2 := Lib.hid (HB1.out.grow hg1)
  have HG1 : Hid (Grow w w1) := HG0.out.trans hg1
  clear hg1 HB1 HG0
  obtain ⟨v0, v1, v2, v3, v4, v5, v6, v7, v8, v9, v10⟩ := HB2.out.c11
  go_wp2_with fail
  clear v0 v1 v2 v3 v4 v5 v6 v7 v8 v9 v10
  refine (HF.out _ HG1.out).mono ?_
  rintro e w2 ⟨rfl, hg2⟩
  have HB3 := Lib.hid (HB2.out.grow hg2)
  have HG2 : Hid (Grow w w2) := HG1.out.trans hg2
  clear hg2 HB2 HG1 HF
  by_cases hfw : fw = 0
  · subst hfw
    go_wp2
    go_ret
    exact ⟨rfl, HG2.out⟩
  have d : ((fw : Int) == 0) = false := by simp; omega
  replace HY := Lib.hid (HY.out hfw)
  clear hfw
  obtain ⟨v0, v1, v2, v3, v4, v5, v6, v7, v8, v9, v10⟩ := HB3.out.c11
  go_wp2_with fail
  clear v0 v1 v2 v3 v4 v5 v6 v7 v8 v9 v10 d
  generalize hW : World.alloc _ _ = W3
  obtain ⟨b2, hg3⟩ := blk1 hW
  clear hW
  have HC3 := Lib.hid (b2)
  have HB4 := Lib.hid (HB3.out.grow hg3)
  have HG3 : Hid (Grow w W3) := HG2.out.trans hg3
  clear b2 hg3 HB3 HG2
  refine wp_cut (fun a a' w' => Grow W3 w' ∧ a' = ⟨(a.tmps.toList.take 20 ++ (a'.tmps.toList.drop 20).take 12 ++ .bool false :: a.tmps.toList.drop 33).toArray, a.defers⟩ ∧ ((a'.tmps.toList.drop 20).take 12).length = 12) ?_ ?_
  · clear HM HX HY HLV HO1 HO2 HL1 HL2 HZ1 HZ2 HS1 HS2 hcm1 hcm2 hcc1 hcc2 HG3
    refine wp_region_chain [(0, true), (3, true), (4, true), (5, true), (6, true), (1, false), (2, true), (7, true), (8, true), (9, true), (10, true), (11, true), (12, true)] (by kernel_rfl) (by kernel_rfl) (by kernel_rfl) ?_
    have HGD : Hid (Grow W3 W3.drew) := Grow.of_drew _
    have q0 : ∀ W, Grow W3.drew W → W.cell? ⟨w2.heap.size, 0, none⟩ = some (.bool xw) := fun W hW => (HC3.out.grow ((Grow.of_drew _).trans hW)).at 0
    have q1 : ∀ W, Grow W3.drew W → W.cell? ⟨w2.heap.size, 1, none⟩ = some (.bool x1) := fun W hW => (HC3.out.grow ((Grow.of_drew _).trans hW)).at 1
    have q2 : ∀ W, Grow W3.drew W → W.cell? ⟨w2.heap.size, 2, none⟩ = some (.int .u8 (x2 : Nat)) := fun W hW => (HC3.out.grow ((Grow.of_drew _).trans hW)).at 2
    have q3 : ∀ W, Grow W3.drew W → W.cell? ⟨w2.heap.size, 3, none⟩ = some (.int .u8 (x3 : Nat)) := fun W hW => (HC3.out.grow ((Grow.of_drew _).trans hW)).at 3
    have q4 : ∀ W, Grow W3.drew W → W.cell? ⟨w2.heap.size, 4, none⟩ = some (.int .u16 (x4 : Nat)) := fun W hW => (HC3.out.grow ((Grow.of_drew _).trans hW)).at 4
    have q5 : ∀ W, Grow W3.drew W → W.cell? ⟨w2.heap.size, 5, none⟩ = some (.int .u16 (x5 : Nat)) := fun W hW => (HC3.out.grow ((Grow.of_drew _).trans hW)).at 5
    have q6 : ∀ W, Grow W3.drew W → W.cell? ⟨w2.heap.size, 6, none⟩ = some (.int .u32 (x6 : Nat)) := fun W hW => (HC3.out.grow ((Grow.of_drew _).trans hW)).at 6
    have q7 : ∀ W, Grow W3.drew W → W.cell? ⟨w2.heap.size, 7, none⟩ = some (.int .u64 (xe : Nat)) := fun W hW => (HC3.out.grow ((Grow.of_drew _).trans hW)).at 7
    have q8 : ∀ W, Grow W3.drew W → W.cell? ⟨w2.heap.size, 8, none⟩ = some (.slice none 0 0) := fun W hW => (HC3.out.grow ((Grow.of_drew _).trans hW)).at 8
    have q9 : ∀ W, Grow W3.drew W → W.cell? ⟨w2.heap.size, 9, none⟩ = some (.slice none 0 0) := fun W hW => (HC3.out.grow ((Grow.of_drew _).trans hW)).at 9
    have q10 : ∀ W, Grow W3.drew W → W.cell? ⟨w2.heap.size, 10, none⟩ = some (.int .i64 0) := fun W hW => (HC3.out.grow ((Grow.of_drew _).trans hW)).at 10
    have r0 : ∀ W, Grow W3.drew W → W.cell? ⟨w.heap.size, 0, none⟩ = some (.bool xw) := fun W hW => (HB4.out.grow ((Grow.of_drew _).trans hW)).at 0
    have r7 : ∀ W, Grow W3.drew W → W.cell? ⟨w.heap.size, 7, none⟩ = some (.int .u64 (xe : Nat)) := fun W hW => (HB4.out.grow ((Grow.of_drew _).trans hW)).at 7
    clear HB4 HC3
    generalize W3.drew = w3 at HGD q0 q1 q2 q3 q4 q5 q6 q7 q8 q9 q10 r0 r7 ⊢
    repeat (first | (refine chain_take rfl (by rfl) ?_ (fun W hG => ?_) ?_; rotate_left; (go_simp; rfl); simp only [Act.put, List.setIfInBounds_toArray, List.set_cons_zero, List.set_cons_succ]) | (refine chain_skip rfl (by rfl) ?_; simp only [Act.put, List.setIfInBounds_toArray, List.set_cons_zero, List.set_cons_succ]))
    refine chain_only rfl (by rfl) (fun K hK => ?_)
    go_simp
    refine (HK.out _).mono ?_
    rintro e w4 ⟨rfl, hg4⟩
    refine hK _ _ hg4 ?_
    have HG4 : Hid (Grow W3 w4) := HGD.out.trans hg4
    clear hK K HK q0 q1 q2 q3 q4 q5 q6 q7 q8 q9 q10
    have s0 : ∀ W, Grow w4 W → W.cell? ⟨w.heap.size, 0, none⟩ = some (.bool xw) := fun W hW => r0 W (hg4.trans hW)
    have s7 : ∀ W, Grow w4 W → W.cell? ⟨w.heap.size, 7, none⟩ = some (.int .u64 (xe : Nat)) := fun W hW => r7 W (hg4.trans hW)
    clear hg4 r0 r7
    cases xw with
    | true =>
      have hf : FW = true := HFW.out
      subst hf
      clear HFW
      rw [if_pos rfl, eC_zero]
      repeat (first | (refine chain_take rfl (by rfl) ?_ (fun W hG => ?_) ?_; rotate_left; (go_simp; rfl); simp only [Act.put, List.setIfInBounds_toArray, List.set_cons_zero, List.set_cons_succ]) | (refine chain_skip rfl (by rfl) ?_; simp only [Act.put, List.setIfInBounds_toArray, List.set_cons_zero, List.set_cons_succ]))
      refine chain_done ?_
      exact ⟨trivial, HG4.out, rfl, rfl⟩
    | false =>
      by_cases he : xe ≤ 4294967295
      · have hf : FW = true := by rw [HFW.out]; simpa using he
        subst hf
        clear HFW
        have d1 : decide (xe ≤ 4294967295) = true := decide_eq_true he
        have d2 : decide ((xe : Int) ≤ 4294967295) = true := decide_eq_true (by omega)
        clear he
        rw [if_pos rfl, eC_zero]
        repeat (first | (refine chain_take rfl (by rfl) ?_ (fun W hG => ?_) ?_; rotate_left; (go_simp; rfl); simp only [Act.put, List.setIfInBounds_toArray, List.set_cons_zero, List.set_cons_succ]) | (refine chain_skip rfl (by rfl) ?_; simp only [Act.put, List.setIfInBounds_toArray, List.set_cons_zero, List.set_cons_succ]))
        refine chain_done ?_
        exact ⟨trivial, HG4.out, rfl, rfl⟩
      · have hf : FW = false := by rw [HFW.out]; simpa using he
        subst hf
        clear HFW
        have d1 : decide (xe ≤ 4294967295) = false := decide_eq_false he
        have d2 : decide ((xe : Int) ≤ 4294967295) = false := decide_eq_false (by omega)
        clear he
        rw [if_neg (by decide), eC_some (by decide)]
        repeat (first | (refine chain_take rfl (by rfl) ?_ (fun W hG => ?_) ?_; rotate_left; (go_simp; rfl); simp only [Act.put, List.setIfInBounds_toArray, List.set_cons_zero, List.set_cons_succ]) | (refine chain_skip rfl (by rfl) ?_; simp only [Act.put, List.setIfInBounds_toArray, List.set_cons_zero, List.set_cons_succ]))
        refine chain_done ?_
        exact ⟨trivial, HG4.out, rfl, rfl⟩
  · rintro a' w4 ⟨hg4, ha, hl⟩
    obtain ⟨l20, l21, l22, l23, l24, l25, l26, l27, l28, l29, l30, l31, hl⟩ := list12 hl
    rw [hl] at ha
    clear hl
    subst ha
    have HB5 := Lib.hid (HB4.out.grow hg4)
    have HG4 : Hid (Grow w w4) := HG3.out.trans hg4
    clear hg4 HB4 HG3 HC3
    simp only [List.take_succ_cons, List.take_zero, List.drop_succ_cons, List.drop_zero, List.cons_append, List.nil_append]
    obtain ⟨v0, v1, v2, v3, v4, v5, v6, v7, v8, v9, v10⟩ := HB5.out.c11
    go_wp2_with fail
    clear v0 v1 v2 v3 v4 v5 v6 v7 v8 v9 v10
    refine (HM.out _ HG4.out).mono ?_
    rintro e w5 ⟨rfl, hg5⟩
    have HB6 := Lib.hid (HB5.out.grow hg5)
    have HG5 : Hid (Grow w w5) := HG4.out.trans hg5
    clear hg5 HB5 HG4 HM
    by_cases hck : ck0 ≠ 0
    · rw [eC_some hck]
      clear hck
      go_wp2
      go_ret
      exact ⟨rfl, HG5.out⟩
    obtain rfl : ck0 = 0 := by omega
    clear hck
    rw [eC_zero]
    replace HX := Lib.hid (HX.out rfl)
    go_wp2_with fail
    go_loopw [5, 6] (fun x i wr => ∃ k : Nat, k ≤ n1 ∧ i = .int .i64 k ∧ x = .int .u64 (lastV L1 k : Nat) ∧ Grow w5 wr) (fun _ i _ => n1 - (intOf i).toNat)
    case atStart => exact ⟨0, by omega, rfl, rfl, Grow.refl _⟩
    case round =>
      obtain ⟨k, hk, rfl, rfl, hg⟩ := hrel
      have HG6 : Hid (Grow w wr) := HG5.out.trans hg
      have HG0 := Lib.hid hg
      have HB7 := Lib.hid (HB6.out.grow hg)
      have hlw := HB7.out.lt
      clear hg
      by_cases hlt : k < n1
      · have hkl : k < L1.length := by rw [← HL1.out]; exact hlt
        obtain ⟨b, off, rfl, hb⟩ := HZ1.out.pos (by omega)
        obtain ⟨Ak, nk, ck, -, hcell, gk⟩ := HZ1.out.at hkl
        have hcell' : ∀ i v, (sgC L1[k] (.slice Ak nk ck))[i]? = some v → wr.cell? ⟨b, off + k * 10 + i, none⟩ = some v := fun i v hv => (Below.cell HG6.out hb).trans (hcell i v hv)
        have HY1 := Lib.hid (fun w' (hg : Grow wr w') => HY.out L1[k].pl (HO1.out _ (List.getElem_mem hkl)).pl (HS1.out _ (List.getElem_mem hkl)) Ak nk ck w' (HG6.out.trans hg) ((gk.belowAt (HG6.out.trans hg) (Nat.le_refl _)).more (HG6.out.trans hg).size))
        have HX1 := Lib.hid (HX.out.1 k hkl)
        have HLS := Lib.hid (lastV_step L1 k hkl)
        have HNK : Hid (nk = L1[k].pl.own.length) := Lib.hid gk.len
        have hok := HO1.out _ (List.getElem_mem hkl)
        have hlv := HLV.out k
        have hps := hok.pl.size
        have hnk : nk ≤ 9223372036854775807 := Nat.le_trans gk.cap gk.max
        unfold sgC at hcell'
        generalize L1[k] = s at hcell' HY1 HX1 HLS HNK hok hps
        have t0 : wr.cell? ⟨b, off + k * 10, none⟩ = _ := hcell' 0 _ rfl
        have t1 := hcell' 1 _ rfl
        have t2 := hcell' 2 _ rfl
        have t3 := hcell' 3 _ rfl
        have t4 := hcell' 4 _ rfl
        have t5 := hcell' 5 _ rfl
        have t6 := hcell' 6 _ rfl
        have t7 := hcell' 7 _ rfl
        have t8 := hcell' 8 _ rfl
        have t9 := hcell' 9 _ rfl
        have hal := hok.align
        have hms := hok.memsz
        clear hcell hcell' gk hok
        generalize m.bytes s.pl = bs at HY1 HX1
        generalize s.pl.own.length = ol at HX1 HNK
        generalize s.pl.inn = pi at HY1 t6
        generalize s.pl.off = po at HY1 t7
        generalize s.pl.size = ps at HY1 HX1 hps t8
        generalize s.typ = ty at t0 HX1 HLS
        generalize s.flags = fl at t1
        generalize s.vaddr = va at t2 HX1 HLS
        generalize s.paddr = pa at t3
        generalize s.memsz = ms at t4 HX1 hms
        generalize s.align = al at t5 HX1 hal
        generalize lastV L1 k = lv at HX1 HLS hlv ⊢
        obtain ⟨v0, v1, v2, v3, v4, v5, v6, v7, v8, v9, v10⟩ := HB7.out.c11
        have hne : ¬ (w.heap.size = wr.heap.size) := by omega
        go_wp2_with fail
        refine wp_region_chain [(0, true), (1, true), (2, true), (6, true), (7, true), (8, true), (3, false), (4, true), (5, true), (9, true)] (by kernel_rfl) (by kernel_rfl) (by kernel_rfl) ?_
        generalize hW : World.alloc _ _ = W1
        obtain ⟨b5, hg5⟩ := blk1 hW
        clear hW t0 t1 t2 t3 t4 t5 t6 t7 t8 t9 v0 v1 v2 v3 v4 v5 v6 v7 v8 v9 v10 hne
        have HB5 := Lib.hid b5
        have HB3 := Lib.hid (HB7.out.grow hg5)
        have HGr : Hid (Grow wr W1.drew) := hg5.trans (Grow.of_drew _)
        have q0 : ∀ W, Grow W1.drew W → W.cell? ⟨w.heap.size, 0, none⟩ = some (.bool xw) := fun W hW => (HB3.out.grow ((Grow.of_drew _).trans hW)).at 0
        have q1 : ∀ W, Grow W1.drew W → W.cell? ⟨w.heap.size, 1, none⟩ = some (.bool x1) := fun W hW => (HB3.out.grow ((Grow.of_drew _).trans hW)).at 1
        have q2 : ∀ W, Grow W1.drew W → W.cell? ⟨w.heap.size, 2, none⟩ = some (.int .u8 (x2 : Nat)) := fun W hW => (HB3.out.grow ((Grow.of_drew _).trans hW)).at 2
        have q3 : ∀ W, Grow W1.drew W → W.cell? ⟨w.heap.size, 3, none⟩ = some (.int .u8 (x3 : Nat)) := fun W hW => (HB3.out.grow ((Grow.of_drew _).trans hW)).at 3
        have q4 : ∀ W, Grow W1.drew W → W.cell? ⟨w.heap.size, 4, none⟩ = some (.int .u16 (x4 : Nat)) := fun W hW => (HB3.out.grow ((Grow.of_drew _).trans hW)).at 4
        have q5 : ∀ W, Grow W1.drew W → W.cell? ⟨w.heap.size, 5, none⟩ = some (.int .u16 (x5 : Nat)) := fun W hW => (HB3.out.grow ((Grow.of_drew _).trans hW)).at 5
        have q6 : ∀ W, Grow W1.drew W → W.cell? ⟨w.heap.size, 6, none⟩ = some (.int .u32 (x6 : Nat)) := fun W hW => (HB3.out.grow ((Grow.of_drew _).trans hW)).at 6
        have q7 : ∀ W, Grow W1.drew W → W.cell? ⟨w.heap.size, 7, none⟩ = some (.int .u64 (xe : Nat)) := fun W hW => (HB3.out.grow ((Grow.of_drew _).trans hW)).at 7
        have q8 : ∀ W, Grow W1.drew W → W.cell? ⟨w.heap.size, 8, none⟩ = some (.slice (some ⟨b, off, none⟩) n1 c1) := fun W hW => (HB3.out.grow ((Grow.of_drew _).trans hW)).at 8
        have q9 : ∀ W, Grow W1.drew W → W.cell? ⟨w.heap.size, 9, none⟩ = some (.slice A2 n2 c2) := fun W hW => (HB3.out.grow ((Grow.of_drew _).trans hW)).at 9
        have q10 : ∀ W, Grow W1.drew W → W.cell? ⟨w.heap.size, 10, none⟩ = some (.int .i64 x10) := fun W hW => (HB3.out.grow ((Grow.of_drew _).trans hW)).at 10
        have r0 : ∀ W, Grow W1.drew W → W.cell? ⟨wr.heap.size, 0, none⟩ = some (.int .u32 (ty : Nat)) := fun W hW => (HB5.out.grow ((Grow.of_drew _).trans hW)).at 0
        have r1 : ∀ W, Grow W1.drew W → W.cell? ⟨wr.heap.size, 1, none⟩ = some (.int .u32 (fl : Nat)) := fun W hW => (HB5.out.grow ((Grow.of_drew _).trans hW)).at 1
        have r2 : ∀ W, Grow W1.drew W → W.cell? ⟨wr.heap.size, 2, none⟩ = some (.int .u64 (va : Nat)) := fun W hW => (HB5.out.grow ((Grow.of_drew _).trans hW)).at 2
        have r3 : ∀ W, Grow W1.drew W → W.cell? ⟨wr.heap.size, 3, none⟩ = some (.int .u64 (pa : Nat)) := fun W hW => (HB5.out.grow ((Grow.of_drew _).trans hW)).at 3
        have r4 : ∀ W, Grow W1.drew W → W.cell? ⟨wr.heap.size, 4, none⟩ = some (.int .u64 (ms : Nat)) := fun W hW => (HB5.out.grow ((Grow.of_drew _).trans hW)).at 4
        have r5 : ∀ W, Grow W1.drew W → W.cell? ⟨wr.heap.size, 5, none⟩ = some (.int .u64 (al : Nat)) := fun W hW => (HB5.out.grow ((Grow.of_drew _).trans hW)).at 5
        have r6 : ∀ W, Grow W1.drew W → W.cell? ⟨wr.heap.size, 6, none⟩ = some (.int .i64 pi) := fun W hW => (HB5.out.grow ((Grow.of_drew _).trans hW)).at 6
        have r7 : ∀ W, Grow W1.drew W → W.cell? ⟨wr.heap.size, 7, none⟩ = some (.int .u64 (po : Nat)) := fun W hW => (HB5.out.grow ((Grow.of_drew _).trans hW)).at 7
        have r8 : ∀ W, Grow W1.drew W → W.cell? ⟨wr.heap.size, 8, none⟩ = some (.int .u64 (ps : Nat)) := fun W hW => (HB5.out.grow ((Grow.of_drew _).trans hW)).at 8
        have r9 : ∀ W, Grow W1.drew W → W.cell? ⟨wr.heap.size, 9, none⟩ = some (.slice Ak nk ck) := fun W hW => (HB5.out.grow ((Grow.of_drew _).trans hW)).at 9
        clear b5 hg5
        have HB3' := Lib.hid (HB3.out.drew)
        have HB5' := Lib.hid (HB5.out.drew)
        clear HB3 HB5
        generalize W1.drew = w6 at HGr HB3' HB5' q0 q1 q2 q3 q4 q5 q6 q7 q8 q9 q10 r0 r1 r2 r3 r4 r5 r6 r7 r8 r9 ⊢
        repeat (first | (refine chain_take rfl (by rfl) ?_ (fun W hG => ?_) ?_; rotate_left; (go_simp; rfl); simp only [Act.put, List.setIfInBounds_toArray, List.set_cons_zero, List.set_cons_succ]) | (refine chain_skip rfl (by rfl) ?_; simp only [Act.put, List.setIfInBounds_toArray, List.set_cons_zero, List.set_cons_succ]))
        refine chain_only rfl (by rfl) (fun K hK => ?_)
        go_simp
        refine (HY1.out _ HGr.out).mono ?_
        rintro e w7 ⟨A5, c5, rfl, -, hg7⟩
        refine hK _ _ hg7 ?_
        have HB8 := Lib.hid (HB5'.out.grow hg7)
        have HG7 : Hid (Grow w5 w7) := HG0.out.trans (HGr.out.trans hg7)
        clear hK K HY1 q0 q1 q2 q3 q4 q5 q6 q7 q8 q9 q10 r0 r1 r2 r3 r4 r5 r6 r7 r8 r9 hg7 HB5' HB3' HGr
        rw [HX1.out.1]
        have z1 : IntKind.u64.wrap (ps : Int) = (ps : Int) := by rw [IntKind.wrap_u64]; omega
        repeat (first | (refine chain_take rfl (by rfl) ?_ (fun W hG => ?_) ?_; rotate_left; (go_simp; rfl); simp only [Act.put, List.setIfInBounds_toArray, List.set_cons_zero, List.set_cons_succ]) | (refine chain_skip rfl (by rfl) ?_; simp only [Act.put, List.setIfInBounds_toArray, List.set_cons_zero, List.set_cons_succ]))
        refine chain_done ?_
        obtain ⟨y0, y1, y2, y3, y4, y5, y6, y7, y8, y9⟩ := HB8.out.c10
        clear y1 y3 y6 y7 y8
        by_cases ht : ty = 1
        · have d0 : ((ty : Int) == 1) = true := by simp [ht]
          have HP := Lib.hid (HX1.out.2 ht)
          have HE : Hid (lastV L1 (k + 1) = va) := Lib.hid (by rw [HLS.out, if_pos ht])
          have z2 : IntKind.u64.wrap (nk : Int) = (nk : Int) := by rw [IntKind.wrap_u64]; omega
          have d1 : decide (va < lv) = false := decide_eq_false (by have := HP.out.1; omega)
          have d1' : decide ((va : Int) < (lv : Int)) = false := decide_eq_false (by have := HP.out.1; omega)
          have d2 : decide (ms < nk) = false := decide_eq_false (by have := HP.out.2.2; have := HNK.out; omega)
          have d2' : decide ((ms : Int) < (nk : Int)) = false := decide_eq_false (by have := HP.out.2.2; have := HNK.out; omega)
          clear ht HX1 HLS
          by_cases ha : 1 < al
          · have d3 : decide (1 < al) = true := decide_eq_true ha
            have d3' : decide ((1 : Int) < (al : Int)) = true := decide_eq_true (by omega)
            have d4 : ((al : Int).tmod 2 != 0) = false := by
              have h := HP.out.2.1 ha
              have e : (al : Int).tmod 2 = ((al % 2 : Nat) : Int) := Int.ofNat_tmod al 2
              rw [e, h]
              rfl
            have d5 : (al : Int) % 2 = 0 := by have h := HP.out.2.1 ha; omega
            clear ha HP
            go_wp2
            go_roundw
            case rel => exact ⟨k + 1, by omega, by go_num, by rw [HE.out], HG7.out⟩
            case measure => simp [intOf]; omega
          · have d3 : decide (1 < al) = false := decide_eq_false ha
            have d3' : decide ((1 : Int) < (al : Int)) = false := decide_eq_false (by omega)
            clear ha HP
            go_wp2
            go_roundw
            case rel => exact ⟨k + 1, by omega, by go_num, by rw [HE.out], HG7.out⟩
            case measure => simp [intOf]; omega
        · have d0 : ((ty : Int) == 1) = false := by simp; omega
          have HE : Hid (lastV L1 (k + 1) = lv) := Lib.hid (by rw [HLS.out, if_neg ht])
          clear ht HX1 HLS y0 y2 y4 y5 y9
          obtain ⟨y0, -⟩ := HB8.out.c10
          go_wp2
          go_roundw
          case rel => exact ⟨k + 1, by omega, by go_num, by rw [HE.out], HG7.out⟩
          case measure => simp [intOf]; omega
      · obtain rfl : n1 = k := by omega
        clear hk hlt
        obtain ⟨v0, v1, v2, v3, v4, v5, v6, v7, v8, v9, v10⟩ := HB7.out.c11
        go_wp2_with fail
        clear v0 v1 v2 v3 v4 v5 v6 v7 v8 v9 v10 hlw HG0
        generalize wr = wz at HG6 HB7 ⊢
        go_loopw [8] (fun i wr' => ∃ k : Nat, k ≤ n2 ∧ i = .int .i64 k ∧ Grow wz wr') (fun i _ => n2 - (intOf i).toNat)
        case atStart => exact ⟨0, by omega, rfl, Grow.refl _⟩
        case round =>
          obtain ⟨k, hk, rfl, hg⟩ := hrel
          have HG8 : Hid (Grow w wr) := HG6.out.trans hg
          have HG9 := Lib.hid hg
          have HB9 := Lib.hid (HB7.out.grow hg)
          have hlw := HB9.out.lt
          clear hg
          by_cases hlt : k < n2
          · have hkl : k < L2.length := by rw [← HL2.out]; exact hlt
            obtain ⟨b, off, rfl, hb⟩ := HZ2.out.pos (by omega)
            obtain ⟨Ak, nk, ck, -, hcell, gk⟩ := HZ2.out.at hkl
            have hcell' : ∀ i v, (seC L2[k] (.slice Ak nk ck))[i]? = some v → wr.cell? ⟨b, off + k * 13 + i, none⟩ = some v := fun i v hv => (Below.cell HG8.out hb).trans (hcell i v hv)
            have HY1 := Lib.hid (fun w' (hg : Grow wr w') => HY.out L2[k].pl (HO2.out _ (List.getElem_mem hkl)).pl (HS2.out _ (List.getElem_mem hkl)) Ak nk ck w' (HG8.out.trans hg) ((gk.belowAt (HG8.out.trans hg) (Nat.le_refl _)).more (HG8.out.trans hg).size))
            have HX1 := Lib.hid (HX.out.2 k hkl)
            have hok := HO2.out _ (List.getElem_mem hkl)
            have hps := hok.pl.size
            unfold seC at hcell'
            generalize L2[k] = s at hcell' HY1 HX1 hok hps
            have t0 : wr.cell? ⟨b, off + k * 13, none⟩ = _ := hcell' 0 _ rfl
            have t1 := hcell' 1 _ rfl
            have t2 := hcell' 2 _ rfl
            have t3 := hcell' 3 _ rfl
            have t4 := hcell' 4 _ rfl
            have t5 := hcell' 5 _ rfl
            have t6 := hcell' 6 _ rfl
            have t7 := hcell' 7 _ rfl
            have t8 := hcell' 8 _ rfl
            have t9 := hcell' 9 _ rfl
            have t10 := hcell' 10 _ rfl
            have t11 := hcell' 11 _ rfl
            have t12 := hcell' 12 _ rfl
            clear hcell hcell' gk hok
            generalize m.bytes s.pl = bs at HY1 HX1
            generalize s.pl.inn = pi at HY1 t9
            generalize s.pl.off = po at HY1 t10
            generalize s.pl.size = ps at HY1 HX1 hps t11
            generalize s.name = nm at t0
            generalize s.typ = ty at t1 HX1
            generalize s.flags = fl at t2
            generalize s.addr = ad at t3
            generalize s.size = sz at t4 HX1
            generalize s.link = lk at t5
            generalize s.info = inf at t6
            generalize s.align = al at t7
            generalize s.entsize = es at t8
            obtain ⟨v0, v1, v2, v3, v4, v5, v6, v7, v8, v9, v10⟩ := HB9.out.c11
            have hne : ¬ (w.heap.size = wr.heap.size) := by omega
            go_wp2_with fail
            generalize hW : World.alloc _ _ = W1
            obtain ⟨b5, hg5⟩ := blk1 hW
            clear hW t0 t1 t2 t3 t4 t5 t6 t7 t8 t9 t10 t11 t12 v0 v1 v2 v3 v4 v5 v6 v7 v8 v9 v10 hne
            refine (HY1.out W1 hg5).mono ?_
            rintro e w7 ⟨A5, c5, rfl, -, hg7⟩
            have HB10 := Lib.hid (b5.grow hg7)
            have HG10 : Hid (Grow wz w7) := HG9.out.trans (hg5.trans hg7)
            clear HY1 b5 hg5 hg7
            rw [HX1.out.1]
            have z1 : IntKind.u64.wrap (ps : Int) = (ps : Int) := by rw [IntKind.wrap_u64]; omega
            have y1 := HB10.out.at 1
            have y4 := HB10.out.at 4
            have y11 := HB10.out.at 11
            have HX2 := Lib.hid HX1.out.2
            clear HX1
            by_cases h0 : ty = 0
            · have d0 : ((ty : Int) != 0) = false := by simp [h0]
              clear h0 HX2
              go_wp2
              go_roundw
              case rel => exact ⟨k + 1, by omega, by go_num, HG10.out⟩
              case measure => simp [intOf]; omega
            · have d0 : ((ty : Int) != 0) = true := by simpa using h0
              by_cases h8 : ty = 8
              · have d8 : ((ty : Int) != 8) = false := by simp [h8]
                clear h0 h8 HX2
                go_wp2
                go_roundw
                case rel => exact ⟨k + 1, by omega, by go_num, HG10.out⟩
                case measure => simp [intOf]; omega
              · have d8 : ((ty : Int) != 8) = true := by simp; omega
                have hz : sz = ps := by have := HX2.out; omega
                subst hz
                clear h0 h8 HX2
                go_wp2
                go_roundw
                case rel => exact ⟨k + 1, by omega, by go_num, HG10.out⟩
                case measure => simp [intOf]; omega
          · obtain rfl : n2 = k := by omega
            clear hk hlt
            have v9 := HB9.out.at 9
            go_wp2
            go_ret
            exact ⟨rfl, HG8.out⟩
end Go.Proofs.Ytahmdccalgdiaaa
