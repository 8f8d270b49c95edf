/-
  Several texts in one: The contract of the document's own Check.
-/
import Derived.Test.YtfpihkbpelbcbaaRtG24
import Derived.Test.YtfpihkbpelbcbaaRtG4
namespace Go.Proofs.Ytfpihkbpelbcbaa
open Go.Lib (hid)
open Go.RowKit
def okP (l : List Sg) (i j : Nat) : Prop := (l.getD i sg0).typ = 1 → (l.getD j sg0).typ = 1 → belowN (l.getD j sg0).vaddr (l.getD j sg0).memsz (l.getD i sg0).vaddr = true
theorem belowN_trans {a n b m c : Nat} (hb : b < 18446744073709551616) (h1 : belowN a n b = true) (h2 : belowN b m c = true) : belowN a n c = true := by
 have hbc := belowN_le hb h2
 unfold belowN at h1 ⊢
 split at h1
 ·rename_i h0
  rw [if_pos h0]
  simp at h1 ⊢
  omega
 ·rename_i h0
  rw [if_neg h0]
  simp at h1 ⊢
  omega
theorem up_pairs {L : List (Nat × Nat)} (hL : ∀ x ∈ L, x.1 < 18446744073709551616) (h : Up L) : ∀ (i j : Nat), j < i → i < L.length → belowAt L j i = true := by
 intro i
 induction i with
 | zero => intro j hj; omega
 | succ i ih =>
  intro j hj hi
  have hs := h (i + 1) (by omega) hi
  rw [show i + 1 - 1 = i by omega] at hs
  rcases Nat.lt_or_ge j i with h1 | h1
  ·have h2 := ih j h1 (by omega)
   unfold belowAt at h2 hs ⊢
   have m1 : ∀ k, k < L.length → (L.getD k (0, 0)).1 < 18446744073709551616 := fun k hk => by
    rw [List.getD_eq_getElem?_getD, List.getElem?_eq_getElem hk]
    exact hL _ (List.getElem_mem hk)
   exact belowN_trans (m1 i (by omega)) h2 hs
  ·obtain rfl : j = i := by omega
   exact hs
theorem loads_cons (a : Sg) (r : List Sg) : loads (a :: r) = loadOf a ++ loads r := by simp [loads]
theorem rises_pair {L : List (Nat × Nat)} (hL : ∀ x ∈ L, x.1 < 18446744073709551616) : rises L = true ↔ L.Pairwise (fun a b => belowN a.1 a.2 b.1 = true) := by
 rw [rises_iff, List.pairwise_iff_getElem]
 constructor
 ·intro h i j hi hj hij
  have := up_pairs hL h j i hij hj
  unfold belowAt at this
  rw [List.getD_eq_getElem?_getD, List.getD_eq_getElem?_getD, List.getElem?_eq_getElem hi, List.getElem?_eq_getElem hj] at this
  exact this
 ·intro h k h0 hk
  unfold belowAt
  rw [List.getD_eq_getElem?_getD, List.getD_eq_getElem?_getD, List.getElem?_eq_getElem hk, List.getElem?_eq_getElem (by omega)]
  exact h (k - 1) k (by omega) hk (by omega)
theorem loads_pair {l : List Sg} : (loads l).Pairwise (fun a b => belowN a.1 a.2 b.1 = true) ↔ l.Pairwise (fun s t => t.typ = 1 → s.typ = 1 → belowN s.vaddr s.memsz t.vaddr = true) := by
 induction l with
 | nil => simp [loads]
 | cons a r ih =>
  rw [loads_cons, List.pairwise_append, List.pairwise_cons, ih]
  constructor
  ·rintro ⟨_, h2, h3⟩
   refine ⟨fun t ht ht1 ha1 => ?_, h2⟩
   have ha : loadOf a = [(a.vaddr, a.memsz)] := by unfold loadOf; rw [if_pos ha1]
   have hm : (t.vaddr, t.memsz) ∈ loads r := by
    unfold loads
    exact List.mem_flatMap.2 ⟨t, ht, by unfold loadOf; rw [if_pos ht1]; simp⟩
   exact h3 (a.vaddr, a.memsz) (by rw [ha]; simp) _ hm
  ·rintro ⟨h1, h2⟩
   refine ⟨?_, h2, fun x hx y hy => ?_⟩
   ·unfold loadOf
    split
    ·exact List.pairwise_singleton _ _
    ·exact List.Pairwise.nil
   ·obtain ⟨t, ht, ht1, rfl⟩ := mem_loads hy
    unfold loadOf at hx
    split at hx
    ·rename_i ha1
     obtain rfl : x = (a.vaddr, a.memsz) := by simpa using hx
     exact h1 t ht ht1 ha1
    ·simp at hx
theorem rises_ok {l : List Sg} (ok : ∀ s ∈ l, s.Ok) : rises (loads l) = true ↔ ∀ i, i < l.length → ∀ j, j < i → okP l i j := by
 rw [rises_pair (fun x hx => (loads_lt ok x hx).1), loads_pair, List.pairwise_iff_getElem]
 constructor
 ·intro h i hi j hj
  have := h j i (by omega) hi hj
  unfold okP
  rw [List.getD_eq_getElem?_getD, List.getD_eq_getElem?_getD, List.getElem?_eq_getElem hi, List.getElem?_eq_getElem (by omega)]
  exact this
 ·intro h j i hj hi hij
  have := h i hi j hij
  unfold okP at this
  rw [List.getD_eq_getElem?_getD, List.getD_eq_getElem?_getD, List.getElem?_eq_getElem hi, List.getElem?_eq_getElem (by omega)] at this
  exact this
theorem getD_atA {α : Type} (l : List α) (d : α) (k : Nat) (h : k < l.length) : l.getD k d = l[k] := by rw [List.getD_eq_getElem?_getD, List.getElem?_eq_getElem h]; rfl
theorem Md.nums_lt {m : Md} (ok : m.Ok) : ∀ v ∈ m.nums, v < 18446744073709551616 := fun v hv => by
 unfold Md.nums at hv
 rcases List.mem_cons.1 hv with e | e
 ·rw [e]; exact ok.entry
 rcases List.mem_append.1 e with e | e
 ·obtain ⟨s, hs, hx⟩ := List.mem_flatMap.1 e
  have o := ok.segs s hs
  simp only [Sg.nums, List.mem_cons, List.not_mem_nil, or_false] at hx
  rcases hx with rfl | rfl | rfl | rfl
  ·exact o.vaddr
  ·exact o.paddr
  ·exact o.memsz
  ·exact o.align
 ·obtain ⟨s, hs, hx⟩ := List.mem_flatMap.1 e
  have o := ok.secs s hs
  simp only [Se.nums, List.mem_cons, List.not_mem_nil, or_false] at hx
  rcases hx with rfl | rfl | rfl | rfl | rfl
  ·exact o.flags
  ·exact o.addr
  ·exact o.size
  ·exact o.align
  ·exact o.entsize
theorem fits_narrow {m : Md} (h : m.fits = true) (s : Sg) (hs : s ∈ m.segs) (hw : m.wide = false) : s.vaddr < 4294967296 ∧ s.memsz < 4294967296 := by
 unfold Md.fits at h
 have h1 := List.all_eq_true.1 h
 have hm : ∀ v ∈ Sg.nums s, v ∈ m.nums := fun v hv => by
  unfold Md.nums
  refine List.mem_cons_of_mem _ (List.mem_append_left _ (List.mem_flatMap.2 ⟨s, hs, hv⟩))
 have a1 := h1 s.vaddr (hm _ (by simp [Sg.nums]))
 have a2 := h1 s.memsz (hm _ (by simp [Sg.nums]))
 unfold fitW byWide at a1 a2
 rw [hw] at a1 a2
 simp at a1 a2
 exact ⟨a1, a2⟩
set_option maxRecDepth 100000 in
set_option maxHeartbeats 16000000 in
theorem rCheck_any (m : Md) (ok : m.Ok) (A1 A2 : Option Addr) (n1 c1 n2 c2 : Nat) (w : World) (g1 : ZR sgK w w.heap.size A1 n1 c1 m.segs) (g2 : ZR seK w w.heap.size A2 n2 c2 m.secs) :
  Calls Try.prog 6 #[.agg (mdC m (.slice A1 n1 c1) (.slice A2 n2 c2))] w fun e w' => e = .returned (.int .i64 (m.chk : Nat)) ∧ Grow w w' := by
 have HF := hid (fun (w' : World) A n c (h : NS w' w'.heap.size .u64 A n c m.nums) => rFit_any m.wide m.big A n c m.nums w' h (Md.nums_lt ok))
 have HS := hid (fun (hf : m.fits = true) (s : Sg) (hs : s ∈ m.segs) (A : Option Addr) (n c : Nat) (w' : World) (hg : Grow w w') (g : RB w' w'.heap.size A n c s.pl.own) => rSeg_any m A1 A2 n1 c1 n2 c2 s (ok.segs s hs) A n c w' (g1.grow hg) g (fits_narrow hf s hs))
 have HP := hid (fun (p : Pl) (A : Option Addr) (n c : Nat) (w' : World) (hg : Grow w w') (g : RB w' w'.heap.size A n c p.own) => rPlace_any m A1 A2 n1 c1 n2 c2 p A n c w' (g1.grow hg) g)
 have HN := hid (fun (w' : World) (hg : Grow w w') => rNames_any m ok A1 A2 n1 c1 n2 c2 w' (g2.grow hg))
 obtain ⟨x2, x3, x4, x5, x6, x10, hC⟩ : ∃ x2 x3 x4 x5 x6 x10 : Value, mdC m (.slice A1 n1 c1) (.slice A2 n2 c2) = #[.bool m.wide, .bool m.big, x2, x3, x4, x5, x6, .int .u64 (m.entry : Nat), .slice A1 n1 c1, .slice A2 n2 c2, x10] := ⟨_, _, _, _, _, _, rfl⟩
 rw [hC] at HS HP HN ⊢
 have hm1 := g1.max
 have hc1 := g1.cap
 have hm2 := g2.max
 have hc2 := g2.cap
 have HZ1 := hid g1
 have HZ2 := hid g2
 have HZ1L := hid g1.len
 have HZ2L := hid g2.len
 have HOk1 := hid ok.segs
 have HOk2 := hid ok.secs
 have HRi := hid (rises_ok ok.segs)
 have E := hid (show m.chk = if (decide (16 < n1) || decide (64 < n2)) = true then 8 else if m.fits = false then 1 else if m.segsC ≠ 0 then m.segsC else if m.secsC ≠ 0 then m.secsC else m.namesC by unfold Md.chk Md.large; rw [g1.len, g2.len])
 have ES1 := hid (show m.segsC = if fstC m.segC m.segs = 0 then (if rises (loads m.segs) then 0 else 7) else fstC m.segC m.segs from rfl)
 have ES2 := hid (show m.secsC = fstC m.secC m.secs from rfl)
 have ED : Hid (∀ s : Se, m.secC s = if m.may s.pl = false then 1 else if s.pl.size ≠ s.held then 1 else if n2 < s.link then 10 else 0) := hid fun s => by rw [HZ2L.out]; rfl
 have EF : Hid (m.fits = m.nums.all (fitW m.wide)) := hid rfl
 have EN : Hid (m.nums = m.entry :: (m.segs.flatMap Sg.nums ++ m.secs.flatMap Se.nums)) := hid rfl
 generalize m.chk = C at E ⊢
 generalize m.segsC = cs at E ES1
 generalize m.secsC = cc at E ES2
 generalize m.namesC = cn at E HN
 generalize m.fits = fi at E EF HS
 generalize m.nums = LN at HF EF EN
 generalize m.wide = wide at HF HS HP HN EF ⊢
 generalize m.big = big at HF HS HP HN ⊢
 generalize m.entry = en at EN HS HP HN ⊢
 generalize m.segs = L1 at HZ1 HZ1L EN ES1 HS HOk1 HRi
 generalize m.secs = L2 at HZ2 HZ2L EN ES2 HOk2
 clear hC g1 g2 ok
 unfold maxLen at hm1 hm2
 by_cases h1 : 16 < n1
 ·have E2 := hid (show C = 8 by rw [E.out]; simp [h1])
  have d1 : decide (16 < n1) = true := decide_eq_true h1
  have d1' : decide ((16 : Int) < (n1 : Int)) = true := decide_eq_true (by omega)
  clear h1
  go_enter Try.func6, Try.ntmps6
  go_wp2
  go_ret
  exact r_ret E2.out _ rfl (Grow.of_alloc _ _)
 have d1 : decide (16 < n1) = false := decide_eq_false h1
 have d1' : decide ((16 : Int) < (n1 : Int)) = false := decide_eq_false (by omega)
 by_cases h2 : 64 < n2
 ·have E2 := hid (show C = 8 by rw [E.out]; simp [h2])
  have d2 : decide (64 < n2) = true := decide_eq_true h2
  have d2' : decide ((64 : Int) < (n2 : Int)) = true := decide_eq_true (by omega)
  clear h1 h2
  go_enter Try.func6, Try.ntmps6
  go_wp2
  go_ret
  exact r_ret E2.out _ rfl (Grow.of_alloc _ _)
 have d2 : decide (64 < n2) = false := decide_eq_false h2
 have d2' : decide ((64 : Int) < (n2 : Int)) = false := decide_eq_false (by omega)
 rw [d1, d2, Bool.false_or, if_neg (by decide)] at E
 replace h1 : n1 ≤ 16 := by omega
 replace h2 : n2 ≤ 64 := by omega
 go_enter Try.func6, Try.ntmps6
 go_wp2_with fail
 generalize hW : World.alloc _ _ = W1
 obtain ⟨b1, b2, b3, hg0⟩ := blk3 hW
 clear hW d1 d1' d2 d2'
 have HB1 := hid b1
 have HB2 := hid b2
 have HG0 := hid hg0
 have HO1 : Hid (ON W1 (w.heap.size + 2) 28 .u64 (some ⟨w.heap.size + 2, 0, none⟩) 1 1 [en]) := hid (ON.of_blk (l := [en]) b3 (Nat.le_refl _) (by show 1 ≤ maxLen; unfold maxLen; omega))
 have HS1 := hid (show w.heap.size + 2 ≤ W1.heap.size from Nat.le_of_lt b3.lt)
 clear b1 b2 b3 hg0
 go_loopw [4, 5] (fun x i wr => ∃ (k : Nat) (A : Option Addr) (c : Nat), k ≤ n1 ∧ i = .int .i64 k ∧ x = .slice A (1 + 4 * k) c ∧ ON wr (w.heap.size + 2) 28 .u64 A (1 + 4 * k) c (en :: (L1.take k).flatMap Sg.nums) ∧ Below (w.heap.size + 2) W1 wr ∧ (w.heap.size + 2) ≤ wr.heap.size) (fun _ i _ => n1 - (intOf i).toNat)
 case atStart => exact ⟨0, _, 1, by omega, rfl, rfl, by simpa using HO1.out, Below.refl _ _, HS1.out⟩
 case round =>
  obtain ⟨k, A, c, hk, rfl, rfl, ho, hg, hsz⟩ := hrel
  have HO := hid ho
  have HG := hid hg
  have HSz := hid hsz
  clear ho hg hsz HO1 HS1
  have y8 := (HB1.out.below HG.out (show w.heap.size < w.heap.size + 2 by omega)).at 8
  by_cases hlt : k < n1
  ·have hkl : k < L1.length := by rw [← HZ1L.out]; exact hlt
   obtain ⟨b, off, rfl, hb⟩ := HZ1.out.pos (by omega)
   obtain ⟨Ak, nk, ck, -, hcell, -⟩ := HZ1.out.at hkl
   have hcell' : ∀ i v, (sgC L1[k] (.slice Ak nk ck))[i]? = some v → wr.cell? ⟨b, off + k * 10 + i, none⟩ = some v := fun i v hv => (Below.cell (HG0.out.trans' ((HG.out).mono (show w.heap.size ≤ w.heap.size + 2 by omega))) hb).trans (hcell i v hv)
   have HT := hid (takeS L1 k hkl)
   unfold sgC at hcell'
   generalize L1[k] = s at hcell' HT
   have t0 : wr.cell? ⟨b, off + k * 10, none⟩ = _ := hcell' 0 _ rfl
   have t1 := hcell' 1 _ rfl
   have t2 := hcell' 2 _ rfl
   have t3 := hcell' 3 _ rfl
   have t4 := hcell' 4 _ rfl
   have t5 := hcell' 5 _ rfl
   have t6 := hcell' 6 _ rfl
   have t7 := hcell' 7 _ rfl
   have t8 := hcell' 8 _ rfl
   have t9 := hcell' 9 _ rfl
   clear hcell hcell' hb
   have HBR : Hid (Blk ((wr.alloc (.cells #[.int .u32 (s.typ : Nat), .int .u32 (s.flags : Nat), .int .u64 (s.vaddr : Nat), .int .u64 (s.paddr : Nat), .int .u64 (s.memsz : Nat), .int .u64 (s.align : Nat), .int .i64 s.pl.inn, .int .u64 (s.pl.off : Nat), .int .u64 (s.pl.size : Nat), .slice Ak nk ck] 48)).alloc (.cells #[.int .u64 (s.vaddr : Nat), .int .u64 (s.paddr : Nat), .int .u64 (s.memsz : Nat), .int .u64 (s.align : Nat)] 28)) (wr.heap.size + 1) 28 ([s.vaddr, s.paddr, s.memsz, s.align].map (ival .u64)).toArray) := hid ((blk2 rfl).2.1)
   have hga : Grow wr ((wr.alloc (.cells #[.int .u32 (s.typ : Nat), .int .u32 (s.flags : Nat), .int .u64 (s.vaddr : Nat), .int .u64 (s.paddr : Nat), .int .u64 (s.memsz : Nat), .int .u64 (s.align : Nat), .int .i64 s.pl.inn, .int .u64 (s.pl.off : Nat), .int .u64 (s.pl.size : Nat), .slice Ak nk ck] 48)).alloc (.cells #[.int .u64 (s.vaddr : Nat), .int .u64 (s.paddr : Nat), .int .u64 (s.memsz : Nat), .int .u64 (s.align : Nat)] 28)) := (blk2 rfl).2.2
   have HO3 := hid (HO.out.keep hga)
   have HG3 : Hid (Below (w.heap.size + 2) W1 ((wr.alloc (.cells #[.int .u32 (s.typ : Nat), .int .u32 (s.flags : Nat), .int .u64 (s.vaddr : Nat), .int .u64 (s.paddr : Nat), .int .u64 (s.memsz : Nat), .int .u64 (s.align : Nat), .int .i64 s.pl.inn, .int .u64 (s.pl.off : Nat), .int .u64 (s.pl.size : Nat), .slice Ak nk ck] 48)).alloc (.cells #[.int .u64 (s.vaddr : Nat), .int .u64 (s.paddr : Nat), .int .u64 (s.memsz : Nat), .int .u64 (s.align : Nat)] 28))) := HG.out.trans (hga.mono HSz.out)
   have HS3 : Hid ((w.heap.size + 2) ≤ ((wr.alloc (.cells #[.int .u32 (s.typ : Nat), .int .u32 (s.flags : Nat), .int .u64 (s.vaddr : Nat), .int .u64 (s.paddr : Nat), .int .u64 (s.memsz : Nat), .int .u64 (s.align : Nat), .int .i64 s.pl.inn, .int .u64 (s.pl.off : Nat), .int .u64 (s.pl.size : Nat), .slice Ak nk ck] 48)).alloc (.cells #[.int .u64 (s.vaddr : Nat), .int .u64 (s.paddr : Nat), .int .u64 (s.memsz : Nat), .int .u64 (s.align : Nat)] 28)).heap.size) := Nat.le_trans HSz.out hga.size
   have HE : Hid ((en :: (L1.take (k + 1)).flatMap Sg.nums) = (en :: (L1.take k).flatMap Sg.nums) ++ [s.vaddr, s.paddr, s.memsz, s.align]) := hid (by rw [HT.out]; simp [Sg.nums])
   clear hga HT HO HG
   go_wp2_with (at_builtin; refine wpList_appendM ((wr.alloc (.cells #[.int .u32 (s.typ : Nat), .int .u32 (s.flags : Nat), .int .u64 (s.vaddr : Nat), .int .u64 (s.paddr : Nat), .int .u64 (s.memsz : Nat), .int .u64 (s.align : Nat), .int .i64 s.pl.inn, .int .u64 (s.pl.off : Nat), .int .u64 (s.pl.size : Nat), .slice Ak nk ck] 48)).alloc (.cells #[.int .u64 (s.vaddr : Nat), .int .u64 (s.paddr : Nat), .int .u64 (s.memsz : Nat), .int .u64 (s.align : Nat)] 28)) rfl (.tmp 47) (.tmp 56) 51 rfl (w.heap.size + 2) 28 .u64 8 Try.underlying51 (by kernel_rfl) A _ c _ rfl HO3.out (wr.heap.size + 1) _ 4 [s.vaddr, s.paddr, s.memsz, s.align] rfl rfl HBR.out (by omega) (by unfold maxLen; omega) (by omega) HS3.out ?_; intro A5 c5 w6 ho5 hb5; refine Hid.out ?_)
   have HG6 : Hid (Below (w.heap.size + 2) W1 w6) := HG3.out.trans hb5
   have HS6 : Hid ((w.heap.size + 2) ≤ w6.heap.size) := Nat.le_trans HS3.out hb5.size
   have HO6 : Hid (ON w6 (w.heap.size + 2) 28 .u64 A5 ((1 + 4 * k) + 4) c5 (en :: (L1.take (k + 1)).flatMap Sg.nums)) := by
    rw [HE.out]
    exact ho5
   have e9 : (1 + 4 * (k + 1)) = (1 + 4 * k) + 4 := by omega
   clear ho5 hb5 HBR HO3 HG3 HS3 y8 t0 t1 t2 t3 t4 t5 t6 t7 t8 t9
   refine hid ?_
   go_wp2
   go_roundw
   case rel => exact ⟨k + 1, A5, c5, by omega, by go_num, by rw [e9], by rw [e9]; exact HO6.out, HG6.out, HS6.out⟩
   case measure => simp [intOf]; omega
  ·obtain rfl : n1 = k := by omega
   have HO4 : Hid (ON wr (w.heap.size + 2) 28 .u64 A (1 + 4 * n1) c (en :: L1.flatMap Sg.nums)) := by
    have : L1.take n1 = L1 := by rw [List.take_of_length_le (by have := HZ1L.out; omega)]
    have h := HO.out
    rwa [this] at h
   have HG2 := HG
   have HSz2 := HSz
   have y9 := (HB1.out.below HG.out (show w.heap.size < w.heap.size + 2 by omega)).at 9
   clear HO HG HSz hlt hk
   go_wp2_with fail
   clear y8 y9
   obtain ⟨wo, hwo⟩ : ∃ x, x = wr := ⟨_, rfl⟩
   subst hwo
   go_loopw [4, 7] (fun x i wr => ∃ (k : Nat) (A : Option Addr) (c : Nat), k ≤ n2 ∧ i = .int .i64 k ∧ x = .slice A (1 + 4 * n1 + 5 * k) c ∧ ON wr (w.heap.size + 2) 28 .u64 A (1 + 4 * n1 + 5 * k) c (en :: (L1.flatMap Sg.nums ++ (L2.take k).flatMap Se.nums)) ∧ Below (w.heap.size + 2) wo wr ∧ (w.heap.size + 2) ≤ wr.heap.size) (fun _ i _ => n2 - (intOf i).toNat)
   case atStart => exact ⟨0, _, c, by omega, rfl, rfl, by simpa using HO4.out, Below.refl _ _, HSz2.out⟩
   case round =>
    obtain ⟨k, A, c, hk, rfl, rfl, ho, hg, hsz⟩ := hrel
    have HO := hid ho
    have HG := hid hg
    have HSz := hid hsz
    clear ho hg hsz HO4 HSz2
    have y9 := (HB1.out.below (HG2.out.trans HG.out) (show w.heap.size < w.heap.size + 2 by omega)).at 9
    by_cases hlt : k < n2
    ·have hkl : k < L2.length := by rw [← HZ2L.out]; exact hlt
     obtain ⟨b, off, rfl, hb⟩ := HZ2.out.pos (by omega)
     obtain ⟨Ak, nk, ck, -, hcell, -⟩ := HZ2.out.at hkl
     have hcell' : ∀ i v, (seC L2[k] (.slice Ak nk ck))[i]? = some v → wr.cell? ⟨b, off + k * 13 + i, none⟩ = some v := fun i v hv => (Below.cell (HG0.out.trans' (((HG2.out.trans HG.out)).mono (show w.heap.size ≤ w.heap.size + 2 by omega))) hb).trans (hcell i v hv)
     have HT := hid (takeS L2 k hkl)
     unfold seC at hcell'
     generalize L2[k] = s at hcell' HT
     have t0 : wr.cell? ⟨b, off + k * 13, none⟩ = _ := hcell' 0 _ rfl
     have t1 := hcell' 1 _ rfl
     have t2 := hcell' 2 _ rfl
     have t3 := hcell' 3 _ rfl
     have t4 := hcell' 4 _ rfl
     have t5 := hcell' 5 _ rfl
     have t6 := hcell' 6 _ rfl
     have t7 := hcell' 7 _ rfl
     have t8 := hcell' 8 _ rfl
     have t9 := hcell' 9 _ rfl
     have t10 := hcell' 10 _ rfl
     have t11 := hcell' 11 _ rfl
     have t12 := hcell' 12 _ rfl
     clear hcell hcell' hb
     have HBR : Hid (Blk ((wr.alloc (.cells #[.int .u32 (s.name : Nat), .int .u32 (s.typ : Nat), .int .u64 (s.flags : Nat), .int .u64 (s.addr : Nat), .int .u64 (s.size : Nat), .int .u32 (s.link : Nat), .int .u32 (s.info : Nat), .int .u64 (s.align : Nat), .int .u64 (s.entsize : Nat), .int .i64 s.pl.inn, .int .u64 (s.pl.off : Nat), .int .u64 (s.pl.size : Nat), .slice Ak nk ck] 50)).alloc (.cells #[.int .u64 (s.flags : Nat), .int .u64 (s.addr : Nat), .int .u64 (s.size : Nat), .int .u64 (s.align : Nat), .int .u64 (s.entsize : Nat)] 28)) (wr.heap.size + 1) 28 ([s.flags, s.addr, s.size, s.align, s.entsize].map (ival .u64)).toArray) := hid ((blk2 rfl).2.1)
     have hga : Grow wr ((wr.alloc (.cells #[.int .u32 (s.name : Nat), .int .u32 (s.typ : Nat), .int .u64 (s.flags : Nat), .int .u64 (s.addr : Nat), .int .u64 (s.size : Nat), .int .u32 (s.link : Nat), .int .u32 (s.info : Nat), .int .u64 (s.align : Nat), .int .u64 (s.entsize : Nat), .int .i64 s.pl.inn, .int .u64 (s.pl.off : Nat), .int .u64 (s.pl.size : Nat), .slice Ak nk ck] 50)).alloc (.cells #[.int .u64 (s.flags : Nat), .int .u64 (s.addr : Nat), .int .u64 (s.size : Nat), .int .u64 (s.align : Nat), .int .u64 (s.entsize : Nat)] 28)) := (blk2 rfl).2.2
     have HO3 := hid (HO.out.keep hga)
     have HG3 : Hid (Below (w.heap.size + 2) wo ((wr.alloc (.cells #[.int .u32 (s.name : Nat), .int .u32 (s.typ : Nat), .int .u64 (s.flags : Nat), .int .u64 (s.addr : Nat), .int .u64 (s.size : Nat), .int .u32 (s.link : Nat), .int .u32 (s.info : Nat), .int .u64 (s.align : Nat), .int .u64 (s.entsize : Nat), .int .i64 s.pl.inn, .int .u64 (s.pl.off : Nat), .int .u64 (s.pl.size : Nat), .slice Ak nk ck] 50)).alloc (.cells #[.int .u64 (s.flags : Nat), .int .u64 (s.addr : Nat), .int .u64 (s.size : Nat), .int .u64 (s.align : Nat), .int .u64 (s.entsize : Nat)] 28))) := HG.out.trans (hga.mono HSz.out)
     have HS3 : Hid ((w.heap.size + 2) ≤ ((wr.alloc (.cells #[.int .u32 (s.name : Nat), .int .u32 (s.typ : Nat), .int .u64 (s.flags : Nat), .int .u64 (s.addr : Nat), .int .u64 (s.size : Nat), .int .u32 (s.link : Nat), .int .u32 (s.info : Nat), .int .u64 (s.align : Nat), .int .u64 (s.entsize : Nat), .int .i64 s.pl.inn, .int .u64 (s.pl.off : Nat), .int .u64 (s.pl.size : Nat), .slice Ak nk ck] 50)).alloc (.cells #[.int .u64 (s.flags : Nat), .int .u64 (s.addr : Nat), .int .u64 (s.size : Nat), .int .u64 (s.align : Nat), .int .u64 (s.entsize : Nat)] 28)).heap.size) := Nat.le_trans HSz.out hga.size
     have HE : Hid ((en :: (L1.flatMap Sg.nums ++ (L2.take (k + 1)).flatMap Se.nums)) = (en :: (L1.flatMap Sg.nums ++ (L2.take k).flatMap Se.nums)) ++ [s.flags, s.addr, s.size, s.align, s.entsize]) := hid (by rw [HT.out]; simp [Se.nums])
     clear hga HT HO HG
     go_wp2_with (at_builtin; refine wpList_appendM ((wr.alloc (.cells #[.int .u32 (s.name : Nat), .int .u32 (s.typ : Nat), .int .u64 (s.flags : Nat), .int .u64 (s.addr : Nat), .int .u64 (s.size : Nat), .int .u32 (s.link : Nat), .int .u32 (s.info : Nat), .int .u64 (s.align : Nat), .int .u64 (s.entsize : Nat), .int .i64 s.pl.inn, .int .u64 (s.pl.off : Nat), .int .u64 (s.pl.size : Nat), .slice Ak nk ck] 50)).alloc (.cells #[.int .u64 (s.flags : Nat), .int .u64 (s.addr : Nat), .int .u64 (s.size : Nat), .int .u64 (s.align : Nat), .int .u64 (s.entsize : Nat)] 28)) rfl (.tmp 70) (.tmp 81) 51 rfl (w.heap.size + 2) 28 .u64 8 Try.underlying51 (by kernel_rfl) A _ c _ rfl HO3.out (wr.heap.size + 1) _ 5 [s.flags, s.addr, s.size, s.align, s.entsize] rfl rfl HBR.out (by omega) (by unfold maxLen; omega) (by omega) HS3.out ?_; intro A5 c5 w6 ho5 hb5; refine Hid.out ?_)
     have HG6 : Hid (Below (w.heap.size + 2) wo w6) := HG3.out.trans hb5
     have HS6 : Hid ((w.heap.size + 2) ≤ w6.heap.size) := Nat.le_trans HS3.out hb5.size
     have HO6 : Hid (ON w6 (w.heap.size + 2) 28 .u64 A5 ((1 + 4 * n1 + 5 * k) + 5) c5 (en :: (L1.flatMap Sg.nums ++ (L2.take (k + 1)).flatMap Se.nums))) := by
      rw [HE.out]
      exact ho5
     have e9 : (1 + 4 * n1 + 5 * (k + 1)) = (1 + 4 * n1 + 5 * k) + 5 := by omega
     clear ho5 hb5 HBR HO3 HG3 HS3 y9 t0 t1 t2 t3 t4 t5 t6 t7 t8 t9 t10 t11 t12
     refine hid ?_
     go_wp2
     go_roundw
     case rel => exact ⟨k + 1, A5, c5, by omega, by go_num, by rw [e9], by rw [e9]; exact HO6.out, HG6.out, HS6.out⟩
     case measure => simp [intOf]; omega
    ·obtain rfl : n2 = k := by omega
     have HO4 : Hid (ON wr (w.heap.size + 2) 28 .u64 A (1 + 4 * n1 + 5 * n2) c LN) := by
      have : L2.take n2 = L2 := by rw [List.take_of_length_le (by have := HZ2L.out; omega)]
      have h := HO.out
      rw [this, ← EN.out] at h
      exact h
     have hBf := HB2.out.below (HG2.out.trans HG.out) (show w.heap.size + 1 < w.heap.size + 2 by omega)
     have u0 := hBf.at 0
     have u1 := hBf.at 1
     have HGq : Hid (Grow w wr) := HG0.out.trans' ((HG2.out.trans HG.out).mono (show w.heap.size ≤ w.heap.size + 2 by omega))
     have HBq := hid (HB1.out.below (HG2.out.trans HG.out) (show w.heap.size < w.heap.size + 2 by omega))
     clear hBf HO HG HSz HG2 hlt hk HB1 HB2 HG0 EN
     go_wp2_with fail
     clear u0 u1 y9
     refine (HF.out _ _ _ _ HO4.out.ns).mono ?_
     rintro e w2 ⟨rfl, hg2⟩
     have HG2 : Hid (Grow w w2) := HGq.out.trans hg2
     have HB2 := hid (HBq.out.grow hg2)
     clear hg2 HGq HBq HO4 HF
     rw [← EF.out]
     clear EF
     cases fi with
     | false =>
      have E2 := hid (show C = 1 by rw [E.out, if_pos rfl])
      go_wp2
      go_ret
      exact r_ret E2.out _ rfl HG2.out
     | true =>
     rw [if_neg (by decide)] at E
     replace HS := hid (HS.out rfl)
     have y8 := HB2.out.at 8
     go_wp2_with fail
     clear y8
     generalize wr = wq
     go_loopw [10] (fun i wr => ∃ k : Nat, k ≤ n1 ∧ i = .int .i64 k ∧ (∀ s ∈ L1.take k, m.segC s = 0) ∧ Grow w2 wr) (fun i _ => n1 - (intOf i).toNat)
     case atStart => exact ⟨0, by omega, rfl, fun s h => absurd h (by simp), Grow.refl _⟩
     case round =>
      obtain ⟨k, hk, rfl, hz, hg⟩ := hrel
      have HZ0 := hid hz
      have HG := hid hg
      clear hz hg
      have y8 := (HB2.out.grow HG.out).at 8
      by_cases hlt : k < n1
      ·have hkl : k < L1.length := by rw [← HZ1L.out]; exact hlt
       obtain ⟨b, off, rfl, hb⟩ := HZ1.out.pos (by omega)
       obtain ⟨Ak, nk, ck, -, hcell, gk⟩ := HZ1.out.at hkl
       have HC := hid (show ∀ i v, (sgC L1[k] (.slice Ak nk ck))[i]? = some v → w.cell? ⟨b, off + k * 10 + i, none⟩ = some v from hcell)
       have HBb := hid hb
       have HGk := hid gk
       have HMem := hid (List.getElem_mem hkl)
       have HT := hid (takeS L1 k hkl)
       have HE3 := hid (fun h => fstC_at (f := m.segC) hkl HZ0.out h)
       generalize L1[k] = s at HC HGk HMem HT HE3
       have HSk := hid (HS.out s HMem.out Ak nk ck)
       unfold sgC at HC HSk
       clear hcell gk hb hkl
       go_wp2_with fail
       clear y8
       refine wp_region_chain [(0, true), (1, true), (2, true), (3, true), (4, true), (5, true), (6, false), (7, true)] (by kernel_rfl) (by kernel_rfl) (by kernel_rfl) ?_
       have HD : Hid (Grow w2 wr.drew) := HG.out.trans (Grow.of_drew _)
       clear HG
       generalize wr.drew = w3 at HD ⊢
       have q0 : ∀ W, Grow w3 W → W.cell? ⟨w.heap.size, 0, none⟩ = some (.bool wide) := fun W hW => (HB2.out.grow (HD.out.trans hW)).at 0
       have q1 : ∀ W, Grow w3 W → W.cell? ⟨w.heap.size, 1, none⟩ = some (.bool big) := fun W hW => (HB2.out.grow (HD.out.trans hW)).at 1
       have q2 : ∀ W, Grow w3 W → W.cell? ⟨w.heap.size, 2, none⟩ = some (x2) := fun W hW => (HB2.out.grow (HD.out.trans hW)).at 2
       have q3 : ∀ W, Grow w3 W → W.cell? ⟨w.heap.size, 3, none⟩ = some (x3) := fun W hW => (HB2.out.grow (HD.out.trans hW)).at 3
       have q4 : ∀ W, Grow w3 W → W.cell? ⟨w.heap.size, 4, none⟩ = some (x4) := fun W hW => (HB2.out.grow (HD.out.trans hW)).at 4
       have q5 : ∀ W, Grow w3 W → W.cell? ⟨w.heap.size, 5, none⟩ = some (x5) := fun W hW => (HB2.out.grow (HD.out.trans hW)).at 5
       have q6 : ∀ W, Grow w3 W → W.cell? ⟨w.heap.size, 6, none⟩ = some (x6) := fun W hW => (HB2.out.grow (HD.out.trans hW)).at 6
       have q7 : ∀ W, Grow w3 W → W.cell? ⟨w.heap.size, 7, none⟩ = some (.int .u64 (en : Nat)) := fun W hW => (HB2.out.grow (HD.out.trans hW)).at 7
       have q8 : ∀ W, Grow w3 W → W.cell? ⟨w.heap.size, 8, none⟩ = some (.slice (some ⟨b, off, none⟩) n1 c1) := fun W hW => (HB2.out.grow (HD.out.trans hW)).at 8
       have q9 : ∀ W, Grow w3 W → W.cell? ⟨w.heap.size, 9, none⟩ = some (.slice A2 n2 c2) := fun W hW => (HB2.out.grow (HD.out.trans hW)).at 9
       have q10 : ∀ W, Grow w3 W → W.cell? ⟨w.heap.size, 10, none⟩ = some (x10) := fun W hW => (HB2.out.grow (HD.out.trans hW)).at 10
       have r0 : ∀ W, Grow w3 W → W.cell? ⟨b, off + k * 10, none⟩ = some (.int .u32 (s.typ : Nat)) := fun W hW => (Below.cell ((HG2.out.trans HD.out).trans hW) HBb.out).trans (HC.out 0 _ rfl)
       have r1 : ∀ W, Grow w3 W → W.cell? ⟨b, off + k * 10 + 1, none⟩ = some (.int .u32 (s.flags : Nat)) := fun W hW => (Below.cell ((HG2.out.trans HD.out).trans hW) HBb.out).trans (HC.out 1 _ rfl)
       have r2 : ∀ W, Grow w3 W → W.cell? ⟨b, off + k * 10 + 2, none⟩ = some (.int .u64 (s.vaddr : Nat)) := fun W hW => (Below.cell ((HG2.out.trans HD.out).trans hW) HBb.out).trans (HC.out 2 _ rfl)
       have r3 : ∀ W, Grow w3 W → W.cell? ⟨b, off + k * 10 + 3, none⟩ = some (.int .u64 (s.paddr : Nat)) := fun W hW => (Below.cell ((HG2.out.trans HD.out).trans hW) HBb.out).trans (HC.out 3 _ rfl)
       have r4 : ∀ W, Grow w3 W → W.cell? ⟨b, off + k * 10 + 4, none⟩ = some (.int .u64 (s.memsz : Nat)) := fun W hW => (Below.cell ((HG2.out.trans HD.out).trans hW) HBb.out).trans (HC.out 4 _ rfl)
       have r5 : ∀ W, Grow w3 W → W.cell? ⟨b, off + k * 10 + 5, none⟩ = some (.int .u64 (s.align : Nat)) := fun W hW => (Below.cell ((HG2.out.trans HD.out).trans hW) HBb.out).trans (HC.out 5 _ rfl)
       have r6 : ∀ W, Grow w3 W → W.cell? ⟨b, off + k * 10 + 6, none⟩ = some (.int .i64 s.pl.inn) := fun W hW => (Below.cell ((HG2.out.trans HD.out).trans hW) HBb.out).trans (HC.out 6 _ rfl)
       have r7 : ∀ W, Grow w3 W → W.cell? ⟨b, off + k * 10 + 7, none⟩ = some (.int .u64 (s.pl.off : Nat)) := fun W hW => (Below.cell ((HG2.out.trans HD.out).trans hW) HBb.out).trans (HC.out 7 _ rfl)
       have r8 : ∀ W, Grow w3 W → W.cell? ⟨b, off + k * 10 + 8, none⟩ = some (.int .u64 (s.pl.size : Nat)) := fun W hW => (Below.cell ((HG2.out.trans HD.out).trans hW) HBb.out).trans (HC.out 8 _ rfl)
       have r9 : ∀ W, Grow w3 W → W.cell? ⟨b, off + k * 10 + 9, none⟩ = some (.slice Ak nk ck) := fun W hW => (Below.cell ((HG2.out.trans HD.out).trans hW) HBb.out).trans (HC.out 9 _ rfl)
       repeat ((first | (refine chain_take rfl (by rfl) ?_ (fun W hG => ?_) ?_; rotate_left; (go_simp; rfl)) | refine chain_skip rfl (by rfl) ?_); simp only [Act.put, List.setIfInBounds_toArray, List.set_cons_zero, List.set_cons_succ])
       clear q0 q1 q2 q3 q4 q5 q6 q7 q8 q9 q10 r0 r1 r2 r3 r4 r5 r6 r7 r8 r9
       refine chain_only rfl (by rfl) (fun K hK => ?_)
       go_simp
       refine (HSk.out w3 (HG2.out.trans HD.out) (HGk.out.grow (HG2.out.trans HD.out))).mono ?_
       rintro e w4 ⟨rfl, hg4⟩
       refine hK _ _ hg4 ?_
       have HG4 : Hid (Grow w2 w4) := HD.out.trans hg4
       clear hK K hg4 HD HSk
       repeat ((first | (refine chain_take rfl (by rfl) ?_ (fun W hG => ?_) ?_; rotate_left; (go_simp; rfl)) | refine chain_skip rfl (by rfl) ?_); simp only [Act.put, List.setIfInBounds_toArray, List.set_cons_zero, List.set_cons_succ])
       refine chain_done ?_
       obtain ⟨r, hr⟩ : ∃ r, m.segC s = r := ⟨_, rfl⟩
       rw [hr]
       by_cases hc : r = 0
       ·have d : ((r : Int) != 0) = false := by simp [hc]
        have HZ1 : Hid (∀ s ∈ L1.take (k + 1), m.segC s = 0) := hid fun a ha => by
         rw [HT.out] at ha
         rcases List.mem_append.1 ha with h | h
         ·exact HZ0.out a h
         ·obtain rfl : a = s := by simpa using h
          rw [hr, hc]
        clear hr hc
        go_wp2
        go_roundw
        case rel => exact ⟨k + 1, by omega, by go_num, HZ1.out, HG4.out⟩
        case measure => simp [intOf]; omega
       ·have d : ((r : Int) != 0) = true := by simp; omega
        have E2 := hid (show C = r by
         have hf := HE3.out (by rw [hr]; exact hc)
         rw [hr] at hf
         have h1 : cs = r := by rw [ES1.out, hf, if_neg hc]
         rw [E.out, h1, if_pos hc])
        clear hr hc
        go_wp2
        go_ret
        exact r_ret E2.out _ rfl (HG2.out.trans HG4.out)
      ·obtain rfl : n1 = k := by omega
       have HF0 : Hid (fstC m.segC L1 = 0) := hid (by
        refine fstC_zero.2 ?_
        have h := HZ0.out
        rwa [List.take_of_length_le (by have := HZ1L.out; omega)] at h)
       have ES1 := hid (show cs = if rises (loads L1) then 0 else 7 by rw [ES1.out, if_pos HF0.out])
       have HG3 : Hid (Grow w wr) := HG2.out.trans HG.out
       have HB3 := hid (HB2.out.grow HG.out)
       clear hk hlt HZ0 HF0 HG2 HG HB2 HS
       go_wp2_with fail
       clear y8
       generalize wr = w3 at HG3 HB3
       go_loopw [12] (fun i wr => ∃ k : Nat, k ≤ n1 ∧ i = .int .i64 k ∧ Hid (∀ i, i < k → ∀ j, j < i → okP L1 i j) ∧ Grow w3 wr) (fun i _ => n1 - (intOf i).toNat)
       case atStart => exact ⟨0, by omega, rfl, hid (fun i h => absurd h (by omega)), Grow.refl _⟩
       case round =>
        obtain ⟨k, hk, rfl, HA, hg⟩ := hrel
        have HG := hid hg
        clear hg
        have y8 := (HB3.out.grow HG.out).at 8
        by_cases hlt : k < n1
        ·have hkl : k < L1.length := by rw [← HZ1L.out]; exact hlt
         go_wp2_with fail
         clear y8
         generalize wr = w4 at HG
         go_loopw [13] (fun i wr => ∃ q : Nat, q ≤ k ∧ i = .int .i64 q ∧ Hid (∀ j, j < q → okP L1 k j) ∧ Grow w3 wr) (fun i _ => k - (intOf i).toNat)
         case atStart => exact ⟨0, by omega, rfl, hid (fun i h => absurd h (by omega)), HG.out⟩
         case round =>
          obtain ⟨q, hq, rfl, HA2, hg⟩ := hrel
          clear HG
          have HG := hid hg
          clear hg
          have HBx := hid (HB3.out.grow HG.out)
          have y8 := HBx.out.at 8
          by_cases hlq : q < k
          ·have hql : q < L1.length := by omega
           have hqn : q < n1 := by omega
           obtain ⟨b, off, rfl, hb⟩ := HZ1.out.pos (by omega)
           obtain ⟨Ak, nk, ck, -, hck, -⟩ := HZ1.out.at hkl
           obtain ⟨Aq, nq, cq, -, hcq, -⟩ := HZ1.out.at hql
           have c2 : w.cell? ⟨b, off + k * 10 + 2, none⟩ = some (.int .u64 (L1[k].vaddr : Nat)) := hck 2 _ rfl
           have c0 : w.cell? ⟨b, off + k * 10, none⟩ = some (.int .u32 (L1[k].typ : Nat)) := hck 0 _ rfl
           have p2 : w.cell? ⟨b, off + q * 10 + 2, none⟩ = some (.int .u64 (L1[q].vaddr : Nat)) := hcq 2 _ rfl
           have p4 : w.cell? ⟨b, off + q * 10 + 4, none⟩ = some (.int .u64 (L1[q].memsz : Nat)) := hcq 4 _ rfl
           have p0 : w.cell? ⟨b, off + q * 10, none⟩ = some (.int .u32 (L1[q].typ : Nat)) := hcq 0 _ rfl
           have HBel := hid (fun w => refBelow_any L1[q].vaddr L1[q].memsz L1[k].vaddr w (HOk1.out _ (List.getElem_mem hql)).vaddr (HOk1.out _ (List.getElem_mem hql)).memsz)
           have HPk : Hid (okP L1 k q ↔ (L1[k].typ = 1 → L1[q].typ = 1 → belowN L1[q].vaddr L1[q].memsz L1[k].vaddr = true)) := hid (by unfold okP; rw [getD_atA _ _ k hkl, getD_atA _ _ q hql])
           generalize belowN L1[q].vaddr L1[q].memsz L1[k].vaddr = bl at HBel HPk
           generalize L1[k] = s at c2 c0 HBel HPk
           generalize L1[q] = t at p2 p4 p0 HBel HPk
           have HC2 := hid c2
           have HC0 := hid c0
           have HP2 := hid p2
           have HP4 := hid p4
           have HP0 := hid p0
           have HBb := hid hb
           clear hck hcq c2 c0 p2 p4 p0 hb hql
           go_wp2_with fail
           clear y8
           refine wp_region_chain [(0, true), (1, true), (2, true), (3, true), (4, true), (5, true), (6, true), (7, true), (8, true), (9, true), (10, true), (11, true), (12, true), (13, true), (14, true), (15, true), (16, true), (17, true), (18, false), (19, true)] (by kernel_rfl) (by kernel_rfl) (by kernel_rfl) ?_
           have HD : Hid (Grow w3 wr.drew) := HG.out.trans (Grow.of_drew _)
           clear HG HBx
           generalize wr.drew = w5 at HD ⊢
           have q8 : ∀ W, Grow w5 W → W.cell? ⟨w.heap.size, 8, none⟩ = some (.slice (some ⟨b, off, none⟩) n1 c1) := fun W hW => (HB3.out.grow (HD.out.trans hW)).at 8
           have c2 : ∀ W, Grow w5 W → W.cell? ⟨b, off + k * 10 + 2, none⟩ = some (.int .u64 (s.vaddr : Nat)) := fun W hW => (Below.cell ((HG3.out.trans HD.out).trans hW) HBb.out).trans HC2.out
           have p2 : ∀ W, Grow w5 W → W.cell? ⟨b, off + q * 10 + 2, none⟩ = some (.int .u64 (t.vaddr : Nat)) := fun W hW => (Below.cell ((HG3.out.trans HD.out).trans hW) HBb.out).trans HP2.out
           have p4 : ∀ W, Grow w5 W → W.cell? ⟨b, off + q * 10 + 4, none⟩ = some (.int .u64 (t.memsz : Nat)) := fun W hW => (Below.cell ((HG3.out.trans HD.out).trans hW) HBb.out).trans HP4.out
           repeat ((first | (refine chain_take rfl (by rfl) ?_ (fun W hG => ?_) ?_; rotate_left; (go_simp; rfl)) | refine chain_skip rfl (by rfl) ?_); simp only [Act.put, List.setIfInBounds_toArray, List.set_cons_zero, List.set_cons_succ])
           clear q8 c2 p2 p4
           refine chain_only rfl (by rfl) (fun K hK => ?_)
           go_simp
           refine (HBel.out w5).mono ?_
           rintro e w6 ⟨rfl, rfl⟩
           refine hK _ _ (Grow.refl _) ?_
           clear hK K HBel
           repeat ((first | (refine chain_take rfl (by rfl) ?_ (fun W hG => ?_) ?_; rotate_left; (go_simp; rfl)) | refine chain_skip rfl (by rfl) ?_); simp only [Act.put, List.setIfInBounds_toArray, List.set_cons_zero, List.set_cons_succ])
           refine chain_done ?_
           have y8 := (HB3.out.grow HD.out).at 8
           have c0 := (Below.cell (HG3.out.trans HD.out) HBb.out).trans HC0.out
           have p0 := (Below.cell (HG3.out.trans HD.out) HBb.out).trans HP0.out
           by_cases hs : s.typ = 1
           ·have ds : ((s.typ : Int) == 1) = true := by simp [hs]
            by_cases ht : t.typ = 1
            ·have dt : ((t.typ : Int) == 1) = true := by simp [ht]
             cases bl with
             | true =>
              have HA3 : Hid (∀ j, j < q + 1 → okP L1 k j) := hid fun j hj => by
               rcases Nat.lt_or_ge j q with h | h
               ·exact HA2.out j h
               ·obtain rfl : j = q := by omega
                exact HPk.out.2 (by simp_all)
              clear hs ht
              go_wp2
              go_roundw
              case rel => exact ⟨q + 1, by omega, by go_num, HA3, HD.out⟩
              case measure => simp [intOf]; omega
             | false =>
              have E2 := hid (show C = 7 by
               have hr : ¬ (rises (loads L1) = true) := fun h => by
                have := HPk.out.1 (HRi.out.1 h k hkl q hlq) hs ht
                cases this
               have h1 : cs = 7 := by rw [ES1.out, if_neg hr]
               rw [E.out, h1, if_pos (by decide)])
              clear hs ht
              go_wp2
              go_ret
              exact r_ret E2.out _ rfl (HG3.out.trans HD.out)
            ·have dt : ((t.typ : Int) == 1) = false := by simp; omega
             have HA3 : Hid (∀ j, j < q + 1 → okP L1 k j) := hid fun j hj => by
              rcases Nat.lt_or_ge j q with h | h
              ·exact HA2.out j h
              ·obtain rfl : j = q := by omega
               exact HPk.out.2 (by simp_all)
             clear hs ht
             go_wp2
             go_roundw
             case rel => exact ⟨q + 1, by omega, by go_num, HA3, HD.out⟩
             case measure => simp [intOf]; omega
           ·have ds : ((s.typ : Int) == 1) = false := by simp; omega
            have HA3 : Hid (∀ j, j < q + 1 → okP L1 k j) := hid fun j hj => by
             rcases Nat.lt_or_ge j q with h | h
             ·exact HA2.out j h
             ·obtain rfl : j = q := by omega
              exact HPk.out.2 (by simp_all)
            clear hs
            go_wp2
            go_roundw
            case rel => exact ⟨q + 1, by omega, by go_num, HA3, HD.out⟩
            case measure => simp [intOf]; omega
          ·obtain rfl : k = q := by omega
           have HA3 : Hid (∀ i, i < k + 1 → ∀ j, j < i → okP L1 i j) := hid fun i hi j hj => by
            rcases Nat.lt_or_ge i k with h | h
            ·exact HA.out i h j hj
            ·obtain rfl : i = k := by omega
             exact HA2.out j (by omega)
           go_wp2
           go_roundw
           case rel => exact ⟨k + 1, by omega, by go_num, HA3, HG.out⟩
           case measure => simp [intOf]; omega
        ·obtain rfl : n1 = k := by omega
         have hr : rises (loads L1) = true := HRi.out.2 (fun i hi => HA.out i (by have := HZ1L.out; omega))
         have E := hid (show C = if cc ≠ 0 then cc else cn by
          have h1 : cs = 0 := by rw [ES1.out, if_pos hr]
          rw [E.out, h1, if_neg (by decide)])
         have HG5 : Hid (Grow w wr) := HG3.out.trans HG.out
         have HB5 := hid (HB3.out.grow HG.out)
         clear hr hk hlt HA HG3 HG HB3 ES1 HRi
         have y9 := HB5.out.at 9
         go_wp2_with fail
         clear y8 y9
         generalize wr = w5 at HG5 HB5
         go_loopw [15] (fun i wr => ∃ k : Nat, k ≤ n2 ∧ i = .int .i64 k ∧ (∀ s ∈ L2.take k, m.secC s = 0) ∧ Grow w5 wr) (fun i _ => n2 - (intOf i).toNat)
         case atStart => exact ⟨0, by omega, rfl, fun s h => absurd h (by simp), Grow.refl _⟩
         case round =>
          obtain ⟨k, hk, rfl, hz, hg⟩ := hrel
          have HZ0 := hid hz
          have HG := hid hg
          have HB6 := hid (HB5.out.grow hg)
          clear hz hg
          have y9 := HB6.out.at 9
          by_cases hlt : k < n2
          ·have hkl : k < L2.length := by rw [← HZ2L.out]; exact hlt
           obtain ⟨b, off, rfl, hb⟩ := HZ2.out.pos (by omega)
           obtain ⟨Ak, nk, ck, -, hcell, gk⟩ := HZ2.out.at hkl
           have hcell' : ∀ i v, (seC L2[k] (.slice Ak nk ck))[i]? = some v → wr.cell? ⟨b, off + k * 13 + i, none⟩ = some v := fun i v hv => (Below.cell (HG5.out.trans HG.out) hb).trans (hcell i v hv)
           have HGk := hid gk
           have HT := hid (takeS L2 k hkl)
           have HE3 := hid (fun h => fstC_at (f := m.secC) hkl HZ0.out h)
           have hlk := (HOk2.out _ (List.getElem_mem hkl)).link
           generalize L2[k] = s at hcell' HGk HT HE3 hlk
           have HPk := hid (HP.out s.pl Ak nk ck)
           have HED := hid (ED.out s)
           have HHd := hid (show s.held = if s.typ = 0 ∨ s.typ = 8 then 0 else s.size from rfl)
           unfold seC at hcell'
           unfold plC at HPk
           clear hcell gk hb hkl
           have t0 : wr.cell? ⟨b, off + k * 13, none⟩ = _ := hcell' 0 _ rfl
           have t1 := hcell' 1 _ rfl
           have t2 := hcell' 2 _ rfl
           have t3 := hcell' 3 _ rfl
           have t4 := hcell' 4 _ rfl
           have t5 := hcell' 5 _ rfl
           have t6 := hcell' 6 _ rfl
           have t7 := hcell' 7 _ rfl
           have t8 := hcell' 8 _ rfl
           have t9 := hcell' 9 _ rfl
           have t10 := hcell' 10 _ rfl
           have t11 := hcell' 11 _ rfl
           have t12 := hcell' 12 _ rfl
           clear hcell'
           have hga : Grow wr (wr.alloc (.cells #[.int .u32 (s.name : Nat), .int .u32 (s.typ : Nat), .int .u64 (s.flags : Nat), .int .u64 (s.addr : Nat), .int .u64 (s.size : Nat), .int .u32 (s.link : Nat), .int .u32 (s.info : Nat), .int .u64 (s.align : Nat), .int .u64 (s.entsize : Nat), .int .i64 s.pl.inn, .int .u64 (s.pl.off : Nat), .int .u64 (s.pl.size : Nat), .slice Ak nk ck] 50)) := (blk1 rfl).2
           have HBs := hid (HB6.out.grow hga)
           clear hga
           have v0 := HBs.out.at 0
           have v1 := HBs.out.at 1
           have v2 := HBs.out.at 2
           have v3 := HBs.out.at 3
           have v4 := HBs.out.at 4
           have v5 := HBs.out.at 5
           have v6 := HBs.out.at 6
           have v7 := HBs.out.at 7
           have v8 := HBs.out.at 8
           have v9 := HBs.out.at 9
           have v10 := HBs.out.at 10
           clear HBs
           go_wp2_with fail
           generalize hW : World.alloc _ _ = W6
           obtain ⟨b7, hg7⟩ := blk1 hW
           clear y9 t0 t1 t2 t3 t4 t5 t6 t7 t8 t9 t10 t11 t12 v0 v1 v2 v3 v4 v5 v6 v7 v8 v9 v10
           clear hW
           have HG7 : Hid (Grow w W6) := (HG5.out.trans HG.out).trans hg7
           have HG8 : Hid (Grow w5 W6) := HG.out.trans hg7
           have HB7 := hid b7
           have HB8 := hid (HB6.out.grow hg7)
           clear hg7 b7 HG HB6
           refine (HPk.out _ HG7.out (HGk.out.grow HG7.out)).mono ?_
           rintro e w7 ⟨rfl, hg⟩
           have HG9 : Hid (Grow w w7) := HG7.out.trans hg
           have HG10 : Hid (Grow w5 w7) := HG8.out.trans hg
           have HB9 := hid (HB7.out.grow hg)
           have HB10 := hid (HB8.out.grow hg)
           clear hg HG7 HG8 HB7 HB8 HPk HGk
           have z1 := HB9.out.at 1
           have z4 := HB9.out.at 4
           have z5 := HB9.out.at 5
           have z11 := HB9.out.at 11
           have y9 := HB10.out.at 9
           have zl : IntKind.i64.wrap (s.link : Int) = (s.link : Int) := by rw [IntKind.wrap_i64]; omega
           generalize m.may s.pl = my at HED ⊢
           generalize s.held = hd at HED HHd
           generalize s.pl.size = ps at HED z11 ⊢
           generalize s.size = sz at HHd z4 ⊢
           generalize s.typ = ty at HHd z1 ⊢
           generalize s.link = lk at HED z5 zl hlk ⊢
           by_cases ht0 : ty = 0
           ·have d0 : ((ty : Int) == 0) = true := by simp [ht0]
            replace HHd : Hid (hd = 0) := hid (by rw [HHd.out, if_pos (.inl ht0)])
            clear ht0
            cases my with
            | false =>
             have E2 := hid (show C = 1 by
              have h1 : m.secC s = 1 := by rw [HED.out, if_pos rfl]
              have h2 : cc = 1 := by rw [ES2.out, HE3.out (by omega), h1]
              rw [E.out, h2, if_pos (by decide)])
             go_wp2
             go_ret
             exact r_ret E2.out _ rfl HG9.out
            | true =>
            rw [if_neg (by decide)] at HED
            by_cases hps : ps = 0
            ·have d : ((ps : Int) != (0 : Int)) = false := by simp [hps]
             rw [if_neg (by rw [HHd.out]; exact fun h => h hps)] at HED
             by_cases hk2 : n2 < lk
             ·have e1 : decide (n2 < lk) = true := decide_eq_true hk2
              have e2 : decide ((n2 : Int) < (lk : Int)) = true := decide_eq_true (by omega)
              have E2 := hid (show C = 10 by
               have h1 : m.secC s = 10 := by rw [HED.out, if_pos hk2]
               have h2 : cc = 10 := by rw [ES2.out, HE3.out (by omega), h1]
               rw [E.out, h2, if_pos (by decide)])
              clear hk2 hps
              go_wp2
              go_ret
              exact r_ret E2.out _ rfl HG9.out
             ·have e1 : decide (n2 < lk) = false := decide_eq_false hk2
              have e2 : decide ((n2 : Int) < (lk : Int)) = false := decide_eq_false (by omega)
              have HZ1 : Hid (∀ s ∈ L2.take (k + 1), m.secC s = 0) := hid fun a ha => by
               rw [HT.out] at ha
               rcases List.mem_append.1 ha with h | h
               ·exact HZ0.out a h
               ·obtain rfl : a = s := by simpa using h
                rw [HED.out, if_neg hk2]
              clear hk2 hps
              go_wp2
              go_roundw
              case rel => exact ⟨k + 1, by omega, by go_num, HZ1.out, HG10.out⟩
              case measure => simp [intOf]; omega
            ·have d : ((ps : Int) != (0 : Int)) = true := by simp; omega
             have E2 := hid (show C = 1 by
              have h1 : m.secC s = 1 := by rw [HED.out, if_pos (by rw [HHd.out]; exact hps)]
              have h2 : cc = 1 := by rw [ES2.out, HE3.out (by omega), h1]
              rw [E.out, h2, if_pos (by decide)])
             clear hps
             go_wp2
             go_ret
             exact r_ret E2.out _ rfl HG9.out
           by_cases ht8 : ty = 8
           ·have d0 : ((ty : Int) == 0) = false := by simp; omega
            have d8 : ((ty : Int) == 8) = true := by simp [ht8]
            replace HHd : Hid (hd = 0) := hid (by rw [HHd.out, if_pos (.inr ht8)])
            clear ht0 ht8
            cases my with
            | false =>
             have E2 := hid (show C = 1 by
              have h1 : m.secC s = 1 := by rw [HED.out, if_pos rfl]
              have h2 : cc = 1 := by rw [ES2.out, HE3.out (by omega), h1]
              rw [E.out, h2, if_pos (by decide)])
             go_wp2
             go_ret
             exact r_ret E2.out _ rfl HG9.out
            | true =>
            rw [if_neg (by decide)] at HED
            by_cases hps : ps = 0
            ·have d : ((ps : Int) != (0 : Int)) = false := by simp [hps]
             rw [if_neg (by rw [HHd.out]; exact fun h => h hps)] at HED
             by_cases hk2 : n2 < lk
             ·have e1 : decide (n2 < lk) = true := decide_eq_true hk2
              have e2 : decide ((n2 : Int) < (lk : Int)) = true := decide_eq_true (by omega)
              have E2 := hid (show C = 10 by
               have h1 : m.secC s = 10 := by rw [HED.out, if_pos hk2]
               have h2 : cc = 10 := by rw [ES2.out, HE3.out (by omega), h1]
               rw [E.out, h2, if_pos (by decide)])
              clear hk2 hps
              go_wp2
              go_ret
              exact r_ret E2.out _ rfl HG9.out
             ·have e1 : decide (n2 < lk) = false := decide_eq_false hk2
              have e2 : decide ((n2 : Int) < (lk : Int)) = false := decide_eq_false (by omega)
              have HZ1 : Hid (∀ s ∈ L2.take (k + 1), m.secC s = 0) := hid fun a ha => by
               rw [HT.out] at ha
               rcases List.mem_append.1 ha with h | h
               ·exact HZ0.out a h
               ·obtain rfl : a = s := by simpa using h
                rw [HED.out, if_neg hk2]
              clear hk2 hps
              go_wp2
              go_roundw
              case rel => exact ⟨k + 1, by omega, by go_num, HZ1.out, HG10.out⟩
              case measure => simp [intOf]; omega
            ·have d : ((ps : Int) != (0 : Int)) = true := by simp; omega
             have E2 := hid (show C = 1 by
              have h1 : m.secC s = 1 := by rw [HED.out, if_pos (by rw [HHd.out]; exact hps)]
              have h2 : cc = 1 := by rw [ES2.out, HE3.out (by omega), h1]
              rw [E.out, h2, if_pos (by decide)])
             clear hps
             go_wp2
             go_ret
             exact r_ret E2.out _ rfl HG9.out
           ·have d0 : ((ty : Int) == 0) = false := by simp; omega
            have d8 : ((ty : Int) == 8) = false := by simp; omega
            replace HHd : Hid (hd = sz) := hid (by rw [HHd.out, if_neg (by omega)])
            clear ht0 ht8
            cases my with
            | false =>
             have E2 := hid (show C = 1 by
              have h1 : m.secC s = 1 := by rw [HED.out, if_pos rfl]
              have h2 : cc = 1 := by rw [ES2.out, HE3.out (by omega), h1]
              rw [E.out, h2, if_pos (by decide)])
             go_wp2
             go_ret
             exact r_ret E2.out _ rfl HG9.out
            | true =>
            rw [if_neg (by decide)] at HED
            by_cases hps : ps = sz
            ·have d : ((ps : Int) != (sz : Int)) = false := by simp [hps]
             rw [if_neg (by rw [HHd.out]; exact fun h => h hps)] at HED
             by_cases hk2 : n2 < lk
             ·have e1 : decide (n2 < lk) = true := decide_eq_true hk2
              have e2 : decide ((n2 : Int) < (lk : Int)) = true := decide_eq_true (by omega)
              have E2 := hid (show C = 10 by
               have h1 : m.secC s = 10 := by rw [HED.out, if_pos hk2]
               have h2 : cc = 10 := by rw [ES2.out, HE3.out (by omega), h1]
               rw [E.out, h2, if_pos (by decide)])
              clear hk2 hps
              go_wp2
              go_ret
              exact r_ret E2.out _ rfl HG9.out
             ·have e1 : decide (n2 < lk) = false := decide_eq_false hk2
              have e2 : decide ((n2 : Int) < (lk : Int)) = false := decide_eq_false (by omega)
              have HZ1 : Hid (∀ s ∈ L2.take (k + 1), m.secC s = 0) := hid fun a ha => by
               rw [HT.out] at ha
               rcases List.mem_append.1 ha with h | h
               ·exact HZ0.out a h
               ·obtain rfl : a = s := by simpa using h
                rw [HED.out, if_neg hk2]
              clear hk2 hps
              go_wp2
              go_roundw
              case rel => exact ⟨k + 1, by omega, by go_num, HZ1.out, HG10.out⟩
              case measure => simp [intOf]; omega
            ·have d : ((ps : Int) != (sz : Int)) = true := by simp; omega
             have E2 := hid (show C = 1 by
              have h1 : m.secC s = 1 := by rw [HED.out, if_pos (by rw [HHd.out]; exact hps)]
              have h2 : cc = 1 := by rw [ES2.out, HE3.out (by omega), h1]
              rw [E.out, h2, if_pos (by decide)])
             clear hps
             go_wp2
             go_ret
             exact r_ret E2.out _ rfl HG9.out
          ·obtain rfl : n2 = k := by omega
           have E2 := hid (show C = cn by
            have h := HZ0.out
            rw [List.take_of_length_le (by have := HZ2L.out; omega)] at h
            have h1 : cc = 0 := by rw [ES2.out]; exact fstC_zero.2 h
            rw [E.out, h1, if_neg (by decide)])
           have HG6 : Hid (Grow w wr) := HG5.out.trans HG.out
           have v0 := HB6.out.at 0
           have v1 := HB6.out.at 1
           have v2 := HB6.out.at 2
           have v3 := HB6.out.at 3
           have v4 := HB6.out.at 4
           have v5 := HB6.out.at 5
           have v6 := HB6.out.at 6
           have v7 := HB6.out.at 7
           have v8 := HB6.out.at 8
           have v10 := HB6.out.at 10
           go_wp2_with fail
           refine (HN.out _ HG6.out).mono ?_
           rintro e w6 ⟨rfl, hg6⟩
           have HG7 : Hid (Grow w w6) := HG6.out.trans hg6
           clear hg6
           go_wp2
           go_ret
           exact r_ret E2.out _ rfl HG7.out
end Go.Proofs.Ytfpihkbpelbcbaa
