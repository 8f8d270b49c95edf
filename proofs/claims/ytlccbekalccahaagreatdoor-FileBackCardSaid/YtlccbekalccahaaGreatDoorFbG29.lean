/-
  Several texts in one: What was written is read by Parse; and the document's example (up); The contract of model.
-/
import Derived.Test.YtlccbekalccahaaGreatDoorFbG25
import Derived.Test.YtlccbekalccahaaGreatDoorFbG26
import Derived.Test.YtlccbekalccahaaGreatDoorFlParse
import Derived.Test.YtlccbekalccahaaGreatDoorFbG8
import Derived.Test.YtlccbekalccahaaGreatDoorFbG12
import Derived.Test.YtlccbekalccahaaGreatDoorFbG1
import Derived.Test.YtlccbekalccahaaGreatDoorFbG11

namespace Go.Proofs.YtlccbekalccahaaGreatDoor
open Go.RowKit
set_option maxRecDepth 100000

theorem Blk.rb {w : World} {g : Nat} {t : TypeId} {l : List UInt8} (h : Blk w g t (l.map byt).toArray) (hm : l.length ≤ maxLen) : RB w w.heap.size (some ⟨g, 0, none⟩) l.length l.length l :=
  ⟨rfl, Nat.le_refl _, hm, fun _ => ⟨g, 0, rfl, h.lt, fun j hj => by
    rw [Nat.zero_add, h.at j]
    simp [byt, hj]⟩⟩
/-- What Parse answers at what was written. -/
def BackR (m : Md) (w : World) (e : Ending) (w' : World) : Prop :=
  ∃ A1 n1 c1 A2 n2 c2, e = .returned (.tuple #[.agg (mdC m (.slice A1 n1 c1) (.slice A2 n2 c2)), .nilIface]) ∧ ZR sgK w' w'.heap.size A1 n1 c1 m.segs ∧ ZR seK w' w'.heap.size A2 n2 c2 m.secs ∧ Grow w w'
theorem parse_back (m : Md) (h : Good m) (L r : List UInt8) (hf : FileIs m L) (hl : (L ++ r).length ≤ 65536) (A : Option Addr) (n c : Nat) (w : World) (hr : RB w w.heap.size A n c (L ++ r)) (hd : Door w) :
    Calls Tryz.prog 11 #[.slice A n c] w (BackR m w) := by
  refine Calls.mono (parse_any _ A n c w hr hd) ?_
  rintro e w' ⟨c, p, m', v, A1, n1, c1, A2, n2, c2, rfl, ht, he, z1, z2, hg⟩
  obtain ⟨rfl, rfl, rfl⟩ := ht.one ((wrote_of h hf hl).back (fun i hi => h.pgFits hi) (fun i hi => h.scFits hi))
  rcases he with ⟨_, _, rfl⟩ | ⟨h0, _⟩
  · exact ⟨A1, n1, c1, A2, n2, c2, rfl, z1, z2, hg⟩
  · omega
theorem ptold_nil {c p : Nat} {m : Md} (h : PTold [] c p m) : c = 2 ∧ p = 0 ∧ m = mdN := by
  have key : ∀ {c p : Nat} {v : Value}, HTold [] c p v → c = 2 ∧ p = 0 := fun h => by
    rcases h with ⟨h0, h1, _⟩ | ⟨h1, _⟩
    · rcases h1 with ⟨h, _⟩ | ⟨h, h', _⟩ | ⟨_, _, _, h, _⟩
      · omega
      · exact ⟨h, h'⟩
      · simp at h
    · rcases h1 with ⟨_, _, _, h⟩ | ⟨h, _⟩ | ⟨h, _⟩
      · simp at h
      · omega
      · omega
  rcases h with ⟨h, _⟩ | ⟨_, _, h, _⟩ | ⟨_, h, _⟩
  · simp at h
  · rename_i e
    exact ⟨(key h).1, (key h).2, e⟩
  · exact absurd (key h).1 (by decide)
theorem parse_nil (w : World) (hd : Door w) : Calls Tryz.prog 11 #[.slice none 0 0] w fun e w' => ∃ A1 c1 A2 c2 v, e = .returned (.tuple #[.agg #[.bool false, .bool false, .int .u8 0, .int .u8 0, .int .u16 0, .int .u16 0, .int .u32 0, .int .u64 0, .slice A1 0 c1, .slice A2 0 c2, .int .i64 0], v]) ∧ Err w' v 2 0 ∧ Grow w w' := by
  refine Calls.mono (parse_any [] none 0 0 w RB.nil hd) ?_
  rintro e w' ⟨c, p, m', v, A1, n1, c1, A2, n2, c2, rfl, ht, he, z1, z2, hg⟩
  obtain ⟨rfl, rfl, rfl⟩ := ptold_nil ht
  obtain rfl : n1 = 0 := z1.len
  obtain rfl : n2 = 0 := z2.len
  exact ⟨A1, c1, A2, c2, v, rfl, he, hg⟩
/-- A model without segments and sections, of Type 2. -/
def md2 : Md := ⟨false, false, 0, 0, 2, 0, 0, 0, [], [], 0⟩
theorem md2_ok : md2.Ok := ⟨by simp [md2], by simp [md2], by simp [md2], by simp [md2], by simp [md2], by simp [md2], by simp [md2], by simp [md2], by unfold I64; simp [md2]⟩
theorem md2_plan : md2.planC = 0 := by decide
theorem md2_eT : md2.eT = 52 := by decide
theorem md2_good : Good md2 := ⟨md2_ok, md2_plan, fun s hs => absurd hs (by simp [md2]), fun s hs => absurd hs (by simp [md2])⟩
theorem encode2 (w : World) : Calls Tryz.prog 8 #[.agg #[.bool false, .bool false, .int .u8 0, .int .u8 0, .int .u16 2, .int .u16 0, .int .u32 0, .int .u64 0, .slice none 0 0, .slice none 0 0, .int .i64 0]] w fun e w' =>
    ∃ g L, e = .returned (.tuple #[.slice (some ⟨g, 0, none⟩) 52 52, .nilIface]) ∧ FileIs md2 L ∧ RB w' w'.heap.size (some ⟨g, 0, none⟩) 52 52 L ∧ Grow w w' := by
  refine Calls.mono (encode_any md2 md2_ok none none 0 0 0 0 w ZR.nil ZR.nil) ?_
  rintro e w' (⟨_, g, L, rfl, hf, hb, _, hg⟩ | ⟨h, _⟩)
  · have hl : L.length = 52 := hf.2.trans md2_eT
    have := hb.rb (by rw [hl]; decide)
    rw [hl] at this ⊢
    exact ⟨g, L, rfl, hf, this, hg⟩
  · exact absurd md2_plan h
theorem parse2 (L : List UInt8) (hf : FileIs md2 L) (A : Option Addr) (w : World) (hr : RB w w.heap.size A 52 52 L) (hd : Door w) : Calls Tryz.prog 11 #[.slice A 52 52] w fun e w' =>
    ∃ A1 c1 A2 n2 c2, e = .returned (.tuple #[.agg #[.bool false, .bool false, .int .u8 0, .int .u8 0, .int .u16 2, .int .u16 0, .int .u32 0, .int .u64 0, .slice A1 0 c1, .slice A2 n2 c2, .int .i64 0], .nilIface]) ∧ Grow w w' := by
  refine Calls.mono (parse_back md2 md2_good L [] hf (by rw [List.append_nil, hf.2, md2_eT]; decide) A 52 52 w (by rw [List.append_nil]; exact hr) hd) ?_
  rintro e w' ⟨A1, n1, c1, A2, n2, c2, rfl, z1, z2, hg⟩
  obtain rfl : n1 = 0 := z1.len
  exact ⟨A1, c1, A2, n2, c2, rfl, hg⟩

set_option maxHeartbeats 4000000 in
theorem up16 (w : World) (hd : Door w) : Calls Tryz.prog 6 #[] w fun e w' => e = .returned (.bool true) ∧ Grow w w' := by
  have HD := Lib.hid hd
  clear hd
  go_enter Tryz.func6, Tryz.ntmps6
  go_wp2_with fail
  refine (parse_nil _ HD.out).mono ?_
  rintro e w1 ⟨A1, c1, A2, c2, v, rfl, he, hg1⟩
  have HE := Lib.hid he
  have HG1 := Lib.hid hg1
  clear he hg1
  go_wp2_with fail
  generalize hW : World.alloc _ _ = W1
  obtain ⟨b1, hg2⟩ := blk1 hW
  clear hW b1
  have HE1 := Lib.hid (HE.out.grow hg2)
  have HG2 : Hid (Grow w W1) := HG1.out.trans hg2
  clear hg2 HG1 HE
  refine (spot_any v 2 0 W1 HE1.out (by decide) (by decide)).mono ?_
  rintro e w2 ⟨rfl, hg3⟩
  have HG3 : Hid (Grow w w2) := HG2.out.trans hg3
  clear hg3 HG2 HE1
  go_wp2_with fail
  refine (encode2 _).mono ?_
  rintro e w3 ⟨g, L, rfl, hf, hr, hg4⟩
  have HF := Lib.hid hf
  have HR := Lib.hid hr
  have HG4 : Hid (Grow w w3) := HG3.out.trans hg4
  have HD4 := Lib.hid (HD.out.grow HG4.out)
  clear hf hr hg4 HG3 HD
  go_wp2_with fail
  refine (parse2 L HF.out _ _ HR.out HD4.out).mono ?_
  rintro e w4 ⟨A3, c3, A4, n4, c4, rfl, hg5⟩
  have HG5 : Hid (Grow w w4) := HG4.out.trans hg5
  clear hg5 HG4 HR HF HD4
  go_wp2
  go_ret
  exact ⟨rfl, HG5.out.trans (Grow.of_alloc _ _)⟩
end Go.Proofs.YtlccbekalccahaaGreatDoor

namespace Go.Proofs.YtlccbekalccahaaGreatDoor
open Go.RowKit
set_option maxRecDepth 100000

theorem bEqual_any (A A' : Option Addr) (n c n' c' : Nat) (l : List UInt8) (w : World) (h : RB w w.heap.size A n c l) (h' : RB w w.heap.size A' n' c' l) :
    Calls Tryz.prog 122 #[.slice A n c, .slice A' n' c'] w fun e w' => e = .returned (.bool true) ∧ w = w' := by
  have hs1 := (h.conv (Nat.le_refl _)) w (Grow.refl _)
  have hs2 := (h'.conv (Nat.le_refl _)) w (Grow.refl _)
  clear h h'
  go_enter Tryz.func122, Tryz.ntmps122
  go_wp2
  go_ret
  exact ⟨rfl, rfl⟩
set_option maxHeartbeats 4000000 in
theorem samePlace_any (p : Pl) (A A' : Option Addr) (n c n' c' : Nat) (w : World) (h : RB w w.heap.size A n c p.own) (h' : RB w w.heap.size A' n' c' p.own) :
    Calls Tryz.prog 83 #[.agg (plC p (.slice A n c)), .agg (plC p (.slice A' n' c'))] w fun e w' => e = .returned (.bool true) ∧ Grow w w' := by
  have HE := Lib.hid (fun W (hg : Grow w W) => bEqual_any A A' n c n' c' p.own W (h.grow hg) (h'.grow hg))
  unfold plC
  clear h h'
  generalize p.inn = i
  generalize p.off = o
  generalize p.size = z
  go_enter Tryz.func83, Tryz.ntmps83
  go_wp2_with fail
  refine (HE.out _ ((Grow.of_alloc _ _).trans (Grow.of_alloc _ _))).mono ?_
  rintro e w' ⟨rfl, rfl⟩
  clear HE
  go_wp2
  go_ret
  exact ⟨rfl, (Grow.of_alloc _ _).trans (Grow.of_alloc _ _)⟩
set_option maxHeartbeats 8000000 in
theorem sameSeg_any (s : Sg) (A A' : Option Addr) (n c n' c' : Nat) (w : World) (h : RB w w.heap.size A n c s.pl.own) (h' : RB w w.heap.size A' n' c' s.pl.own) :
    Calls Tryz.prog 38 #[.agg (sgC s (.slice A n c)), .agg (sgC s (.slice A' n' c'))] w fun e w' => e = .returned (.bool true) ∧ Grow w w' := by
  have HE := Lib.hid (fun W (hg : Grow w W) => samePlace_any s.pl A A' n c n' c' W (h.grow hg) (h'.grow hg))
  unfold sgC
  unfold plC at HE
  clear h h'
  generalize s.pl.inn = i at HE ⊢
  generalize s.pl.off = o at HE ⊢
  generalize s.pl.size = z at HE ⊢
  generalize s.typ = f0
  generalize s.flags = f1
  generalize s.vaddr = f2
  generalize s.paddr = f3
  generalize s.memsz = f4
  generalize s.align = f5
  go_enter Tryz.func38, Tryz.ntmps38
  go_wp2_with fail
  generalize hW : World.alloc _ _ = W0
  obtain ⟨b1, b2, hg0⟩ := blk2 hW
  clear hW
  obtain ⟨x0, x1, x2, x3, x4, x5, x6, x7, x8, x9⟩ := b1.c10
  obtain ⟨y0, y1, y2, y3, y4, y5, y6, y7, y8, y9⟩ := b2.c10
  clear b1 b2
  go_wp2_with fail
  clear x0 x1 x2 x3 x4 x5 x6 x7 x8 x9 y0 y1 y2 y3 y4 y5 y6 y7 y8 y9
  refine (HE.out _ hg0).mono ?_
  rintro e w' ⟨rfl, hg⟩
  have HG : Hid (Grow w w') := Lib.hid (hg0.trans hg)
  clear HE hg0 hg
  go_wp2
  go_ret
  exact ⟨rfl, HG.out⟩
set_option maxHeartbeats 8000000 in
theorem eqSegs_any (A A' : Option Addr) (n c n' c' : Nat) (L : List Sg) (w : World) (h : ZR sgK w w.heap.size A n c L) (h' : ZR sgK w w.heap.size A' n' c' L) :
    Calls Tryz.prog 37 #[.slice A n c, .slice A' n' c', .func (.func 38) #[] #[]] w fun e w' => e = .returned (.bool true) ∧ Grow w w' := by
  obtain rfl : n' = n := h'.len.trans h.len.symm
  have HS := Lib.hid h
  have HS' := Lib.hid h'
  have HL := Lib.hid h.len
  have hc := h.cap
  have hm := h.max
  have hc' := h'.cap
  have hm' := h'.max
  unfold maxLen at hm hm'
  clear h h'
  go_enter Tryz.func37, Tryz.ntmps37
  go_wp2_with fail
  go_loopw [17] (fun i wr => ∃ k : Nat, k ≤ n' ∧ i = .int .i64 k ∧ Grow w wr) (fun i _ => n' - (intOf i).toNat)
  case atStart => exact ⟨0, Nat.zero_le _, rfl, Grow.refl _⟩
  case round =>
    obtain ⟨k, hk, rfl, hg⟩ := hrel
    by_cases hlt : k < n'
    · have HG := Lib.hid hg
      have hkl : k < L.length := by rw [← HL.out]; exact hlt
      obtain ⟨b, off, rfl, hb⟩ := HS.out.pos (by omega)
      obtain ⟨bb, off2, rfl, hbb⟩ := HS'.out.pos (by omega)
      obtain ⟨A1, n1, c1, -, p, g1⟩ := HS.out.at hkl
      obtain ⟨A3, n3, c3, -, q, g3⟩ := HS'.out.at hkl
      have p' : ∀ i v, (sgC L[k] (.slice A1 n1 c1))[i]? = some v → wr.cell? ⟨b, off + k * 10 + i, none⟩ = some v := fun i v hv => (Below.cell hg hb).trans (p i v hv)
      have q' : ∀ i v, (sgC L[k] (.slice A3 n3 c3))[i]? = some v → wr.cell? ⟨bb, off2 + k * 10 + i, none⟩ = some v := fun i v hv => (Below.cell hg hbb).trans (q i v hv)
      have hlt1 := Nat.lt_of_lt_of_le hb hg.size
      have hlt2 := Nat.lt_of_lt_of_le hbb hg.size
      have HE := Lib.hid (fun W (hW : Grow w W) => sameSeg_any L[k] A1 A3 n1 c1 n3 c3 W ((g1.belowAt hW (Nat.le_refl _)).more hW.size) ((g3.belowAt hW (Nat.le_refl _)).more hW.size))
      unfold sgC at p' q' HE
      clear p q g1 g3
      generalize L[k] = s at p' q' HE
      clear hkl hg
      have s0 : wr.cell? ⟨b, off + k * 10, none⟩ = _ := p' 0 _ rfl
      have s1 : wr.cell? ⟨b, off + k * 10 + 1, none⟩ = _ := p' 1 _ rfl
      have s2 : wr.cell? ⟨b, off + k * 10 + 2, none⟩ = _ := p' 2 _ rfl
      have s3 : wr.cell? ⟨b, off + k * 10 + 3, none⟩ = _ := p' 3 _ rfl
      have s4 : wr.cell? ⟨b, off + k * 10 + 4, none⟩ = _ := p' 4 _ rfl
      have s5 : wr.cell? ⟨b, off + k * 10 + 5, none⟩ = _ := p' 5 _ rfl
      have s6 : wr.cell? ⟨b, off + k * 10 + 6, none⟩ = _ := p' 6 _ rfl
      have s7 : wr.cell? ⟨b, off + k * 10 + 7, none⟩ = _ := p' 7 _ rfl
      have s8 : wr.cell? ⟨b, off + k * 10 + 8, none⟩ = _ := p' 8 _ rfl
      have s9 : wr.cell? ⟨b, off + k * 10 + 9, none⟩ = _ := p' 9 _ rfl
      have t0 : wr.cell? ⟨bb, off2 + k * 10, none⟩ = _ := q' 0 _ rfl
      have t1 : wr.cell? ⟨bb, off2 + k * 10 + 1, none⟩ = _ := q' 1 _ rfl
      have t2 : wr.cell? ⟨bb, off2 + k * 10 + 2, none⟩ = _ := q' 2 _ rfl
      have t3 : wr.cell? ⟨bb, off2 + k * 10 + 3, none⟩ = _ := q' 3 _ rfl
      have t4 : wr.cell? ⟨bb, off2 + k * 10 + 4, none⟩ = _ := q' 4 _ rfl
      have t5 : wr.cell? ⟨bb, off2 + k * 10 + 5, none⟩ = _ := q' 5 _ rfl
      have t6 : wr.cell? ⟨bb, off2 + k * 10 + 6, none⟩ = _ := q' 6 _ rfl
      have t7 : wr.cell? ⟨bb, off2 + k * 10 + 7, none⟩ = _ := q' 7 _ rfl
      have t8 : wr.cell? ⟨bb, off2 + k * 10 + 8, none⟩ = _ := q' 8 _ rfl
      have t9 : wr.cell? ⟨bb, off2 + k * 10 + 9, none⟩ = _ := q' 9 _ rfl
      clear p' q'
      have w0 : (0 : Int) ≤ (k : Int) := by omega
      have w1 : (k : Int) < (n' : Int) := by omega
      go_wp2_with fail
      refine (HE.out _ (HG.out.trans ((Grow.of_alloc _ _).trans (Grow.of_alloc _ _)))).mono ?_
      rintro e w' ⟨rfl, hg⟩
      have HG' : Hid (Grow w w') := Lib.hid (HG.out.trans (((Grow.of_alloc _ _).trans (Grow.of_alloc _ _)).trans hg))
      clear HE hg HG hlt1 hlt2 hb hbb s0 s1 s2 s3 s4 s5 s6 s7 s8 s9 t0 t1 t2 t3 t4 t5 t6 t7 t8 t9
      go_wp2
      go_roundw
      case rel => exact ⟨k + 1, by omega, by go_num, HG'.out⟩
      case measure => simp [intOf]; omega
    · have d : decide ((k : Int) < (n' : Int)) = false := decide_eq_false (by omega)
      go_wp2
      go_ret
      exact ⟨rfl, hg⟩
set_option maxHeartbeats 8000000 in
theorem sameSec_any (s : Se) (A A' : Option Addr) (n c n' c' : Nat) (w : World) (h : RB w w.heap.size A n c s.pl.own) (h' : RB w w.heap.size A' n' c' s.pl.own) :
    Calls Tryz.prog 40 #[.agg (seC s (.slice A n c)), .agg (seC s (.slice A' n' c'))] w fun e w' => e = .returned (.bool true) ∧ Grow w w' := by
  have HE := Lib.hid (fun W (hg : Grow w W) => samePlace_any s.pl A A' n c n' c' W (h.grow hg) (h'.grow hg))
  unfold seC
  unfold plC at HE
  clear h h'
  generalize s.pl.inn = i at HE ⊢
  generalize s.pl.off = o at HE ⊢
  generalize s.pl.size = z at HE ⊢
  generalize s.name = f0
  generalize s.typ = f1
  generalize s.flags = f2
  generalize s.addr = f3
  generalize s.size = f4
  generalize s.link = f5
  generalize s.info = f6
  generalize s.align = f7
  generalize s.entsize = f8
  go_enter Tryz.func40, Tryz.ntmps40
  go_wp2_with fail
  generalize hW : World.alloc _ _ = W0
  obtain ⟨b1, b2, hg0⟩ := blk2 hW
  clear hW
  obtain ⟨x0, x1, x2, x3, x4, x5, x6, x7, x8, x9, x10, x11, x12⟩ := b1.c13
  obtain ⟨y0, y1, y2, y3, y4, y5, y6, y7, y8, y9, y10, y11, y12⟩ := b2.c13
  clear b1 b2
  go_wp2_with fail
  clear x0 x1 x2 x3 x4 x5 x6 x7 x8 x9 x10 x11 x12 y0 y1 y2 y3 y4 y5 y6 y7 y8 y9 y10 y11 y12
  refine (HE.out _ hg0).mono ?_
  rintro e w' ⟨rfl, hg⟩
  have HG : Hid (Grow w w') := Lib.hid (hg0.trans hg)
  clear HE hg0 hg
  go_wp2
  go_ret
  exact ⟨rfl, HG.out⟩
set_option maxHeartbeats 8000000 in
theorem eqSecs_any (A A' : Option Addr) (n c n' c' : Nat) (L : List Se) (w : World) (h : ZR seK w w.heap.size A n c L) (h' : ZR seK w w.heap.size A' n' c' L) :
    Calls Tryz.prog 39 #[.slice A n c, .slice A' n' c', .func (.func 40) #[] #[]] w fun e w' => e = .returned (.bool true) ∧ Grow w w' := by
  obtain rfl : n' = n := h'.len.trans h.len.symm
  have HS := Lib.hid h
  have HS' := Lib.hid h'
  have HL := Lib.hid h.len
  have hc := h.cap
  have hm := h.max
  have hc' := h'.cap
  have hm' := h'.max
  unfold maxLen at hm hm'
  clear h h'
  go_enter Tryz.func39, Tryz.ntmps39
  go_wp2_with fail
  go_loopw [17] (fun i wr => ∃ k : Nat, k ≤ n' ∧ i = .int .i64 k ∧ Grow w wr) (fun i _ => n' - (intOf i).toNat)
  case atStart => exact ⟨0, Nat.zero_le _, rfl, Grow.refl _⟩
  case round =>
    obtain ⟨k, hk, rfl, hg⟩ := hrel
    by_cases hlt : k < n'
    · have HG := Lib.hid hg
      have hkl : k < L.length := by rw [← HL.out]; exact hlt
      obtain ⟨b, off, rfl, hb⟩ := HS.out.pos (by omega)
      obtain ⟨bb, off2, rfl, hbb⟩ := HS'.out.pos (by omega)
      obtain ⟨A1, n1, c1, -, p, g1⟩ := HS.out.at hkl
      obtain ⟨A3, n3, c3, -, q, g3⟩ := HS'.out.at hkl
      have p' : ∀ i v, (seC L[k] (.slice A1 n1 c1))[i]? = some v → wr.cell? ⟨b, off + k * 13 + i, none⟩ = some v := fun i v hv => (Below.cell hg hb).trans (p i v hv)
      have q' : ∀ i v, (seC L[k] (.slice A3 n3 c3))[i]? = some v → wr.cell? ⟨bb, off2 + k * 13 + i, none⟩ = some v := fun i v hv => (Below.cell hg hbb).trans (q i v hv)
      have hlt1 := Nat.lt_of_lt_of_le hb hg.size
      have hlt2 := Nat.lt_of_lt_of_le hbb hg.size
      have HE := Lib.hid (fun W (hW : Grow w W) => sameSec_any L[k] A1 A3 n1 c1 n3 c3 W ((g1.belowAt hW (Nat.le_refl _)).more hW.size) ((g3.belowAt hW (Nat.le_refl _)).more hW.size))
      unfold seC at p' q' HE
      clear p q g1 g3
      generalize L[k] = s at p' q' HE
      clear hkl hg
      have s0 : wr.cell? ⟨b, off + k * 13, none⟩ = _ := p' 0 _ rfl
      have s1 : wr.cell? ⟨b, off + k * 13 + 1, none⟩ = _ := p' 1 _ rfl
      have s2 : wr.cell? ⟨b, off + k * 13 + 2, none⟩ = _ := p' 2 _ rfl
      have s3 : wr.cell? ⟨b, off + k * 13 + 3, none⟩ = _ := p' 3 _ rfl
      have s4 : wr.cell? ⟨b, off + k * 13 + 4, none⟩ = _ := p' 4 _ rfl
      have s5 : wr.cell? ⟨b, off + k * 13 + 5, none⟩ = _ := p' 5 _ rfl
      have s6 : wr.cell? ⟨b, off + k * 13 + 6, none⟩ = _ := p' 6 _ rfl
      have s7 : wr.cell? ⟨b, off + k * 13 + 7, none⟩ = _ := p' 7 _ rfl
      have s8 : wr.cell? ⟨b, off + k * 13 + 8, none⟩ = _ := p' 8 _ rfl
      have s9 : wr.cell? ⟨b, off + k * 13 + 9, none⟩ = _ := p' 9 _ rfl
      have s10 : wr.cell? ⟨b, off + k * 13 + 10, none⟩ = _ := p' 10 _ rfl
      have s11 : wr.cell? ⟨b, off + k * 13 + 11, none⟩ = _ := p' 11 _ rfl
      have s12 : wr.cell? ⟨b, off + k * 13 + 12, none⟩ = _ := p' 12 _ rfl
      have t0 : wr.cell? ⟨bb, off2 + k * 13, none⟩ = _ := q' 0 _ rfl
      have t1 : wr.cell? ⟨bb, off2 + k * 13 + 1, none⟩ = _ := q' 1 _ rfl
      have t2 : wr.cell? ⟨bb, off2 + k * 13 + 2, none⟩ = _ := q' 2 _ rfl
      have t3 : wr.cell? ⟨bb, off2 + k * 13 + 3, none⟩ = _ := q' 3 _ rfl
      have t4 : wr.cell? ⟨bb, off2 + k * 13 + 4, none⟩ = _ := q' 4 _ rfl
      have t5 : wr.cell? ⟨bb, off2 + k * 13 + 5, none⟩ = _ := q' 5 _ rfl
      have t6 : wr.cell? ⟨bb, off2 + k * 13 + 6, none⟩ = _ := q' 6 _ rfl
      have t7 : wr.cell? ⟨bb, off2 + k * 13 + 7, none⟩ = _ := q' 7 _ rfl
      have t8 : wr.cell? ⟨bb, off2 + k * 13 + 8, none⟩ = _ := q' 8 _ rfl
      have t9 : wr.cell? ⟨bb, off2 + k * 13 + 9, none⟩ = _ := q' 9 _ rfl
      have t10 : wr.cell? ⟨bb, off2 + k * 13 + 10, none⟩ = _ := q' 10 _ rfl
      have t11 : wr.cell? ⟨bb, off2 + k * 13 + 11, none⟩ = _ := q' 11 _ rfl
      have t12 : wr.cell? ⟨bb, off2 + k * 13 + 12, none⟩ = _ := q' 12 _ rfl
      clear p' q'
      have w0 : (0 : Int) ≤ (k : Int) := by omega
      have w1 : (k : Int) < (n' : Int) := by omega
      go_wp2_with fail
      refine (HE.out _ (HG.out.trans ((Grow.of_alloc _ _).trans (Grow.of_alloc _ _)))).mono ?_
      rintro e w' ⟨rfl, hg⟩
      have HG' : Hid (Grow w w') := Lib.hid (HG.out.trans (((Grow.of_alloc _ _).trans (Grow.of_alloc _ _)).trans hg))
      clear HE hg HG hlt1 hlt2 hb hbb s0 s1 s2 s3 s4 s5 s6 s7 s8 s9 s10 s11 s12 t0 t1 t2 t3 t4 t5 t6 t7 t8 t9 t10 t11 t12
      go_wp2
      go_roundw
      case rel => exact ⟨k + 1, by omega, by go_num, HG'.out⟩
      case measure => simp [intOf]; omega
    · have d : decide ((k : Int) < (n' : Int)) = false := decide_eq_false (by omega)
      go_wp2
      go_ret
      exact ⟨rfl, hg⟩
set_option maxHeartbeats 8000000 in
theorem same_any (m : Md) (A1 A2 A3 A4 : Option Addr) (n1 c1 n2 c2 n3 c3 n4 c4 : Nat) (w : World) (g1 : ZR sgK w w.heap.size A1 n1 c1 m.segs) (g2 : ZR seK w w.heap.size A2 n2 c2 m.secs) (g3 : ZR sgK w w.heap.size A3 n3 c3 m.segs) (g4 : ZR seK w w.heap.size A4 n4 c4 m.secs) :
    Calls Tryz.prog 15 #[.agg (mdC m (.slice A1 n1 c1) (.slice A2 n2 c2)), .agg (mdC m (.slice A3 n3 c3) (.slice A4 n4 c4))] w fun e w' => e = .returned (.bool true) ∧ Grow w w' := by
  have HP := Lib.hid (fun W (hg : Grow w W) => eqSegs_any A1 A3 n1 c1 n3 c3 m.segs W (g1.grow hg) (g3.grow hg))
  have HS := Lib.hid (fun W (hg : Grow w W) => eqSecs_any A2 A4 n2 c2 n4 c4 m.secs W (g2.grow hg) (g4.grow hg))
  unfold mdC
  clear g1 g2 g3 g4
  generalize m.wide = f0
  generalize m.big = f1
  generalize m.osabi = f2
  generalize m.abi = f3
  generalize m.typ = f4
  generalize m.mach = f5
  generalize m.flags = f6
  generalize m.entry = f7
  generalize m.str = f10
  go_enter Tryz.func15, Tryz.ntmps15
  go_wp2_with fail
  generalize hW : World.alloc _ _ = W0
  obtain ⟨b1, b2, hg0⟩ := blk2 hW
  clear hW
  have HB1 := Lib.hid b1
  have HB2 := Lib.hid b2
  have HG0 := Lib.hid hg0
  obtain ⟨x0, x1, x2, x3, x4, x5, x6, x7, x8, x9, x10⟩ := b1.c11
  obtain ⟨y0, y1, y2, y3, y4, y5, y6, y7, y8, y9, y10⟩ := b2.c11
  clear b1 b2 hg0
  go_wp2_with fail
  clear x0 x1 x2 x3 x4 x5 x6 x7 x8 x9 x10 y0 y1 y2 y3 y4 y5 y6 y7 y8 y9 y10
  refine (HP.out _ HG0.out).mono ?_
  rintro e w1 ⟨rfl, hg⟩
  obtain ⟨x0, x1, x2, x3, x4, x5, x6, x7, x8, x9, x10⟩ := (HB1.out.grow hg).c11
  obtain ⟨y0, y1, y2, y3, y4, y5, y6, y7, y8, y9, y10⟩ := (HB2.out.grow hg).c11
  have HG1 : Hid (Grow w w1) := Lib.hid (HG0.out.trans hg)
  clear HB1 HB2 HG0 hg HP
  go_wp2_with fail
  clear x0 x1 x2 x3 x4 x5 x6 x7 x8 x9 x10 y0 y1 y2 y3 y4 y5 y6 y7 y8 y9 y10
  refine (HS.out _ HG1.out).mono ?_
  rintro e w2 ⟨rfl, hg⟩
  have HG2 : Hid (Grow w w2) := Lib.hid (HG1.out.trans hg)
  clear HG1 hg HS
  go_wp2
  go_ret
  exact ⟨rfl, HG2.out⟩
end Go.Proofs.YtlccbekalccahaaGreatDoor
