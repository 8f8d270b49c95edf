/-
  Several texts in one: The contracts of slices; append of several numbers that were laid side by side; The contract of model; The contract of model; The contract of math/bits.
-/
import Derived.Test.YtfbimboemahhhaaSbG3
import Derived.Test.YtfbimboemahhhaaSbG6
import Derived.Test.YtfbimboemahhhaaSbG2
import Derived.Test.YtfbimboemahhhaaRows
import Derived.Test.YtfbimboemahhhaaSbG1
import Derived.Laws.Bits64b
import Derived.Laws.Bits128
import Derived.WalkKit
import Derived.Lib.Hide
namespace Go.Proofs.Ytfbimboemahhhaa
open Go.Lib (hid)
open Go.RowKit
def fitF (g : Nat) : Value := .func (.func 53) #[] #[.pointer (some ⟨g, 0, none⟩)]
theorem fits_wide (wide : Bool) (v : Nat) : fits (v : Int) ((byWide wide 4 8 : Nat) : Int) = fitW wide v := by
 cases wide
 ·have h1 : wid ((byWide false 4 8 : Nat) : Int) = true := by decide
  unfold fits fitW
  rw [h1, Bool.true_and, Bool.eq_iff_iff, decide_eq_true_iff, decide_eq_true_iff]
  show (v : Int) < 256 ^ 4 ↔ v < 256 ^ 4
  omega
 ·have h1 : wid ((byWide true 4 8 : Nat) : Int) = true := by decide
  unfold fits fitW
  rw [h1, Bool.true_and, Bool.eq_iff_iff, decide_eq_true_iff, decide_eq_true_iff]
  show (v : Int) < 256 ^ 8 ↔ v < 256 ^ 8
  omega
theorem fits1_any (wide : Bool) (v g : Nat) (w : World) (hv : v < 18446744073709551616) (hc : w.cell? ⟨g, 0, none⟩ = some (.int .i64 (byWide wide 4 8 : Nat))) :
  Calls Try.prog 53 #[.int .u64 (v : Nat), .pointer (some ⟨g, 0, none⟩)] w fun e w' => e = .returned (.bool (!fitW wide v)) ∧ w = w' := by
 have HF := hid (fun w => fits_any (v : Int) ((byWide wide 4 8 : Nat) : Int) w (by omega) (by omega))
 rw [fits_wide] at HF
 generalize fitW wide v = R at HF ⊢
 generalize byWide wide 4 8 = n at HF hc
 go_enter Try.func53, Try.ntmps53
 go_wp2_with (go_at_call 54; refine (HF.out _).mono ?_; rintro e w' ⟨rfl, rfl⟩)
 go_ret
 exact ⟨rfl, rfl⟩
theorem named1_any (s : Se) (S : Value) (w : World) : Calls Try.prog 73 #[.agg (seC s S)] w fun e w' => e = .returned (.bool (!decide (s.name = 0))) ∧ Grow w w' := by
 unfold seC
 generalize s.name = n
 go_enter Try.func73, Try.ntmps73
 go_wp2
 go_ret
 exact ⟨ret_bool (by rw [Bool.eq_iff_iff]; simp), Grow.of_alloc _ _⟩
def Idx {α : Type} (l : List α) (p : α → Bool) (i : Int) : Prop := decide (0 ≤ i) = !l.all p
theorem Idx.no {α : Type} {l : List α} {p : α → Bool} (h : ∀ a ∈ l, p a = true) : Idx l p (-1) := by
 unfold Idx
 rw [List.all_eq_true.2 h]
 rfl
theorem Idx.at {α : Type} {l : List α} {p : α → Bool} {k : Nat} {a : α} (hk : a ∈ l) (h : p a = false) : Idx l p (k : Int) := by
 have e : l.all p = false := by
  rw [List.all_eq_false]
  exact ⟨a, hk, by simp [h]⟩
 unfold Idx
 rw [e]
 simp
set_option maxHeartbeats 400000 in
theorem idxN_any (wide : Bool) (A : Option Addr) (n c : Nat) (l : List Nat) (g B : Nat) (w : World) (h : NS w B .u64 A n c l) (hl : ∀ v ∈ l, v < 18446744073709551616) (hc : w.cell? ⟨g, 0, none⟩ = some (.int .i64 (byWide wide 4 8 : Nat))) :
  Calls Try.prog 65 #[.slice A n c, fitF g] w fun e w' => ∃ i : Int, e = .returned (.int .i64 i) ∧ Idx l (fitW wide) i ∧ w = w' := by
 have HF := hid (fun v hv => fits1_any wide v g w hv hc)
 have HS := hid h
 have HL := hid h.len
 have HLt := hid hl
 have hcc := h.cap
 have hcm := h.max
 unfold maxLen at hcm
 clear h hl hc
 unfold fitF
 go_enter Try.func65, Try.ntmps65
 go_wp2_with fail
 go_loop [8] (fun i => ∃ k : Nat, k ≤ n ∧ i = .int .i64 k ∧ Hid (∀ v ∈ l.take k, fitW wide v = true)) (fun i => n - (intOf i).toNat)
 case atStart => exact ⟨0, Nat.zero_le _, rfl, hid fun v h => absurd h (by simp)⟩
 case round =>
  obtain ⟨k, hk, rfl, HK⟩ := hrel
  by_cases hlt : k < n
  ·obtain ⟨b, off, rfl, hb, hcell⟩ := HS.out.pos (by omega)
   have hkl : k < l.length := by rw [← HL.out]; exact hlt
   have q := hcell k hkl
   have HM := hid (List.getElem_mem hkl)
   have HT := hid (show l.take (k + 1) = l.take k ++ [l[k]] by rw [List.take_add_one, List.getElem?_eq_getElem hkl]; rfl)
   generalize l[k] = v at q HM HT
   have HV := hid (HF.out v (HLt.out v HM.out))
   clear hcell hb
   cases hf : fitW wide v with
   | true =>
    rw [hf] at HV
    have H1 : Hid (∀ v ∈ l.take (k + 1), fitW wide v = true) := hid fun a ha => by
     rw [HT.out] at ha
     rcases List.mem_append.1 ha with h | h
     ·exact HK.out a h
     ·obtain rfl : a = v := by simpa using h
      exact hf
    clear hf
    go_wp2_with (go_at_call 53; refine HV.out.mono ?_; rintro e w' ⟨rfl, rfl⟩)
    go_round
    case rel => exact ⟨k + 1, by omega, by go_num, H1⟩
    case measure => simp [intOf]; omega
   | false =>
    rw [hf] at HV
    have HI : Hid (Idx l (fitW wide) (k : Int)) := hid (Idx.at HM.out hf)
    clear hf
    go_wp2_with (go_at_call 53; refine HV.out.mono ?_; rintro e w' ⟨rfl, rfl⟩)
    go_ret
    exact ⟨k, rfl, HI.out, rfl⟩
  ·have HI : Hid (Idx l (fitW wide) (-1)) := hid (Idx.no (by
    have : l.take k = l := by rw [List.take_of_length_le (by have := HL.out; omega)]
    have h := HK.out
    rwa [this] at h))
   go_wp2
   go_ret
   exact ⟨-1, rfl, HI.out, rfl⟩
theorem hasN_any (wide : Bool) (A : Option Addr) (n c : Nat) (l : List Nat) (g B : Nat) (w : World) (h : NS w B .u64 A n c l) (hl : ∀ v ∈ l, v < 18446744073709551616) (hc : w.cell? ⟨g, 0, none⟩ = some (.int .i64 (byWide wide 4 8 : Nat))) :
  Calls Try.prog 52 #[.slice A n c, fitF g] w fun e w' => e = .returned (.bool (!l.all (fitW wide))) ∧ w = w' := by
 have HI := hid (idxN_any wide A n c l g B w h hl hc)
 clear h hl hc
 unfold Idx at HI
 generalize l.all (fitW wide) = R at HI ⊢
 unfold fitF at HI ⊢
 go_enter Try.func52, Try.ntmps52
 go_wp2_with fail
 refine HI.out.mono ?_
 rintro e w' ⟨i, rfl, hi, rfl⟩
 have H := hid hi
 clear hi
 go_wp2
 go_ret
 exact ⟨ret_bool H.out, rfl⟩
set_option maxHeartbeats 800000 in
theorem idxS_any (A : Option Addr) (n c : Nat) (l : List Se) (w : World) (h : ZR seK w w.heap.size A n c l) :
  Calls Try.prog 80 #[.slice A n c, .func (.func 73) #[] #[]] w fun e w' => ∃ i : Int, e = .returned (.int .i64 i) ∧ Idx l (fun s => decide (s.name = 0)) i ∧ Grow w w' := by
 have HS := hid h
 have HL := hid h.len
 have hcc := h.cap
 have hcm := h.max
 unfold maxLen at hcm
 clear h
 go_enter Try.func80, Try.ntmps80
 go_wp2_with fail
 go_loopw [8] (fun i wr => ∃ k : Nat, k ≤ n ∧ i = .int .i64 k ∧ Hid (∀ s ∈ l.take k, decide (s.name = 0) = true) ∧ Grow w wr) (fun i _ => n - (intOf i).toNat)
 case atStart => exact ⟨0, Nat.zero_le _, rfl, hid fun v h => absurd h (by simp), Grow.refl _⟩
 case round =>
  obtain ⟨k, hk, rfl, HK, hg⟩ := hrel
  have HG := hid hg
  clear hg
  by_cases hlt : k < n
  ·obtain ⟨b, off, rfl, hb⟩ := HS.out.pos (by omega)
   have hkl : k < l.length := by rw [← HL.out]; exact hlt
   obtain ⟨Ak, nk, ck, -, hcell, gk⟩ := HS.out.at hkl
   have hcell' : ∀ i v, (seC l[k] (.slice Ak nk ck))[i]? = some v → wr.cell? ⟨b, off + k * 13 + i, none⟩ = some v := fun i v hv => (Below.cell HG.out hb).trans (hcell i v hv)
   have HV := hid (fun w => named1_any l[k] (.slice Ak nk ck) w)
   have HM := hid (List.getElem_mem hkl)
   have HT := hid (takeS l k hkl)
   unfold seC at hcell' HV
   generalize l[k] = s at hcell' HM HT HV
   have t0 : wr.cell? ⟨b, off + k * 13, none⟩ = _ := hcell' 0 _ rfl
   have t1 := hcell' 1 _ rfl
   have t2 := hcell' 2 _ rfl
   have t3 := hcell' 3 _ rfl
   have t4 := hcell' 4 _ rfl
   have t5 := hcell' 5 _ rfl
   have t6 := hcell' 6 _ rfl
   have t7 := hcell' 7 _ rfl
   have t8 := hcell' 8 _ rfl
   have t9 := hcell' 9 _ rfl
   have t10 := hcell' 10 _ rfl
   have t11 := hcell' 11 _ rfl
   have t12 := hcell' 12 _ rfl
   clear hcell hcell' gk hb
   cases hf : decide (s.name = 0) with
   | true =>
    rw [hf] at HV
    have H1 : Hid (∀ s ∈ l.take (k + 1), decide (s.name = 0) = true) := hid fun a ha => by
     rw [HT.out] at ha
     rcases List.mem_append.1 ha with h | h
     ·exact HK.out a h
     ·obtain rfl : a = s := by simpa using h
      exact hf
    clear hf
    go_wp2_with fail
    clear t0 t1 t2 t3 t4 t5 t6 t7 t8 t9 t10 t11 t12
    refine (HV.out _).mono ?_
    rintro e w2 ⟨rfl, hg2⟩
    have HG2 : Hid (Grow w w2) := HG.out.trans hg2
    clear hg2
    go_wp2
    go_roundw
    case rel => exact ⟨k + 1, by omega, by go_num, H1, HG2.out⟩
    case measure => simp [intOf]; omega
   | false =>
    rw [hf] at HV
    have HI : Hid (Idx l (fun s => decide (s.name = 0)) (k : Int)) := hid (Idx.at HM.out hf)
    clear hf
    go_wp2_with fail
    clear t0 t1 t2 t3 t4 t5 t6 t7 t8 t9 t10 t11 t12
    refine (HV.out _).mono ?_
    rintro e w2 ⟨rfl, hg2⟩
    have HG2 : Hid (Grow w w2) := HG.out.trans hg2
    clear hg2
    go_wp2
    go_ret
    exact ⟨k, rfl, HI.out, HG2.out⟩
  ·have HI : Hid (Idx l (fun s => decide (s.name = 0)) (-1)) := hid (Idx.no (by
    have : l.take k = l := by rw [List.take_of_length_le (by have := HL.out; omega)]
    have h := HK.out
    rwa [this] at h))
   go_wp2
   go_ret
   exact ⟨-1, rfl, HI.out, HG.out⟩
theorem hasS_any (A : Option Addr) (n c : Nat) (l : List Se) (w : World) (h : ZR seK w w.heap.size A n c l) :
  Calls Try.prog 72 #[.slice A n c, .func (.func 73) #[] #[]] w fun e w' => e = .returned (.bool (!l.all fun s => decide (s.name = 0))) ∧ Grow w w' := by
 have HI := hid (idxS_any A n c l w h)
 clear h
 unfold Idx at HI
 generalize (l.all fun s => decide (s.name = 0)) = R at HI ⊢
 go_enter Try.func72, Try.ntmps72
 go_wp2_with fail
 refine HI.out.mono ?_
 rintro e w' ⟨i, rfl, hi, hg⟩
 have H := hid hi
 have HG := hid hg
 clear hi hg
 go_wp2
 go_ret
 exact ⟨ret_bool H.out, HG.out⟩
theorem run_appendM {P : Program} (w : World) (base : Nat) (t ty e : TypeId) (k : IntKind) (bytes : Nat) (ht : P.underlying t = some (.slice e))
  (hinfo : (P.info? e).map (fun i => (i.zero, i.size, i.bytes)) = some (some (.int k 0), 1, bytes))
  (A : Option Addr) (n c : Nat) (l : List Nat) (hown : ON w base e k A n c l) (g : Nat) (t' : TypeId) (m : Nat) (y : List Nat) (hm : y.length = m) (hr : Blk w g t' (y.map (ival k)).toArray) (hm0 : 0 < m)
  (h63 : n + m ≤ maxLen) (hsz : (n + m) * bytes ≤ 140737488355328) (hbase : base ≤ w.heap.size) :
  ∃ A2 c2 w', (Builtin.append_ #[t, t] ty #[.slice A n c, .slice (some ⟨g, 0, none⟩) m m]).run P w = .ok (.slice A2 (n + m) c2) w' ∧ ON w' base e k A2 (n + m) c2 (l ++ y) ∧ Below base w w' := by
 obtain ⟨i, hi, hz, hs, hby⟩ := info_parts hinfo
 obtain ⟨v', w', hrun, h2, h3, _, _⟩ := run_append_own_at (P := P) w base t ty e i (.int k 0) 1 bytes ht hi hz hs hby rfl (by omega) _ n _ hown ⟨g, 0, none⟩ m m (y.map (ival k))
  (by simp [hm]) (fun j u hj => by
   have e2 : (⟨g, 0, none⟩ : Addr).add j = ⟨g, j, none⟩ := by unfold Addr.add; split <;> simp_all
   rw [e2, hr.at]
   simpa using hj) (by intro u hu; obtain ⟨x, _, rfl⟩ := List.mem_map.1 hu; rfl) h63 hsz hbase
 have hv : ∃ A2 c2, v' = .slice A2 (n + m) c2 := by
  rcases h2.2 with ⟨h0, h1⟩ | ⟨g, cap, cur, h0, _⟩
  ·omega
  ·exact ⟨_, _, h0⟩
 obtain ⟨A2, c2, rfl⟩ := hv
 exact ⟨A2, c2, w', hrun, by rw [ON, List.map_append]; exact h2, (Below.refl base w).grown h3 hbase fun k hk => (World.ownsRow.lt hown k hk).1⟩
theorem wpList_appendM {P : Program} (w : World) {ops : Array Oper} {rest : List Oper} {o : Oper} {a : Act} {Q : Exit → Act → World → Prop} (hgd : o.guard = none) (s x : Operand) (t : TypeId)
  (ho : o.op = .call { callee := .builtin .append, args := #[s, x], argTypes := #[t, t] })
  (base : Nat) (e : TypeId) (k : IntKind) (bytes : Nat) (ht : P.underlying t = some (.slice e)) (hinfo : (P.info? e).map (fun i => (i.zero, i.size, i.bytes)) = some (some (.int k 0), 1, bytes))
  (A : Option Addr) (n c : Nat) (l : List Nat) (hs : a.eval s = .slice A n c) (hown : ON w base e k A n c l)
  (g : Nat) (t' : TypeId) (m : Nat) (y : List Nat) (hm : y.length = m) (hx : a.eval x = .slice (some ⟨g, 0, none⟩) m m) (hr : Blk w g t' (y.map (ival k)).toArray) (hm0 : 0 < m)
  (h63 : n + m ≤ maxLen) (hsz : (n + m) * bytes ≤ 140737488355328) (hbase : base ≤ w.heap.size)
  (h : ∀ A2 c2 w', ON w' base e k A2 (n + m) c2 (l ++ y) → Below base w w' → wpList P ops Q rest (a.put o.dst (.slice A2 (n + m) c2)) w') : wpList P ops Q (o :: rest) a w := by
 refine wpList_plain hgd fun K hK => ?_
 obtain ⟨A2, c2, w', hrun, h2, h3⟩ := run_appendM (P := P) w base t o.type e k bytes ht hinfo A n c l hown g t' m y hm hr hm0 h63 hsz hbase
 unfold Oper.wp execOp
 simp only [ho, resolve, invoke, builtin, Sem.run_bind, Sem.run_pure, Result.andThen_ok, List.map_toArray, List.map_cons, List.map_nil, hs, hx, hrun]
 exact hK _ _ (h A2 c2 w' h2 h3)
theorem ON.of_blk {w : World} {base g : Nat} {e : TypeId} {k : IntKind} {l : List Nat} (h : Blk w g e (l.map (ival k)).toArray) (hb : base ≤ g) (hm : l.length ≤ maxLen) : ON w base e k (some ⟨g, 0, none⟩) l.length l.length l :=
 ⟨by simp, .inr ⟨g, l.length, (l.map (ival k)).toArray, rfl, hb, h, Nat.le_refl _, hm, by simp, by simp [List.take_of_length_le]⟩⟩
set_option maxRecDepth 100000 in
set_option maxHeartbeats 8000000 in
theorem mFits_any (m : Md) (ok : m.Ok) (A1 A2 : Option Addr) (n1 c1 n2 c2 : Nat) (w : World) (g1 : ZR sgK w w.heap.size A1 n1 c1 m.segs) (g2 : ZR seK w w.heap.size A2 n2 c2 m.secs) (h1 : n1 ≤ 16) (h2 : n2 ≤ 64) :
  Calls Try.prog 32 #[.agg (mdC m (.slice A1 n1 c1) (.slice A2 n2 c2))] w fun e w' => e = .returned (.bool m.fits) ∧ Grow w w' := by
 obtain ⟨x2, x3, x4, x5, x6, x10, hC⟩ : ∃ x2 x3 x4 x5 x6 x10 : Value, mdC m (.slice A1 n1 c1) (.slice A2 n2 c2) = #[.bool m.wide, .bool m.big, x2, x3, x4, x5, x6, .int .u64 (m.entry : Nat), .slice A1 n1 c1, .slice A2 n2 c2, x10] := ⟨_, _, _, _, _, _, rfl⟩
 rw [hC]
 have hm1 := g1.max
 have hc1 := g1.cap
 have hm2 := g2.max
 have hc2 := g2.cap
 have HZ1 := hid g1
 have HZ2 := hid g2
 have HZ1L := hid g1.len
 have HZ2L := hid g2.len
 have HLt : Hid (∀ v ∈ m.nums, v < 18446744073709551616) := hid fun v hv => by
  unfold Md.nums at hv
  rcases List.mem_cons.1 hv with e | e
  ·rw [e]; exact ok.entry
  rcases List.mem_append.1 e with e | e
  ·obtain ⟨s, hs, hx⟩ := List.mem_flatMap.1 e
   have o := ok.segs s hs
   simp only [Sg.nums, List.mem_cons, List.not_mem_nil, or_false] at hx
   rcases hx with rfl | rfl | rfl | rfl
   ·exact o.vaddr
   ·exact o.paddr
   ·exact o.memsz
   ·exact o.align
  ·obtain ⟨s, hs, hx⟩ := List.mem_flatMap.1 e
   have o := ok.secs s hs
   simp only [Se.nums, List.mem_cons, List.not_mem_nil, or_false] at hx
   rcases hx with rfl | rfl | rfl | rfl | rfl
   ·exact o.flags
   ·exact o.addr
   ·exact o.size
   ·exact o.align
   ·exact o.entsize
 have HWd := hid (fun w => mWidth_any m.wide m.big w)
 have E : Hid (m.fits = m.nums.all (fitW m.wide)) := hid rfl
 have EN : Hid (m.nums = m.entry :: (m.segs.flatMap Sg.nums ++ m.secs.flatMap Se.nums)) := hid rfl
 generalize m.fits = R at E ⊢
 generalize m.nums = LN at HLt E EN
 generalize m.wide = wide at HWd E ⊢
 generalize m.big = big at HWd ⊢
 generalize m.entry = en at EN ⊢
 generalize m.segs = L1 at HZ1 HZ1L EN
 generalize m.secs = L2 at HZ2 HZ2L EN
 clear hC g1 g2 ok
 unfold maxLen at hm1 hm2
 go_enter Try.func32, Try.ntmps32
 go_wp2_with fail
 generalize hW : World.alloc _ _ = W1
 obtain ⟨b1, b2, hg0⟩ := blk2 hW
 clear hW
 have HB1 := hid b1
 have HG0 := hid hg0
 have HO1 : Hid (ON W1 (w.heap.size + 1) 28 .u64 (some ⟨w.heap.size + 1, 0, none⟩) 1 1 [en]) := hid (ON.of_blk (l := [en]) b2 (Nat.le_refl _) (by show 1 ≤ maxLen; unfold maxLen; omega))
 have HS1 := hid (show w.heap.size + 1 ≤ W1.heap.size from Nat.le_of_lt b2.lt)
 clear b1 b2 hg0
 go_loopw [3, 15] (fun x i wr => ∃ (k : Nat) (A : Option Addr) (c : Nat), k ≤ n1 ∧ i = .int .i64 k ∧ x = .slice A (1 + 4 * k) c ∧ ON wr (w.heap.size + 1) 28 .u64 A (1 + 4 * k) c (en :: (L1.take k).flatMap Sg.nums) ∧ Below (w.heap.size + 1) W1 wr ∧ w.heap.size + 1 ≤ wr.heap.size) (fun _ i _ => n1 - (intOf i).toNat)
 case atStart => exact ⟨0, _, 1, by omega, rfl, rfl, HO1.out, Below.refl _ _, HS1.out⟩
 case round =>
  obtain ⟨k, A, c, hk, rfl, rfl, ho, hg, hsz⟩ := hrel
  have HO := hid ho
  have HG := hid hg
  have HSz := hid hsz
  clear ho hg hsz HO1 HS1
  by_cases hlt : k < n1
  ·have hkl : k < L1.length := by rw [← HZ1L.out]; exact hlt
   obtain ⟨b, off, rfl, hb⟩ := HZ1.out.pos (by omega)
   obtain ⟨Ak, nk, ck, -, hcell, -⟩ := HZ1.out.at hkl
   have hcell' : ∀ i v, (sgC L1[k] (.slice Ak nk ck))[i]? = some v → wr.cell? ⟨b, off + k * 10 + i, none⟩ = some v := fun i v hv => (Below.cell (HG0.out.trans' (HG.out.mono (Nat.le_succ _))) hb).trans (hcell i v hv)
   have HT := hid (takeS L1 k hkl)
   unfold sgC at hcell'
   generalize L1[k] = s at hcell' HT
   have t0 : wr.cell? ⟨b, off + k * 10, none⟩ = _ := hcell' 0 _ rfl
   have t1 := hcell' 1 _ rfl
   have t2 := hcell' 2 _ rfl
   have t3 := hcell' 3 _ rfl
   have t4 := hcell' 4 _ rfl
   have t5 := hcell' 5 _ rfl
   have t6 := hcell' 6 _ rfl
   have t7 := hcell' 7 _ rfl
   have t8 := hcell' 8 _ rfl
   have t9 := hcell' 9 _ rfl
   clear hcell hcell' hb
   have HBR : Hid (Blk ((wr.alloc (.cells #[.int .u32 (s.typ : Nat), .int .u32 (s.flags : Nat), .int .u64 (s.vaddr : Nat), .int .u64 (s.paddr : Nat), .int .u64 (s.memsz : Nat), .int .u64 (s.align : Nat), .int .i64 s.pl.inn, .int .u64 (s.pl.off : Nat), .int .u64 (s.pl.size : Nat), .slice Ak nk ck] 55)).alloc (.cells #[.int .u64 (s.vaddr : Nat), .int .u64 (s.paddr : Nat), .int .u64 (s.memsz : Nat), .int .u64 (s.align : Nat)] 28)) (wr.heap.size + 1) 28 ([s.vaddr, s.paddr, s.memsz, s.align].map (ival .u64)).toArray) := hid ((blk2 rfl).2.1)
   have hga : Grow wr ((wr.alloc (.cells #[.int .u32 (s.typ : Nat), .int .u32 (s.flags : Nat), .int .u64 (s.vaddr : Nat), .int .u64 (s.paddr : Nat), .int .u64 (s.memsz : Nat), .int .u64 (s.align : Nat), .int .i64 s.pl.inn, .int .u64 (s.pl.off : Nat), .int .u64 (s.pl.size : Nat), .slice Ak nk ck] 55)).alloc (.cells #[.int .u64 (s.vaddr : Nat), .int .u64 (s.paddr : Nat), .int .u64 (s.memsz : Nat), .int .u64 (s.align : Nat)] 28)) := (blk2 rfl).2.2
   have HO3 := hid (HO.out.keep hga)
   have HG3 : Hid (Below (w.heap.size + 1) W1 ((wr.alloc (.cells #[.int .u32 (s.typ : Nat), .int .u32 (s.flags : Nat), .int .u64 (s.vaddr : Nat), .int .u64 (s.paddr : Nat), .int .u64 (s.memsz : Nat), .int .u64 (s.align : Nat), .int .i64 s.pl.inn, .int .u64 (s.pl.off : Nat), .int .u64 (s.pl.size : Nat), .slice Ak nk ck] 55)).alloc (.cells #[.int .u64 (s.vaddr : Nat), .int .u64 (s.paddr : Nat), .int .u64 (s.memsz : Nat), .int .u64 (s.align : Nat)] 28))) := HG.out.trans (hga.mono HSz.out)
   have HS3 : Hid (w.heap.size + 1 ≤ ((wr.alloc (.cells #[.int .u32 (s.typ : Nat), .int .u32 (s.flags : Nat), .int .u64 (s.vaddr : Nat), .int .u64 (s.paddr : Nat), .int .u64 (s.memsz : Nat), .int .u64 (s.align : Nat), .int .i64 s.pl.inn, .int .u64 (s.pl.off : Nat), .int .u64 (s.pl.size : Nat), .slice Ak nk ck] 55)).alloc (.cells #[.int .u64 (s.vaddr : Nat), .int .u64 (s.paddr : Nat), .int .u64 (s.memsz : Nat), .int .u64 (s.align : Nat)] 28)).heap.size) := Nat.le_trans HSz.out hga.size
   have HE : Hid ((en :: (L1.take (k + 1)).flatMap Sg.nums) = (en :: (L1.take k).flatMap Sg.nums) ++ [s.vaddr, s.paddr, s.memsz, s.align]) := hid (by rw [HT.out]; simp [Sg.nums])
   clear hga HT HO HG
   go_wp2_with (at_builtin; refine wpList_appendM ((wr.alloc (.cells #[.int .u32 (s.typ : Nat), .int .u32 (s.flags : Nat), .int .u64 (s.vaddr : Nat), .int .u64 (s.paddr : Nat), .int .u64 (s.memsz : Nat), .int .u64 (s.align : Nat), .int .i64 s.pl.inn, .int .u64 (s.pl.off : Nat), .int .u64 (s.pl.size : Nat), .slice Ak nk ck] 55)).alloc (.cells #[.int .u64 (s.vaddr : Nat), .int .u64 (s.paddr : Nat), .int .u64 (s.memsz : Nat), .int .u64 (s.align : Nat)] 28)) rfl (.tmp 19) (.tmp 28) 56 rfl (w.heap.size + 1) 28 .u64 8 Try.underlying56 (by kernel_rfl) A _ c _ rfl HO3.out (wr.heap.size + 1) _ 4 [s.vaddr, s.paddr, s.memsz, s.align] rfl rfl HBR.out (by omega) (by unfold maxLen; omega) (by omega) HS3.out ?_; intro A5 c5 w6 ho5 hb5; refine Hid.out ?_)
   have HG6 : Hid (Below (w.heap.size + 1) W1 w6) := HG3.out.trans hb5
   have HS6 : Hid (w.heap.size + 1 ≤ w6.heap.size) := Nat.le_trans HS3.out hb5.size
   have HO6 : Hid (ON w6 (w.heap.size + 1) 28 .u64 A5 ((1 + 4 * k) + 4) c5 ((en :: (L1.take (k + 1)).flatMap Sg.nums))) := by
    rw [HE.out]
    exact ho5
   have e9 : (1 + 4 * (k + 1)) = (1 + 4 * k) + 4 := by omega
   clear ho5 hb5 HBR HO3 HG3 HS3 t0 t1 t2 t3 t4 t5 t6 t7 t8 t9
   refine hid ?_
   go_wp2
   go_roundw
   case rel => exact ⟨k + 1, A5, c5, by omega, by go_num, by rw [e9], by rw [e9]; exact HO6.out, HG6.out, HS6.out⟩
   case measure => simp [intOf]; omega
  ·obtain rfl : n1 = k := by omega
   have HO4 : Hid (ON wr (w.heap.size + 1) 28 .u64 A (1 + 4 * n1) c (en :: L1.flatMap Sg.nums)) := by
    have : L1.take n1 = L1 := by rw [List.take_of_length_le (by have := HZ1L.out; omega)]
    have h := HO.out
    rwa [this] at h
   have y9 := (HB1.out.below HG.out (Nat.lt_succ_self _)).at 9
   have HG2 := HG
   have HSz2 := HSz
   clear HO HG HSz hlt hk
   go_wp2_with fail
   clear y9
   obtain ⟨wo, hwo⟩ : ∃ x, x = wr := ⟨_, rfl⟩
   subst hwo
   go_loopw [3, 34] (fun x i wr => ∃ (k : Nat) (A : Option Addr) (c : Nat), k ≤ n2 ∧ i = .int .i64 k ∧ x = .slice A (1 + 4 * n1 + 5 * k) c ∧ ON wr (w.heap.size + 1) 28 .u64 A (1 + 4 * n1 + 5 * k) c (en :: (L1.flatMap Sg.nums ++ (L2.take k).flatMap Se.nums)) ∧ Below (w.heap.size + 1) wo wr ∧ w.heap.size + 1 ≤ wr.heap.size) (fun _ i _ => n2 - (intOf i).toNat)
   case atStart => exact ⟨0, _, c, by omega, rfl, rfl, by simpa using HO4.out, Below.refl _ _, HSz2.out⟩
   case round =>
    obtain ⟨k, A, c, hk, rfl, rfl, ho, hg, hsz⟩ := hrel
    have HO := hid ho
    have HG := hid hg
    have HSz := hid hsz
    clear ho hg hsz HO4 HSz2
    by_cases hlt : k < n2
    ·have hkl : k < L2.length := by rw [← HZ2L.out]; exact hlt
     obtain ⟨b, off, rfl, hb⟩ := HZ2.out.pos (by omega)
     obtain ⟨Ak, nk, ck, -, hcell, -⟩ := HZ2.out.at hkl
     have hcell' : ∀ i v, (seC L2[k] (.slice Ak nk ck))[i]? = some v → wr.cell? ⟨b, off + k * 13 + i, none⟩ = some v := fun i v hv => (Below.cell (HG0.out.trans' ((HG2.out.trans HG.out).mono (Nat.le_succ _))) hb).trans (hcell i v hv)
     have HT := hid (takeS L2 k hkl)
     unfold seC at hcell'
     generalize L2[k] = s at hcell' HT
     have t0 : wr.cell? ⟨b, off + k * 13, none⟩ = _ := hcell' 0 _ rfl
     have t1 := hcell' 1 _ rfl
     have t2 := hcell' 2 _ rfl
     have t3 := hcell' 3 _ rfl
     have t4 := hcell' 4 _ rfl
     have t5 := hcell' 5 _ rfl
     have t6 := hcell' 6 _ rfl
     have t7 := hcell' 7 _ rfl
     have t8 := hcell' 8 _ rfl
     have t9 := hcell' 9 _ rfl
     have t10 := hcell' 10 _ rfl
     have t11 := hcell' 11 _ rfl
     have t12 := hcell' 12 _ rfl
     clear hcell hcell' hb
     have HBR : Hid (Blk ((wr.alloc (.cells #[.int .u32 (s.name : Nat), .int .u32 (s.typ : Nat), .int .u64 (s.flags : Nat), .int .u64 (s.addr : Nat), .int .u64 (s.size : Nat), .int .u32 (s.link : Nat), .int .u32 (s.info : Nat), .int .u64 (s.align : Nat), .int .u64 (s.entsize : Nat), .int .i64 s.pl.inn, .int .u64 (s.pl.off : Nat), .int .u64 (s.pl.size : Nat), .slice Ak nk ck] 53)).alloc (.cells #[.int .u64 (s.flags : Nat), .int .u64 (s.addr : Nat), .int .u64 (s.size : Nat), .int .u64 (s.align : Nat), .int .u64 (s.entsize : Nat)] 28)) (wr.heap.size + 1) 28 ([s.flags, s.addr, s.size, s.align, s.entsize].map (ival .u64)).toArray) := hid ((blk2 rfl).2.1)
     have hga : Grow wr ((wr.alloc (.cells #[.int .u32 (s.name : Nat), .int .u32 (s.typ : Nat), .int .u64 (s.flags : Nat), .int .u64 (s.addr : Nat), .int .u64 (s.size : Nat), .int .u32 (s.link : Nat), .int .u32 (s.info : Nat), .int .u64 (s.align : Nat), .int .u64 (s.entsize : Nat), .int .i64 s.pl.inn, .int .u64 (s.pl.off : Nat), .int .u64 (s.pl.size : Nat), .slice Ak nk ck] 53)).alloc (.cells #[.int .u64 (s.flags : Nat), .int .u64 (s.addr : Nat), .int .u64 (s.size : Nat), .int .u64 (s.align : Nat), .int .u64 (s.entsize : Nat)] 28)) := (blk2 rfl).2.2
     have HO3 := hid (HO.out.keep hga)
     have HG3 : Hid (Below (w.heap.size + 1) wo ((wr.alloc (.cells #[.int .u32 (s.name : Nat), .int .u32 (s.typ : Nat), .int .u64 (s.flags : Nat), .int .u64 (s.addr : Nat), .int .u64 (s.size : Nat), .int .u32 (s.link : Nat), .int .u32 (s.info : Nat), .int .u64 (s.align : Nat), .int .u64 (s.entsize : Nat), .int .i64 s.pl.inn, .int .u64 (s.pl.off : Nat), .int .u64 (s.pl.size : Nat), .slice Ak nk ck] 53)).alloc (.cells #[.int .u64 (s.flags : Nat), .int .u64 (s.addr : Nat), .int .u64 (s.size : Nat), .int .u64 (s.align : Nat), .int .u64 (s.entsize : Nat)] 28))) := HG.out.trans (hga.mono HSz.out)
     have HS3 : Hid (w.heap.size + 1 ≤ ((wr.alloc (.cells #[.int .u32 (s.name : Nat), .int .u32 (s.typ : Nat), .int .u64 (s.flags : Nat), .int .u64 (s.addr : Nat), .int .u64 (s.size : Nat), .int .u32 (s.link : Nat), .int .u32 (s.info : Nat), .int .u64 (s.align : Nat), .int .u64 (s.entsize : Nat), .int .i64 s.pl.inn, .int .u64 (s.pl.off : Nat), .int .u64 (s.pl.size : Nat), .slice Ak nk ck] 53)).alloc (.cells #[.int .u64 (s.flags : Nat), .int .u64 (s.addr : Nat), .int .u64 (s.size : Nat), .int .u64 (s.align : Nat), .int .u64 (s.entsize : Nat)] 28)).heap.size) := Nat.le_trans HSz.out hga.size
     have HE : Hid ((en :: (L1.flatMap Sg.nums ++ (L2.take (k + 1)).flatMap Se.nums)) = (en :: (L1.flatMap Sg.nums ++ (L2.take k).flatMap Se.nums)) ++ [s.flags, s.addr, s.size, s.align, s.entsize]) := hid (by rw [HT.out]; simp [Se.nums])
     clear hga HT HO HG
     go_wp2_with (at_builtin; refine wpList_appendM ((wr.alloc (.cells #[.int .u32 (s.name : Nat), .int .u32 (s.typ : Nat), .int .u64 (s.flags : Nat), .int .u64 (s.addr : Nat), .int .u64 (s.size : Nat), .int .u32 (s.link : Nat), .int .u32 (s.info : Nat), .int .u64 (s.align : Nat), .int .u64 (s.entsize : Nat), .int .i64 s.pl.inn, .int .u64 (s.pl.off : Nat), .int .u64 (s.pl.size : Nat), .slice Ak nk ck] 53)).alloc (.cells #[.int .u64 (s.flags : Nat), .int .u64 (s.addr : Nat), .int .u64 (s.size : Nat), .int .u64 (s.align : Nat), .int .u64 (s.entsize : Nat)] 28)) rfl (.tmp 38) (.tmp 49) 56 rfl (w.heap.size + 1) 28 .u64 8 Try.underlying56 (by kernel_rfl) A _ c _ rfl HO3.out (wr.heap.size + 1) _ 5 [s.flags, s.addr, s.size, s.align, s.entsize] rfl rfl HBR.out (by omega) (by unfold maxLen; omega) (by omega) HS3.out ?_; intro A5 c5 w6 ho5 hb5; refine Hid.out ?_)
     have HG6 : Hid (Below (w.heap.size + 1) wo w6) := HG3.out.trans hb5
     have HS6 : Hid (w.heap.size + 1 ≤ w6.heap.size) := Nat.le_trans HS3.out hb5.size
     have HO6 : Hid (ON w6 (w.heap.size + 1) 28 .u64 A5 ((1 + 4 * n1 + 5 * k) + 5) c5 ((en :: (L1.flatMap Sg.nums ++ (L2.take (k + 1)).flatMap Se.nums)))) := by
      rw [HE.out]
      exact ho5
     have e9 : (1 + 4 * n1 + 5 * (k + 1)) = (1 + 4 * n1 + 5 * k) + 5 := by omega
     clear ho5 hb5 HBR HO3 HG3 HS3 t0 t1 t2 t3 t4 t5 t6 t7 t8 t9 t10 t11 t12
     refine hid ?_
     go_wp2
     go_roundw
     case rel => exact ⟨k + 1, A5, c5, by omega, by go_num, by rw [e9], by rw [e9]; exact HO6.out, HG6.out, HS6.out⟩
     case measure => simp [intOf]; omega
    ·obtain rfl : n2 = k := by omega
     have HO4 : Hid (ON wr (w.heap.size + 1) 28 .u64 A (1 + 4 * n1 + 5 * n2) c LN) := by
      have : L2.take n2 = L2 := by rw [List.take_of_length_le (by have := HZ2L.out; omega)]
      have h := HO.out
      rw [this, ← EN.out] at h
      exact h
     have hB := HB1.out.below (HG2.out.trans HG.out) (Nat.lt_succ_self _)
     have y0 := hB.at 0
     have y1 := hB.at 1
     have HGq : Hid (Grow w wr) := HG0.out.trans' ((HG2.out.trans HG.out).mono (Nat.le_succ _))
     clear hB HO HG HSz HG2
     go_wp2_with fail
     clear y0 y1
     refine (HWd.out _).mono ?_
     rintro e w2 ⟨rfl, hg2⟩
     have HBn := hid (Blk.new w2 3 #[.int .i64 (byWide wide 4 8 : Nat)])
     have hga := Grow.of_alloc w2 (.cells #[.int .i64 (byWide wide 4 8 : Nat)] 3)
     have HO5 := hid ((HO4.out.keep (hg2.trans hga)).ns)
     have HG5 : Hid (Grow w (w2.alloc (.cells #[.int .i64 (byWide wide 4 8 : Nat)] 3))) := HGq.out.trans (hg2.trans hga)
     have HH := hid (hasN_any wide A _ c LN w2.heap.size _ _ HO5.out HLt.out (HBn.out.at 0))
     clear hg2 hga HO4 HGq HBn HO5
     unfold fitF at HH
     rw [← E.out] at HH
     go_wp2_with fail
     refine HH.out.mono ?_
     rintro e w3 ⟨rfl, rfl⟩
     go_wp2
     go_ret
     exact ⟨ret_bool (by simp), HG5.out⟩
theorem sgC_cells (s : Sg) (S : Value) : ∃ x0 x1 x3 x5 x6 x7 x8 : Value, sgC s S = #[x0, x1, .int .u64 (s.vaddr : Nat), x3, .int .u64 (s.memsz : Nat), x5, x6, x7, x8, S] := ⟨_, _, _, _, _, _, _, rfl⟩
set_option maxHeartbeats 400000 in
theorem mWraps_any (s : Sg) (ok : s.Ok) (S : Value) (wide big : Bool) (w : World) : Calls Try.prog 68 #[.agg (sgC s S), .agg #[.bool wide, .bool big]] w fun e w' => e = .returned (.bool (s.wraps wide)) ∧ Grow w w' := by
 have hv := ok.vaddr
 have hz := ok.memsz
 have HL := hid (fun w => mLast_any wide big w)
 have hl : lastA wide ≤ 18446744073709551615 := by cases wide <;> decide
 obtain ⟨x0, x1, x3, x5, x6, x7, x8, hC⟩ := sgC_cells s S
 rw [hC]
 have E : Hid (s.wraps wide = (decide (0 < s.memsz) && !decide (s.vaddr + (s.memsz - 1) ≤ lastA wide))) := hid rfl
 clear hC ok
 generalize s.wraps wide = R at E ⊢
 generalize lastA wide = la at HL E hl
 generalize s.vaddr = v at E hv ⊢
 generalize s.memsz = z at E hz ⊢
 go_enter Try.func68, Try.ntmps68
 go_wp2_with fail
 refine wp_region_chain [(0, true), (1, true), (2, true), (3, true), (4, true), (5, true), (6, true), (7, true), (8, true), (9, true), (10, false), (11, false), (12, true), (13, true), (14, true)] (by kernel_rfl) (by kernel_rfl) (by kernel_rfl) ?_
 generalize hW : World.alloc _ _ = W0
 obtain ⟨b1, b2, hg0⟩ := blk2 hW
 clear hW
 have HG0 := hid hg0
 have q2 : ∀ W, Grow W0.drew W → W.cell? ⟨w.heap.size, 2, none⟩ = some (.int .u64 (v : Nat)) := fun W hW => (b1.grow ((Grow.of_drew _).trans hW)).at 2
 have q4 : ∀ W, Grow W0.drew W → W.cell? ⟨w.heap.size, 4, none⟩ = some (.int .u64 (z : Nat)) := fun W hW => (b1.grow ((Grow.of_drew _).trans hW)).at 4
 have r0 : ∀ W, Grow W0.drew W → W.cell? ⟨w.heap.size + 1, 0, none⟩ = some (.bool wide) := fun W hW => (b2.grow ((Grow.of_drew _).trans hW)).at 0
 have r1 : ∀ W, Grow W0.drew W → W.cell? ⟨w.heap.size + 1, 1, none⟩ = some (.bool big) := fun W hW => (b2.grow ((Grow.of_drew _).trans hW)).at 1
 have HD : Hid (Grow w W0.drew) := HG0.out.trans (Grow.of_drew _)
 clear b1 b2 hg0 HG0
 generalize W0.drew = w2 at HD q2 q4 r0 r1 ⊢
 by_cases h0 : 0 < z
 ·have e2 : decide (0 < z) = true := decide_eq_true h0
  have z1 : IntKind.u64.wrap ((z : Int) - 1) = (z : Int) - 1 := by rw [IntKind.wrap_u64]; omega
  have E2 := hid (show R = !wthn (v : Int) ((z : Int) - 1) (la : Int) by
   rw [E.out, e2, Bool.true_and]
   congr 1
   unfold wthn
   rw [Bool.eq_iff_iff, decide_eq_true_iff, decide_eq_true_iff]
   omega)
  have k1 : (0 : Int) ≤ (z : Int) - 1 := by omega
  have K1 := hid k1
  clear k1 h0
  repeat ((first | (refine chain_take rfl (by rfl) ?_ (fun W hG => ?_) ?_; rotate_left; (go_simp; rfl)) | refine chain_skip rfl (by rfl) ?_); simp only [Act.put, List.setIfInBounds_toArray, List.set_cons_zero, List.set_cons_succ])
  refine chain_only rfl (by rfl) (fun K hK => ?_)
  go_simp
  refine (HL.out _).mono ?_
  rintro e w3 ⟨rfl, hg3⟩
  refine hK _ _ hg3 ?_
  have HF : Hid (Grow w w3) := HD.out.trans hg3
  clear hK K hg3 q2 q4 r0 r1
  refine chain_only rfl (by rfl) (fun K hK => ?_)
  go_simp
  refine (within_any _ _ _ _ (by omega) K1.out (by omega)).mono ?_
  rintro e w4 ⟨rfl, rfl⟩
  refine hK _ _ (Grow.refl _) ?_
  clear hK K
  generalize wthn (v : Int) ((z : Int) - 1) (la : Int) = V at E2 ⊢
  repeat ((first | (refine chain_take rfl (by rfl) ?_ (fun W hG => ?_) ?_; rotate_left; (go_simp; rfl)) | refine chain_skip rfl (by rfl) ?_); simp only [Act.put, List.setIfInBounds_toArray, List.set_cons_zero, List.set_cons_succ])
  refine chain_done ?_
  go_wp2
  go_ret
  exact ⟨ret_bool (by rw [E2.out]), HF.out⟩
 ·have e2 : decide (0 < z) = false := decide_eq_false h0
  have E2 := hid (show R = false by rw [E.out, e2]; rfl)
  clear h0
  repeat ((first | (refine chain_take rfl (by rfl) ?_ (fun W hG => ?_) ?_; rotate_left; (go_simp; rfl)) | refine chain_skip rfl (by rfl) ?_); simp only [Act.put, List.setIfInBounds_toArray, List.set_cons_zero, List.set_cons_succ])
  refine chain_none rfl (by rfl) ?_
  simp only [Act.put, List.setIfInBounds_toArray, List.set_cons_zero, List.set_cons_succ]
  refine chain_none rfl (by rfl) ?_
  simp only [Act.put, List.setIfInBounds_toArray, List.set_cons_zero, List.set_cons_succ]
  repeat ((first | (refine chain_take rfl (by rfl) ?_ (fun W hG => ?_) ?_; rotate_left; (go_simp; rfl)) | refine chain_skip rfl (by rfl) ?_); simp only [Act.put, List.setIfInBounds_toArray, List.set_cons_zero, List.set_cons_succ])
  refine chain_done ?_
  go_wp2
  go_ret
  exact ⟨ret_bool E2.out.symm, HD.out⟩
theorem ones_any (x : Nat) (w : World) (hx : x < 18446744073709551616) : Calls Try.prog 67 #[.int .u64 x] w fun e w' => e = .returned (.int .i64 (ones x : Nat)) ∧ w = w' := by
 obtain ⟨a, ha⟩ : ∃ a, ((x / 2) &&& 6148914691236517205) + (x &&& 6148914691236517205) = a := ⟨_, rfl⟩
 obtain ⟨b, hb⟩ : ∃ b, ((a / 4) &&& 3689348814741910323) + (a &&& 3689348814741910323) = b := ⟨_, rfl⟩
 obtain ⟨c, hc⟩ : ∃ c, (b / 16 + b) &&& 1085102592571150095 = c := ⟨_, rfl⟩
 obtain ⟨d, e, f, hd, he, hf, hm, lc, ld, le, lf, lb, la⟩ := ones_steps x a b c ha hb hc
 have key : ∀ (u m : Nat) (U M : Int), U = (u : Int) → M = (m : Int) → u < 18446744073709551616 → m < 18446744073709551616 → bits BinOp.and IntKind.u64 U M = ((u &&& m : Nat) : Int) := fun u m U M hU hM h1 h2 => by rw [hU, hM]; exact bits_and_u64_nat u m h1 h2
 have q1 := key (x / 2) 6148914691236517205 ((x : Int) / 2) 6148914691236517205 (by omega) rfl (by omega) (by omega)
 have q2 := key x 6148914691236517205 (x : Int) 6148914691236517205 rfl rfl hx (by omega)
 have q3 := key (a / 4) 3689348814741910323 ((a : Int) / 4) 3689348814741910323 (by omega) rfl (by omega) (by omega)
 have q4 := key a 3689348814741910323 (a : Int) 3689348814741910323 rfl rfl (by omega) (by omega)
 have q5 := key (b / 16 + b) 1085102592571150095 ((b : Int) / 16 + (b : Int)) 1085102592571150095 (by omega) rfl (by omega) (by omega)
 have r1 : IntKind.u64.wrap ((((x / 2) &&& 6148914691236517205 : Nat) : Int) + ((x &&& 6148914691236517205 : Nat) : Int)) = (a : Int) := by rw [IntKind.wrap_u64]; omega
 have r2 : IntKind.u64.wrap ((((a / 4) &&& 3689348814741910323 : Nat) : Int) + ((a &&& 3689348814741910323 : Nat) : Int)) = (b : Int) := by rw [IntKind.wrap_u64]; omega
 rw [hc] at q5
 generalize (x / 2) &&& 6148914691236517205 = u1 at q1 r1
 generalize x &&& 6148914691236517205 = u2 at q2 r1
 generalize (a / 4) &&& 3689348814741910323 = u3 at q3 r2
 generalize a &&& 3689348814741910323 = u4 at q4 r2
 have r3 : IntKind.u64.wrap ((b : Int) / 16 + (b : Int)) = (b : Int) / 16 + (b : Int) := by rw [IntKind.wrap_u64]; omega
 have r4 : IntKind.u64.wrap ((c : Int) + (c : Int) / 256) = (d : Int) := by rw [IntKind.wrap_u64]; omega
 have r5 : IntKind.u64.wrap ((d : Int) + (d : Int) / 65536) = (e : Int) := by rw [IntKind.wrap_u64]; omega
 have r6 : IntKind.u64.wrap ((e : Int) + (e : Int) / 4294967296) = (f : Int) := by rw [IntKind.wrap_u64]; omega
 have r7 : wrap64 (f : Int) = (f : Int) := by unfold wrap64; omega
 have q6 : bits BinOp.and IntKind.i64 (f : Int) 127 = ((f % 128 : Nat) : Int) := by rw [i64_and127]; omega
 have HM := hid hm
 have Q1 := hid q1
 have Q2 := hid q2
 have Q3 := hid q3
 have Q4 := hid q4
 have Q5 := hid q5
 have Q6 := hid q6
 have R1 := hid r1
 have R2 := hid r2
 have R3 := hid r3
 have R4 := hid r4
 have R5 := hid r5
 have R6 := hid r6
 have R7 := hid r7
 clear key ha hb hc hd he hf hm lc ld le lf lb la hx q1 q2 q3 q4 q5 q6 r1 r2 r3 r4 r5 r6 r7
 go_enter Try.func67, Try.ntmps67
 go_wp2
 go_ret
 refine ⟨ret_int ?_, rfl⟩
 simp only [Q1.out, Q2.out, R1.out, Q3.out, Q4.out, R2.out, R3.out, Q5.out, R4.out, R5.out, R6.out, R7.out, Q6.out, HM.out]
end Go.Proofs.Ytfbimboemahhhaa
