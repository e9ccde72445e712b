/- Texts joined: ShaM0, MerkA1. -/
import Derived.Test.YtniclaapiabmdaaGreatDoorM02
import Derived.Test.YtniclaapiabmdaaGreatDoorM01
import Derived.Deep.RegionHeldLaw
import Derived.Lib.ConvBytes
import Derived.LoopTactic
import Derived.Deep.QuietTactic
import Derived.BigQuiet
namespace Go.Proofs.YtniclaapiabmdaaGreatDoor
set_option maxRecDepth 100000
open Go.RowKit
def s0 : S8 := ⟨0x6a09e667, 0xbb67ae85, 0x3c6ef372, 0xa54ff53a, 0x510e527f, 0x9b05688c, 0x1f83d9ab, 0x5be0cd19⟩
/-- block g holds the state s -/
def SBlk (w : World) (g : Nat) (s : S8) : Prop := w.heap[g]? = some (.cells s.list.toArray 125 (0, 0))

theorem wpList_store_s8 {w : World} {ops : Array Oper} {rest : List Oper} {o : Oper} {a : Act} {Q : Exit → Act → World → Prop} (hgd : o.guard = none) (x y : Operand) (ho : o.op = .store 125 x y)
    (g : Nat) (s : S8) (hx : a.eval x = .pointer (some ⟨g, 0, none⟩)) (hy : a.eval y = .agg s.list.toArray) (C : Array Value) (hg : w.heap[g]? = some (.cells C 125 (0, 0))) (hC : C.size = 8)
    (h : ∀ w', SBlk w' g s → (∀ B, B ≤ g → Below B w w') → w'.heap.size = w.heap.size → (∀ k, k ≠ g → w'.heap[k]? = w.heap[k]?) → wpList Tryz.prog ops Q rest (a.put o.dst undef) w') : wpList Tryz.prog ops Q (o :: rest) a w := by
  refine wpList_store_row hgd 125 x y ho g _ hx hy 125 C hg (by kernel_rfl) (by rw [hC]; rfl) (all_oneCell_toArray (list_one _)) ?_
  exact h _ (setRow_heap w g C _ 125 (0, 0) hg) (fun B hB => below_setRow (Below.refl _ _) hB _) (by simp [World.setRow]) (fun k hk => setRow_other w g k _ hk)

theorem SBlk.cells {w : World} {g : Nat} {s : S8} (h : SBlk w g s) : w.rangeAt g 0 s.list := by
  have := World.rangeAt_of_block h 0 8
  rwa [show (s.list.toArray.extract 0 (0 + 8)).toList = s.list by simp [S8.list]] at this
theorem SBlk.below {w w' : World} {g : Nat} {s : S8} (h : SBlk w g s) (hb : Below w.heap.size w w') : SBlk w' g s := (hb.block g (blk_lt h)).trans h

set_option maxHeartbeats 1000000 in
theorem begin_any (w : World) : Calls Tryz.prog 84 #[] w fun e w' => e = .returned s0.val ∧ Below w.heap.size w w' := by
  go_enter Tryz.func84, Tryz.ntmps84
  go_wp2_with (
    with_reducible refine at_build 125 ?_
    refine wpList_plain rfl fun K hK => wp_build_to 125 _ s0.list.toArray rfl ?_ (hK _ _ ?_)
    · simp only [List.map_toArray, List.map_cons, List.map_nil]
      exact build8 _ _ _ _ _ _ _ _
    refine wpList_store_s8 rfl (.tmp 0) (.tmp 1) rfl w.heap.size s0 rfl rfl _ (heap_alloc_new w _) rfl ?_
    intro w' hs hb _ _
    have hb2 : Below w.heap.size w w' := ((Below.refl _ _).alloc (Nat.le_refl _) _).trans (hb _ (Nat.le_refl _))
    clear hb
    apply wpList_nil)
  go_wp2_with fail
  refine bodyPost_ret (results_cell_mid rfl _ w' w.heap.size 0 s0.list _ rfl hs.cells rfl rfl rfl) rfl ?_
  exact ⟨rfl, hb2⟩
theorem index8 (s : S8) (t : Nat) (h : t < 8) (w : World) : (Instr.index 125 (.agg #[.int .u32 (s.a.toNat : Int), .int .u32 (s.b.toNat : Int), .int .u32 (s.c.toNat : Int), .int .u32 (s.d.toNat : Int), .int .u32 (s.e.toNat : Int), .int .u32 (s.f.toNat : Int), .int .u32 (s.g.toNat : Int), .int .u32 (s.h.toNat : Int)]) (.int .i64 (t : Int))).run Tryz.prog w = .ok (.int .u32 ((([s.a, s.b, s.c, s.d, s.e, s.f, s.g, s.h] : List UInt32).getD t 0).toNat : Int)) w := by
  have ht : t = 0 ∨ t = 1 ∨ t = 2 ∨ t = 3 ∨ t = 4 ∨ t = 5 ∨ t = 6 ∨ t = 7 := by omega
  rcases ht with rfl | rfl | rfl | rfl | rfl | rfl | rfl | rfl <;> rfl
end Go.Proofs.YtniclaapiabmdaaGreatDoor
namespace Go.Proofs.YtniclaapiabmdaaGreatDoor
set_option maxRecDepth 100000
open Go.RowKit

/-- how long the filled-up rest is -/
def fullOf (n : Nat) : Nat := (n + 72) / 64 * 64
def pad (l : List UInt8) (size : Nat) : List UInt8 := over ((over (List.replicate (fullOf l.length) 0) 0 l).set l.length 128) (fullOf l.length - 8) (be (8 * size % 18446744073709551616) 8)
theorem fullOf_le (n : Nat) : n + 9 ≤ fullOf n ∧ fullOf n ≤ n + 72 := by unfold fullOf; omega
theorem pad_length (l : List UInt8) (size : Nat) : (pad l size).length = fullOf l.length := by
  have := fullOf_le l.length
  unfold pad
  have h1 : (over (List.replicate (fullOf l.length) 0) 0 l).length = fullOf l.length := by rw [over_length (by simp; omega)]; simp
  rw [over_length (by rw [be_length, List.length_set, h1]; omega), List.length_set, h1]

set_option maxHeartbeats 1000000 in
theorem tail_any (v : Value) (l : List UInt8) (size : Nat) (w : World) (hr : Rd w w.heap.size v l) (hl : l.length ≤ 140737488355000) (hs : size < 9223372036854775808) :
    Calls Tryz.prog 86 #[v, .int .i64 (size : Int)] w fun e w' => ∃ v', e = .returned v' ∧ Own w' w.heap.size v' (pad l size) ∧ Below w.heap.size w w' := by
  obtain ⟨i0, hi, hz, hsz, hby⟩ := info_parts Tryz.infoByte
  obtain ⟨A, c, rfl⟩ := hr.form
  go_enter Tryz.func86, Tryz.ntmps86
  go_wp2_with (
    first
      | (
        at_make
        have hF : ((l.length : Int) + 1 + 8 + 64 - 1) / 64 * 64 = (fullOf l.length : Int) := by unfold fullOf; omega
        rw [hF]
        clear hF
        have hfl := fullOf_le l.length
        have HP := Lib.hid (show pad l size = over ((over (List.replicate (fullOf l.length) 0) 0 l).set l.length 128) (fullOf l.length - 8) (be (8 * size % 18446744073709551616) 8) from rfl)
        have HPL := Lib.hid (pad_length l size)
        generalize fullOf l.length = F at *
        refine wpList_make_zero rfl (.tmp 15) (.tmp 15) 27 rfl Tryz.underlying27 i0 hi hz hsz hby F rfl rfl (by omega) ?_
        intro hb0
        have hbw0 : Below w.heap.size w (w.alloc (.cells (bcells (List.replicate F 0)).toArray 5)) := (Below.refl _ _).alloc (Nat.le_refl _) _
        have hr0 : Rd (w.alloc (.cells (bcells (List.replicate F 0)).toArray 5)) w.heap.size _ l := hr.below hbw0
        have hsz0 : (w.alloc (.cells (bcells (List.replicate F 0)).toArray 5)).heap.size = w.heap.size + 1 := by simp
        generalize w.alloc (.cells (bcells (List.replicate F 0)).toArray 5) = w0 at *
        obtain ⟨g, hg⟩ : ∃ g, g = w.heap.size := ⟨_, rfl⟩
        rw [← hg] at hb0 hsz0 hbw0
        simp only [← hg]
        rw [← hg] at hr0
        have HG := Lib.hid hg
        clear hg hr)
      | (
        with_reducible refine at_copy ?_
        refine wpList_copy_part rfl (.tmp 17) (.tmp 18) 27 rfl Tryz.underlying27 Tryz.sizeByte rfl rfl hr0 hb0 (by omega) (by simp; omega) ?_
        intro w1 hb1 hbw1 hsz1 _
        have hbx : Below g w w1 := hbw0.trans (hbw1 g (Nat.le_refl _))
        have hlen : (over (List.replicate F 0) 0 l).length = F := by rw [over_length (by simp; omega)]; simp
        have i1 : (0 : Int) ≤ (l.length : Int) := by omega
        have i2 : (l.length : Int) < (F : Int) := by omega
        have hc := hb1.cell l.length (by omega)
        have hfz := hb1.free l.length
        have hst := hb1.set l.length 128
        clear hbw1 hb0 hr0 hbw0))
  have hbz : Below g w (w1.setCell ⟨g, l.length, none⟩ (.int .u8 128)) := hbx.setCell (Nat.le_refl _) _
  replace hst : Blk (w1.setCell ⟨g, l.length, none⟩ (.int .u8 128)) g ((over (List.replicate F 0) 0 l).set l.length 128) := hst
  have hsz2 : (w1.setCell ⟨g, l.length, none⟩ (.int .u8 128)).heap.size = w1.heap.size := by simp
  generalize w1.setCell ⟨g, l.length, none⟩ (.int .u8 128) = w2 at *
  have hlen2 : ((over (List.replicate F 0) 0 l).set l.length 128).length = F := by rw [List.length_set, hlen]
  generalize (over (List.replicate F 0) 0 l).set l.length 128 = M at *
  clear hc hfz hbx hb1 hlen
  have c8 : IntKind.i64.wrap ((F : Int) - 8) = ((F - 8 : Nat) : Int) := by rw [IntKind.wrap_i64]; omega
  have c11 : IntKind.u64.wrap (size : Int) = (size : Int) := by rw [IntKind.wrap_u64]; omega
  have c12 : IntKind.u64.wrap (8 * (size : Int)) = ((8 * size % 18446744073709551616 : Nat) : Int) := by rw [IntKind.wrap_u64]; omega
  have c13 : (8 * size % 18446744073709551616 : Nat) < 18446744073709551616 := by omega
  generalize hns : (8 * size % 18446744073709551616 : Nat) = ns at *
  clear hns
  have c9 : (0 : Int) ≤ ((F - 8 : Nat) : Int) := by omega
  have c10 : ((F - 8 : Nat) : Int) ≤ (F : Int) := by omega
  have c14 : F - (F - 8) = 8 := by omega
  have c15 : ¬ F = F - 8 := by omega
  have hN := fun W : World => N_any (.slice none 0 0) [] ns W (Rd.nil _ _) c13 (by simp)
  have hbl := be_length
  go_region_held_law (fun _ => True) (trivial)
    (first
      | (go_at_call 91; refine (hN _).mono ?_; rintro e w3 ⟨v3, rfl, ho3, hb3⟩)
      | (rw [if_pos (by rfl)]; refine wp_copy_part (.tmp 27) (.tmp 31) 27 rfl Tryz.underlying27 Tryz.sizeByte rfl rfl (Own.rd' ho3 rfl) (Blk.below (w := w2.drew) hst hb3) (Nat.le_of_eq (be_length _ _)) (by rw [hlen2]; rw [List.nil_append, be_length]; omega) ?_; intro w4 hb4 hbw4 hs4 _))
  go_wp2
  go_ret
  have e : pad l size = over M (F - 8) ([] ++ be ns 8) := HP.out
  have hL := HPL.out
  refine ⟨_, rfl, ?_, ?_⟩
  · rw [e] at hL ⊢
    have h5 := hb4.own (B := w.heap.size) (Nat.le_of_eq HG.out.symm) (by simp only [maxLen]; omega)
    rw [hL] at h5
    exact h5
  · rw [← HG.out]
    exact (below_chain hbz.drew (Nat.le_of_lt hst.lt) hb3).trans (hbw4 g (Nat.le_refl _))
end Go.Proofs.YtniclaapiabmdaaGreatDoor
namespace Go.Proofs.YtniclaapiabmdaaGreatDoor
set_option maxRecDepth 100000
open Go.RowKit

def eat (s : S8) (l : List UInt8) : Nat → S8
  | 0 => s
  | k + 1 => taken8 (eat s l k) ((l.drop (64 * k)).take 64)
def S8.bytes (s : S8) : List UInt8 := [s.a, s.b, s.c, s.d, s.e, s.f, s.g, s.h].flatMap fun x => be x.toNat 4
def shaEnd (l : List UInt8) : List UInt8 := pad (l.drop (64 * (l.length / 64))) l.length
def shaSum (l : List UInt8) : List UInt8 := (eat (eat s0 l (l.length / 64)) (shaEnd l) ((shaEnd l).length / 64)).bytes

def S8.words (s : S8) : List UInt32 := [s.a, s.b, s.c, s.d, s.e, s.f, s.g, s.h]
def S8.word (s : S8) (t : Nat) : UInt32 := s.words.getD t 0
def S8.out (s : S8) (t : Nat) : List UInt8 := (s.words.take t).flatMap fun x => be x.toNat 4
theorem S8.out_succ (s : S8) (t : Nat) (h : t < 8) : s.out (t + 1) = s.out t ++ be (s.word t).toNat 4 := by
  have hl : t < s.words.length := h
  unfold S8.out S8.word
  generalize s.words = L at *
  rw [List.take_add_one, List.flatMap_append, List.getD_eq_getElem?_getD, List.getElem?_eq_getElem hl]
  simp
theorem S8.out_length (s : S8) (t : Nat) (h : t ≤ 8) : (s.out t).length = 4 * t := by
  induction t with
  | zero => simp [S8.out]
  | succ t ih => rw [s.out_succ t (by omega), List.length_append, ih (by omega), be_length]; omega

theorem lit4 (x : UInt32) : (#[.int .u8 ((x.toNat : Int) / 16777216 % 256), .int .u8 ((x.toNat : Int) / 65536 % 256), .int .u8 ((x.toNat : Int) / 256 % 256), .int .u8 ((x.toNat : Int) % 256)] : Array Value) = (bcells (be x.toNat 4)).toArray := by
  have h : be x.toNat 4 = [UInt8.ofNat (x.toNat / 16777216), UInt8.ofNat (x.toNat / 65536), UInt8.ofNat (x.toNat / 256), UInt8.ofNat (x.toNat / 1)] := rfl
  rw [h]
  simp only [bcells, List.map_cons, List.map_nil, bval_ofNat, Int.natCast_ediv, Nat.div_one]
  rfl

theorem Rd.sub {w : World} {B b o n c : Nat} {l : List UInt8} (h : Rd w B (.slice (some ⟨b, o, none⟩) n c) l) (k m c' : Nat) (hk : k + m ≤ n) (hc : m ≤ c') (hm : c' ≤ maxLen) : Rd w B (.slice (some ⟨b, o + k, none⟩) m c') ((l.drop k).take m) := by
  obtain ⟨A, c0, hv, hlc, hcm, hp⟩ := h
  injection hv with h1 h2 h3
  subst h2
  have hlen : ((l.drop k).take m).length = m := by simp; omega
  refine ⟨some ⟨b, o + k, none⟩, c', by rw [hlen], by omega, hm, fun h0 => ?_⟩
  obtain ⟨b1, o1, e, hb, hcell⟩ := hp (by omega)
  rw [← h1] at e
  injection e with e
  injection e with e1 e2
  subst e1; subst e2
  refine ⟨b, o + k, rfl, hb, fun j hj => ?_⟩
  rw [show o + k + j = o + (k + j) by omega, hcell (k + j) (by omega)]
  simp

theorem Rd.from {w : World} {B n c : Nat} {A : Option Addr} {l : List UInt8} (h : Rd w B (.slice A n c) l) (k : Nat) (hk : k ≤ n) (X : Option Addr) (hX : (if c = k then A else A.map fun x => x.add k) = X) : Rd w B (.slice X (n - k) (c - k)) (l.drop k) := by
  have h0 := h
  obtain ⟨A', c', hv, hlc, hcm, hp⟩ := h0
  injection hv with h1 h2 h3
  subst h1; subst h2; subst h3
  by_cases hz : l.length - k = 0
  · rw [hz, List.drop_eq_nil_of_le (by omega)]
    exact rd_empty (by omega)
  · obtain ⟨b, o, rfl, -, -⟩ := hp (by omega)
    rw [if_neg (by omega)] at hX
    subst hX
    have := h.sub k (l.length - k) (c - k) (by omega) (by omega) (by omega)
    rw [List.take_of_length_le (by simp)] at this
    simp only [Option.map_some, Addr.add_mid]
    exact this

theorem SBlk.at8 {w : World} {g : Nat} {s : S8} (h : SBlk w g s) : w.cell? ⟨g, 0, none⟩ = some (.int .u32 (s.a.toNat : Int)) ∧ w.cell? ⟨g, 1, none⟩ = some (.int .u32 (s.b.toNat : Int)) ∧ w.cell? ⟨g, 2, none⟩ = some (.int .u32 (s.c.toNat : Int)) ∧ w.cell? ⟨g, 3, none⟩ = some (.int .u32 (s.d.toNat : Int)) ∧
    w.cell? ⟨g, 4, none⟩ = some (.int .u32 (s.e.toNat : Int)) ∧ w.cell? ⟨g, 5, none⟩ = some (.int .u32 (s.f.toNat : Int)) ∧ w.cell? ⟨g, 6, none⟩ = some (.int .u32 (s.g.toNat : Int)) ∧ w.cell? ⟨g, 7, none⟩ = some (.int .u32 (s.h.toNat : Int)) :=
  ⟨blk_cell h 0, blk_cell h 1, blk_cell h 2, blk_cell h 3, blk_cell h 4, blk_cell h 5, blk_cell h 6, blk_cell h 7⟩

set_option maxRecDepth 100000 in
set_option maxHeartbeats 2000000 in
theorem sum_any (v : Value) (l : List UInt8) (w : World) (hr : Rd w w.heap.size v l) (hl : l.length ≤ 140737488355000) (fr : TypeId × Nat × Nat) (hk : w.heap[0]? = some (.cells kVals fr.1 fr.2)) :
    Calls Tryz.prog 34 #[v] w fun e w' => ∃ v', e = .returned v' ∧ Own w' w.heap.size v' (shaSum l) ∧ Below w.heap.size w w' := by
  have hn0 := blk_lt hk
  obtain ⟨i0, hi, hz, hsz, hby⟩ := info_parts Tryz.infoByte
  obtain ⟨A, c, rfl, hc, hcm, hp⟩ := id hr
  go_enter Tryz.func34, Tryz.ntmps34
  go_wp2_with fail
  refine (begin_any w).mono ?_
  rintro e w1 ⟨rfl, hb1⟩
  have HP := Lib.hid hp
  clear hp
  obtain ⟨n, hn⟩ : ∃ n, n = l.length / 64 := ⟨_, rfl⟩
  obtain ⟨q, hq⟩ : ∃ q, q = 64 * n := ⟨_, rfl⟩
  have hq2 : q ≤ l.length := by omega
  have q1 : (l.length : Int) / 64 * 64 = (q : Int) := by omega
  have HN := Lib.hid (And.intro hn hq)
  clear hn hq
  go_wp2_with (
    with_reducible refine at_store 125 ?_
    generalize hwa : World.alloc w1 _ = wa
    obtain ⟨Z, hZs, hG⟩ : ∃ Z : Array Value, Z.size = 8 ∧ wa.heap[w1.heap.size]? = some (.cells Z 125 (0, 0)) := ⟨_, rfl, by rw [← hwa]; exact heap_alloc_new w1 _⟩
    have hba : Below w.heap.size w wa := by rw [← hwa]; exact hb1.alloc hb1.size _
    refine wpList_store_s8 rfl (.tmp 3) (.tmp 11) rfl w1.heap.size s0 rfl rfl Z hG hZs ?_
    intro w2 hs2 hbx _ _
    have hb2 : Below w.heap.size w w2 := hba.trans (hbx _ hb1.size)
    have hge := hb1.size
    clear hwa hG hba hbx hb1 hZs
    generalize w1.heap.size = g at *
    apply wpList_nil)
  go_loopw [5] (fun i wr => ∃ (p k : Nat), p = 64 * k ∧ p ≤ q ∧ i = .int .i64 (p : Int) ∧ SBlk wr g (eat s0 l k) ∧ Below w.heap.size w wr)
    (fun i _ => q - (intOf i).toNat)
  case atStart => exact ⟨0, 0, rfl, Nat.zero_le _, rfl, hs2, hb2⟩
  case round =>
    clear hs2 hb2
    obtain ⟨p, k, hpk, hpq, rfl, hs, hb⟩ := hrel
    by_cases hlt : p < q
    · have hx := HN.out
      have hp64 : p + 64 ≤ q := by omega
      obtain ⟨b, o, rfl, -, -⟩ := HP.out (by omega)
      obtain ⟨a0, a1, a2, a3, a4, a5, a6, a7⟩ := hs.at8
      have hsub := Rd.sub hr p 64 (c - p) (by omega) (by omega) (by omega)
      have hpl : ((l.drop p).take 64).length = 64 := by simp; omega
      have HK := Lib.hid hpk
      clear hpk hx
      obtain ⟨s, hse⟩ : ∃ s, s = eat s0 l k := ⟨_, rfl⟩
      rw [← hse] at hs a0 a1 a2 a3 a4 a5 a6 a7
      have HS := Lib.hid hse
      clear hse
      have c2 : (0 : Int) ≤ (p : Int) := by omega
      have c3 : (p : Int) ≤ (p : Int) + 64 := by omega
      have c4 : (p : Int) + 64 ≤ (c : Int) := by omega
      have c1 : (0 : Int) ≤ (p : Int) + 64 := by omega
      have c0 : IntKind.i64.wrap ((p : Int) + 64) = (p : Int) + 64 := by rw [IntKind.wrap_i64]; omega
      have c8 : ((p : Int) + 64).toNat = p + 64 := by omega
      have c5 : (p : Int) < (q : Int) := by omega
      have c6 : ¬ c = p := by omega
      have c7 : p + 64 - p = 64 := by omega
      go_wp2
      refine wp_region_still_tail 6 (by kernel_rfl) (by kernel_rfl) ?_
      simp only [List.take_succ_cons, List.take_zero, List.drop_succ_cons, List.drop_zero]
      repeat still_step
      try refine wpStill_nil ?_
      change wpList _ _ _ _ _ wr.drew
      have hs1 : SBlk wr.drew g s := hs
      have hb1 : Below w.heap.size w wr.drew := hb.drew
      clear a0 a1 a2 a3 a4 a5 a6 a7 hs hb
      generalize wr.drew = wd at *
      go_wp2_with fail
      refine (taken_any s _ _ wd ((hsub.below hb1).more hb1.size) hpl fr ((hb1.block _ hn0).trans hk)).mono ?_
      rintro e w4 ⟨rfl, hb4⟩
      have hb5 : Below w.heap.size w w4 := below_chain hb1 hb1.size hb4
      have hs4 : SBlk w4 g s := hs1.below hb4
      clear hb4
      go_wp2_with (
        with_reducible refine at_store 125 ?_
        refine wpList_store_s8 rfl (.tmp 3) (.tmp 27) rfl g (taken8 s ((l.drop p).take 64)) rfl rfl _ hs4 rfl ?_
        intro w6 hs6 hb6 _ _
        have hb7 : Below w.heap.size w w6 := hb5.trans (hb6 _ hge)
        clear hs4 hb6)
      go_roundw
      case rel =>
        refine ⟨p + 64, k + 1, by have := HK.out; omega, by omega, by go_num, ?_, hb7⟩
        rw [HS.out, HK.out] at hs6
        exact hs6
      case measure => simp [intOf]; omega
    · have hpe : p = q := by omega
      have c5 : ¬ (p : Int) < (q : Int) := by omega
      obtain ⟨hx1, hx2⟩ := HN.out
      have hkn : k = n := by omega
      have hs2 : SBlk wr g (eat s0 l (l.length / 64)) := by rw [← hx1, ← hkn]; exact hs
      have c2 : (0 : Int) ≤ (q : Int) := by omega
      have c3 : (q : Int) ≤ (l.length : Int) := by omega
      have HE := Lib.hid (show shaEnd l = pad (l.drop q) l.length by unfold shaEnd; rw [hx2, hx1])
      obtain ⟨X, hX⟩ : ∃ X, (if c = q then A else A.map fun x => x.add q) = X := ⟨_, rfl⟩
      have hrx := hr.from q hq2 X hX
      clear hx1 hx2 hs hpk
      go_wp2_with fail
      refine (tail_any (.slice X (l.length - q) (c - q)) (l.drop q) l.length wr ((hrx.below hb).more hb.size) (by simp; omega) (by omega)).mono ?_
      rintro e w3 ⟨v3, rfl, ho3, hb3⟩
      rw [← HE.out] at ho3
      have hbw3 : Below w.heap.size w w3 := below_chain hb hb.size hb3
      have hs3 := hs2.below hb3
      have hel : (shaEnd l).length ≤ l.length + 72 := by have := fullOf_le (l.drop q).length; rw [HE.out, pad_length]; simp at this ⊢; omega
      have he64 : (shaEnd l).length % 64 = 0 := by rw [HE.out, pad_length]; unfold fullOf; omega
      have hg3 := blk_lt hs2
      have ho4 : Own w3 (g + 1) v3 (shaEnd l) := ho3.more (by omega)
      obtain ⟨b3, c3, hv3, hc3, hcm3, -⟩ := id ho4.rd
      subst hv3
      clear hb3 hb hs2 ho3 hX
      generalize hM : shaEnd l = M at *
      obtain ⟨s1, hs1⟩ : ∃ s, s = eat s0 l (l.length / 64) := ⟨_, rfl⟩
      rw [← hs1] at hs3
      have HS1 := Lib.hid hs1
      have HM := Lib.hid hM
      clear hM
      have HXX := Lib.hid hpe
      obtain ⟨m, hm⟩ : ∃ m, M.length = 64 * m := ⟨M.length / 64, by omega⟩
      have HMM := Lib.hid hm
      clear hs1 hpe hkn hlt c5 q1 hpq he64 hm
      go_wp2
      obtain ⟨w3', rfl⟩ : ∃ wq : World, wq = w3 := ⟨_, rfl⟩
      go_loopw [7] (fun i wr => ∃ (p k : Nat), p = 64 * k ∧ p ≤ M.length ∧ i = .int .i64 (p : Int) ∧ SBlk wr g (eat s1 M k) ∧ Below w.heap.size w wr ∧ Own wr (g + 1) (.slice b3 M.length c3) M)
        (fun i _ => M.length - (intOf i).toNat)
      case atStart => exact ⟨0, 0, rfl, Nat.zero_le _, rfl, hs3, hbw3, ho4⟩
      case round =>
        clear hs3 hbw3 ho4
        obtain ⟨p, k, hpk, hpq, rfl, hs, hb, ho⟩ := hrel
        have hm := HMM.out
        by_cases hlt : p < M.length
        · have hp64 : p + 64 ≤ M.length := by omega
          have hrM := ho.rd
          obtain ⟨b, o, rfl⟩ : ∃ b o, b3 = some ⟨b, o, none⟩ := by
            obtain ⟨_, _, e, _, _, hq⟩ := id hrM
            obtain ⟨b, o, e2, _⟩ := hq (by omega)
            injection e with e
            exact ⟨b, o, e.trans e2⟩
          obtain ⟨a0, a1, a2, a3, a4, a5, a6, a7⟩ := hs.at8
          have hsub := Rd.sub hrM p 64 (c3 - p) (by omega) (by omega) (by omega)
          have hpl : ((M.drop p).take 64).length = 64 := by simp; omega
          have HK := Lib.hid hpk
          clear hpk hm hrM
          obtain ⟨s, hse⟩ : ∃ s, s = eat s1 M k := ⟨_, rfl⟩
          rw [← hse] at hs a0 a1 a2 a3 a4 a5 a6 a7
          have HS := Lib.hid hse
          clear hse
          have c2 : (0 : Int) ≤ (p : Int) := by omega
          have c3' : (p : Int) ≤ (p : Int) + 64 := by omega
          have c4 : (p : Int) + 64 ≤ (c3 : Int) := by omega
          have c1 : (0 : Int) ≤ (p : Int) + 64 := by omega
          have c0 : IntKind.i64.wrap ((p : Int) + 64) = (p : Int) + 64 := by rw [IntKind.wrap_i64]; omega
          have c8 : ((p : Int) + 64).toNat = p + 64 := by omega
          have c5 : (p : Int) < (M.length : Int) := by omega
          have c6 : ¬ c3 = p := by omega
          have c7 : p + 64 - p = 64 := by omega
          go_wp2
          refine wp_region_still_tail 6 (by kernel_rfl) (by kernel_rfl) ?_
          simp only [List.take_succ_cons, List.take_zero, List.drop_succ_cons, List.drop_zero]
          repeat still_step
          try refine wpStill_nil ?_
          change wpList _ _ _ _ _ wr.drew
          have hsd : SBlk wr.drew g s := hs
          have hbd : Below w.heap.size w wr.drew := hb.drew
          have hod : Own wr.drew (g + 1) _ M := ho
          have hsubd : Rd wr.drew wr.drew.heap.size _ _ := hsub
          clear a0 a1 a2 a3 a4 a5 a6 a7 hs hb ho hsub
          generalize wr.drew = wd at *
          go_wp2_with fail
          refine (taken_any s _ _ wd hsubd hpl fr ((hbd.block _ hn0).trans hk)).mono ?_
          rintro e w4 ⟨rfl, hb4⟩
          have hb5 : Below w.heap.size w w4 := below_chain hbd hbd.size hb4
          have hs4 : SBlk w4 g s := hsd.below hb4
          have ho5 := hod.below hb4
          clear hb4 hsubd hod hsd hbd
          go_wp2_with (
            with_reducible refine at_store 125 ?_
            refine wpList_store_s8 rfl (.tmp 3) (.tmp 46) rfl g (taken8 s ((M.drop p).take 64)) rfl rfl _ hs4 rfl ?_
            intro w6 hs6 hb6 _ ho6
            have hb7 : Below w.heap.size w w6 := hb5.trans (hb6 _ hge)
            have hb0 := hb6 0 (Nat.zero_le _)
            have ho7 : Own w6 (g + 1) _ M := ho5.grown (row := some g) ⟨hb0.os, hb0.tape, hb0.output, hb0.size, fun k _ hne => ho6 k (by rintro rfl; exact hne rfl)⟩ (.inr (by intro e; have := ho5.lt g e; omega))
            clear hs4 hb6 ho6 hb0 ho5)
          go_roundw
          case rel =>
            refine ⟨p + 64, k + 1, by have := HK.out; omega, by omega, by go_num, ?_, hb7, ho7⟩
            rw [HS.out, HK.out] at hs6
            exact hs6
          case measure => simp [intOf]; omega
        · have hpe : k = M.length / 64 := by omega
          have c5 : ¬ (p : Int) < (M.length : Int) := by omega
          have hs2 : SBlk wr g (eat s1 M (M.length / 64)) := by rw [← hpe]; exact hs
          have HQ := Lib.hid (show shaSum l = (eat s1 M (M.length / 64)).bytes by unfold shaSum; rw [HM.out, ← HS1.out])
          clear hpe hpk hm hs HM
          obtain ⟨s2, hs9⟩ : ∃ s, s = eat s1 M (M.length / 64) := ⟨_, rfl⟩
          rw [← hs9] at hs2 HQ
          obtain ⟨a0, a1, a2, a3, a4, a5, a6, a7⟩ := hs2.at8
          clear hs9 hs2
          go_wp2
          obtain ⟨wr', rfl⟩ : ∃ wq : World, wq = wr := ⟨_, rfl⟩
          go_loopw [8, 48] (fun v8 i wr => ∃ t : Nat, t ≤ 8 ∧ i = .int .i64 (t : Int) ∧ Own wr w.heap.size v8 (s2.out t) ∧ Below w.heap.size w wr)
            (fun _ i _ => 8 - (intOf i).toNat)
          case atStart => exact ⟨0, Nat.zero_le _, rfl, Own.nil _ _, hb⟩
          case round =>
            clear hb ho
            obtain ⟨t, ht, rfl, ho, hb⟩ := hrel
            by_cases hlt : t < 8
            · have hx := s2.out_succ t hlt
              have hol : (s2.out t).length = 4 * t := s2.out_length t ht
              have HX := Lib.hid hx
              clear hx
              obtain ⟨x, hxx⟩ : ∃ x, x = s2.word t := ⟨_, rfl⟩
              have hidx : ∀ W : World, (Instr.index 125 (.agg #[.int .u32 (s2.a.toNat : Int), .int .u32 (s2.b.toNat : Int), .int .u32 (s2.c.toNat : Int), .int .u32 (s2.d.toNat : Int), .int .u32 (s2.e.toNat : Int), .int .u32 (s2.f.toNat : Int), .int .u32 (s2.g.toNat : Int), .int .u32 (s2.h.toNat : Int)]) (.int .i64 (t : Int))).run Tryz.prog W = .ok (.int .u32 (x.toNat : Int)) W := by
                rw [hxx]
                exact fun W => index8 s2 t hlt W
              have HY := Lib.hid hxx
              clear hxx
              have i1 : (0 : Int) ≤ (t : Int) := by omega
              have i2 : (t : Int) < 8 := by omega
              go_wp2_with (
                at_builtin
                refine wpList_append_rd rfl (.tmp 51) (.tmp 63) _ rfl i0 Tryz.underlying27 hi hz hsz hby rfl (ho.alloc _) rfl (rd_lit wr _ (be x.toNat 4) 4 (be_length _ _).symm (lit4 x) (by simp [maxLen])) (by rw [hol, be_length]; omega) (by have := hb.size; simp; omega) ?_
                intro v1 w1 ho1 hg1 _
                have hb1 : Below w.heap.size w w1 := Own.below_grown (hb.alloc hb.size _) (ho.alloc _) (Nat.le_refl _) (by have := hb.size; simp; omega) hg1
                rw [HY.out, ← HX.out] at ho1
                clear hg1 hidx)
              go_roundw
              case rel => exact ⟨t + 1, by omega, by go_num, ho1, hb1⟩
              case measure => simp [intOf]; omega
            · have ht8 : t = 8 := by omega
              have i2 : ¬ (t : Int) < 8 := by omega
              subst ht8
              go_wp2
              go_ret
              refine ⟨_, rfl, ?_, hb⟩
              rw [HQ.out]
              exact ho
end Go.Proofs.YtniclaapiabmdaaGreatDoor
namespace Go.Proofs.YtniclaapiabmdaaGreatDoor
set_option maxRecDepth 100000
open Go.RowKit

/-- bytes with their length ahead -/
def formB (m : List UInt8) : List UInt8 := be (m.take 65535).length 4 ++ m.take 65535
def formBs (ps : List (List UInt8)) : List UInt8 := ps.flatMap formB
theorem formB_length (m : List UInt8) : (formB m).length ≤ 65539 := by simp [formB, be_length]; omega
theorem formBs_length (ps : List (List UInt8)) : (formBs ps).length ≤ 65539 * ps.length := by
  induction ps with
  | nil => simp [formBs]
  | cons p ps ih => have := formB_length p; simp only [formBs, List.flatMap_cons, List.length_append, List.length_cons] at *; omega
theorem formBs_succ (ps : List (List UInt8)) (t : Nat) (h : t < ps.length) : formBs (ps.take (t + 1)) = formBs (ps.take t) ++ formB ps[t] := by
  unfold formBs
  rw [List.take_add_one, List.flatMap_append, List.getElem?_eq_getElem h]
  simp

/-- the slice value v holds slices that read as the rows ps -/
def Parts (w : World) (B : Nat) (v : Value) (ps : List (List UInt8)) : Prop :=
  ∃ A c, v = .slice A ps.length c ∧ (0 < ps.length → ∃ b o, A = some ⟨b, o, none⟩ ∧ b < B ∧ ∀ j (h : j < ps.length), ∃ x, w.cell? ⟨b, o + j, none⟩ = some x ∧ Rd w B x ps[j])

set_option maxHeartbeats 1000000 in
theorem tagged_any (word : ByteArray) (v : Value) (ps : List (List UInt8)) (w : World) (hv : Parts w w.heap.size v ps) (hsm : word.size ≤ maxLen) (hn : ps.length ≤ 1000) (fr : TypeId × Nat × Nat) (hk : w.heap[0]? = some (.cells kVals fr.1 fr.2)) :
    Calls Tryz.prog 70 #[.string word, v] w fun e w' => ∃ v', e = .returned v' ∧ Own w' w.heap.size v' (shaSum (formB (strBytes word) ++ formBs ps)) ∧ Below w.heap.size w w' := by
  have hn0 := blk_lt hk
  obtain ⟨i0, hi, hz, hsz, hby⟩ := info_parts Tryz.infoByte
  obtain ⟨A, c, rfl, hp⟩ := hv
  go_enter Tryz.func70, Tryz.ntmps70
  go_wp2_with fail
  refine (T_any (.slice none 0 0) word [] w (Rd.nil _ _) hsm (by simp)).mono ?_
  rintro e w1 ⟨v1, rfl, ho1, hb1⟩
  replace ho1 : Own w1 w.heap.size v1 (formB (strBytes word)) := ho1
  have HP := Lib.hid hp
  clear hp
  generalize hW : formB (strBytes word) = W at *
  have hWl : W.length ≤ 65539 := by rw [← hW]; exact formB_length _
  have HW := Lib.hid hW
  clear hW
  go_wp2
  go_loopw [5, 12] (fun v5 i wr => ∃ t : Nat, t ≤ ps.length ∧ i = .int .i64 (t : Int) ∧ Own wr w.heap.size v5 (W ++ formBs (ps.take t)) ∧ Below w.heap.size w wr)
    (fun _ i _ => ps.length - (intOf i).toNat)
  case atStart => exact ⟨0, Nat.zero_le _, rfl, by simpa [formBs] using ho1, hb1⟩
  case round =>
    clear ho1 hb1
    obtain ⟨t, ht, rfl, ho, hb⟩ := hrel
    have hfl := formBs_length (ps.take t)
    by_cases hlt : t < ps.length
    · obtain ⟨b, o, rfl, hbl, hcell⟩ := HP.out (by omega)
      obtain ⟨x, e, hx⟩ := hcell t hlt
      have e2 := (hb.cell (p := ⟨b, o + t, none⟩) hbl).trans e
      have hx2 : Rd wr wr.heap.size x ps[t] := (hx.below hb).more hb.size
      have HN := Lib.hid (formBs_succ ps t hlt)
      clear hcell HP e hx
      generalize ps[t] = p at *
      have i1 : (0 : Int) ≤ (t : Int) := by omega
      have i2 : (t : Int) < (ps.length : Int) := by omega
      go_wp2_with fail
      refine (B_any (.slice none 0 0) x [] p wr (Rd.nil _ _) hx2 (by simp)).mono ?_
      rintro e w3 ⟨v3, rfl, ho3, hb3⟩
      replace ho3 : Own w3 wr.heap.size v3 (formB p) := ho3
      have ho4 := ho.below hb3
      have hb4 : Below w.heap.size w w3 := below_chain hb hb.size hb3
      have hfp := formB_length p
      rw [List.length_take] at hfl
      clear ho hb hb3
      go_wp2_with (at_builtin; refine wpList_append_rd rfl (.tmp 16) (.tmp 18) _ rfl i0 Tryz.underlying27 hi hz hsz hby rfl ho4 rfl ho3.rd (by rw [List.length_append]; omega) hb4.size ?_; intro v5 w5 ho5 hg5 _)
      have hb5 : Below w.heap.size w w5 := Own.below_grown hb4 ho4 (Nat.le_refl _) hb4.size hg5
      rw [List.append_assoc, ← HN.out] at ho5
      clear hg5 ho4 ho3
      go_roundw
      case rel => exact ⟨t + 1, by omega, by go_num, ho5, hb5⟩
      case measure => simp [intOf]; omega
    · have hte : t = ps.length := by omega
      have i2 : ¬ (t : Int) < (ps.length : Int) := by omega
      rw [List.length_take] at hfl
      rw [hte, List.take_of_length_le (Nat.le_refl _)] at ho hfl
      have hrd := ho.rd
      clear hte HP
      go_wp2_with fail
      refine (sum_any u5 _ wr hrd (by rw [List.length_append]; omega) fr ((hb.block _ hn0).trans hk)).mono ?_
      rintro e w3 ⟨v3, rfl, ho3, hb3⟩
      go_wp2_with fail
      go_ret
      rw [HW.out]
      exact ⟨v3, rfl, ho3.more hb.size, below_chain hb hb.size hb3⟩
end Go.Proofs.YtniclaapiabmdaaGreatDoor
namespace Go.Proofs.YtniclaapiabmdaaGreatDoor
set_option maxRecDepth 100000
open Go.RowKit

theorem rounds_len (s : S8) : s.bytes.length = 32 := rfl
theorem shaSum_length (l : List UInt8) : (shaSum l).length = 32 := rounds_len _
end Go.Proofs.YtniclaapiabmdaaGreatDoor
namespace Go.Proofs.YtniclaapiabmdaaGreatDoor
set_option maxRecDepth 100000
set_option linter.unusedVariables false

/-- the greatest power of two below m -/
def cutM (m : Nat) : Nat := 2 ^ Nat.log2 (m - 1)
theorem cutM_lt {m : Nat} (h : 2 ≤ m) : cutM m < m ∧ m ≤ 2 * cutM m ∧ 1 ≤ cutM m := by
  unfold cutM
  have h1 := Nat.log2_self_le (n := m - 1) (by omega)
  have h2 := Nat.lt_log2_self (n := m - 1)
  rw [Nat.pow_succ] at h2
  exact ⟨by omega, by omega, Nat.one_le_two_pow⟩
theorem cutM_half {m : Nat} (h : 2 < m) : cutM m = 2 * cutM ((m + 1) / 2) := by
  unfold cutM
  have e : (m + 1) / 2 - 1 = (m - 1) / 2 := by omega
  have e2 : Nat.log2 (m - 1) = Nat.log2 ((m - 1) / 2) + 1 := by
    rw [Nat.log2_def (m - 1), if_pos (by omega)]
  rw [e, e2, Nat.pow_succ]
  omega
theorem cutM_two : cutM 2 = 1 := by decide

section
variable (N : List UInt8 → List UInt8 → List UInt8)
def pairUp : List (List UInt8) → List (List UInt8)
  | a :: b :: l => N a b :: pairUp l
  | [a] => [a]
  | [] => []
theorem pairUp_length : ∀ l : List (List UInt8), (pairUp N l).length = (l.length + 1) / 2
  | a :: b :: l => by simp only [pairUp, List.length_cons, pairUp_length l]; omega
  | [a] => by simp [pairUp]
  | [] => by simp [pairUp]
theorem pairUp_append : ∀ (a b : List (List UInt8)), a.length % 2 = 0 → pairUp N (a ++ b) = pairUp N a ++ pairUp N b
  | x :: y :: l, b, h => by simp only [List.cons_append, pairUp]; rw [pairUp_append l b (by simp only [List.length_cons] at h; omega)]
  | [x], b, h => by simp at h
  | [], b, h => rfl
/-- the hash of a row, cut at the greatest power of two -/
def rowR : Nat → List (List UInt8) → List UInt8
  | 0, l => l.headD []
  | f + 1, l => if l.length ≤ 1 then l.headD [] else N (rowR f (l.take (cutM l.length))) (rowR f (l.drop (cutM l.length)))
theorem rowR_one (f : Nat) (l : List (List UInt8)) (h : l.length ≤ 1) : rowR N f l = l.headD [] := by cases f <;> simp [rowR, h]
/-- enough is enough -/
theorem rowR_fuel : ∀ (f g : Nat) (l : List (List UInt8)), l.length ≤ f → l.length ≤ g → rowR N f l = rowR N g l := by
  intro f
  induction f with
  | zero => intro g l h _; rw [rowR_one N 0 l (by omega), rowR_one N g l (by omega)]
  | succ f ih =>
    intro g l h1 h2
    by_cases hl : l.length ≤ 1
    · rw [rowR_one N _ l hl, rowR_one N _ l hl]
    · obtain ⟨g, rfl⟩ : ∃ q, g = q + 1 := ⟨g - 1, by omega⟩
      obtain ⟨c1, c2, c3⟩ := cutM_lt (m := l.length) (by omega)
      unfold rowR
      rw [if_neg hl, if_neg hl, ih g _ (by simp; omega) (by simp; omega), ih g _ (by simp; omega) (by simp; omega)]
def rowT (l : List (List UInt8)) : List UInt8 := rowR N l.length l
theorem rowT_one (l : List (List UInt8)) (h : l.length ≤ 1) : rowT N l = l.headD [] := rowR_one N _ l h
theorem rowT_cut (l : List (List UInt8)) (h : 2 ≤ l.length) : rowT N l = N (rowT N (l.take (cutM l.length))) (rowT N (l.drop (cutM l.length))) := by
  obtain ⟨c1, c2, c3⟩ := cutM_lt h
  unfold rowT
  obtain ⟨f, hf⟩ : ∃ f, l.length = f + 1 := ⟨l.length - 1, by omega⟩
  conv => lhs; rw [hf]; unfold rowR
  rw [if_neg (by omega), rowR_fuel N f (l.take (cutM l.length)).length _ (by simp; omega) (Nat.le_refl _), rowR_fuel N f (l.drop (cutM l.length)).length _ (by simp; omega) (Nat.le_refl _)]
/-- pairing a row's hashes leaves its hash -/
theorem rowT_pair : ∀ (n : Nat) (l : List (List UInt8)), l.length = n → 2 ≤ n → rowT N (pairUp N l) = rowT N l := by
  intro n
  induction n using Nat.strongRecOn with
  | ind n ih =>
    intro l hl hn
    by_cases h2 : n = 2
    · subst h2
      match l, hl with
      | [a, b], _ =>
        rw [rowT_cut N [a, b] (by simp)]
        show _ = N (rowT N ([a, b].take (cutM 2))) (rowT N ([a, b].drop (cutM 2)))
        rw [cutM_two]
        rfl
    · obtain ⟨c1, c2, c3⟩ := cutM_lt (m := n) (by omega)
      have ch := cutM_half (m := n) (by omega)
      have hp : (pairUp N l).length = (n + 1) / 2 := by rw [pairUp_length, hl]
      obtain ⟨d1, d2, d3⟩ := cutM_lt (m := (n + 1) / 2) (by omega)
      have hsplit : pairUp N l = pairUp N (l.take (cutM n)) ++ pairUp N (l.drop (cutM n)) := by
        rw [← pairUp_append N _ _ (by simp; omega), List.take_append_drop]
      have hlt : (pairUp N (l.take (cutM n))).length = cutM ((n + 1) / 2) := by rw [pairUp_length]; simp; omega
      rw [rowT_cut N (pairUp N l) (by omega), rowT_cut N l (by omega), hp, hl, hsplit, List.take_left' hlt, List.drop_left' hlt]
      have e1 : rowT N (pairUp N (l.take (cutM n))) = rowT N (l.take (cutM n)) := ih (cutM n) c1 _ (by simp; omega) (by omega)
      have e2 : rowT N (pairUp N (l.drop (cutM n))) = rowT N (l.drop (cutM n)) := by
        by_cases h1 : n - cutM n ≤ 1
        · have hd : (l.drop (cutM n)).length = 1 := by simp; omega
          match l.drop (cutM n), hd with
          | [x], _ => rfl
        · exact ih (n - cutM n) (by omega) _ (by simp; omega) (by omega)
      rw [e1, e2]

/-- the hashes beside a leaf's way, row by row -/
def wayP : Nat → List (List UInt8) → Nat → List (List UInt8)
  | 0, _, _ => []
  | f + 1, l, i => if l.length ≤ 1 then [] else (if (i ^^^ 1) < l.length then [l.getD (i ^^^ 1) []] else []) ++ wayP f (pairUp N l) (i / 2)
def wayT (l : List (List UInt8)) (i : Nat) : List (List UInt8) := wayP N l.length l i
/-- up from a leaf, row by row; none: there aren't just as many hashes beside its way -/
def upP : Nat → List UInt8 → Nat → Nat → List (List UInt8) → Option (List UInt8)
  | 0, h, _, _, p => if p = [] then some h else none
  | f + 1, h, at_, m, p => if m ≤ 1 then (if p = [] then some h else none) else
      if m ≤ (at_ ^^^ 1) then upP f h (at_ / 2) ((m + 1) / 2) p else match p with
      | [] => none
      | x :: q => upP f (if at_ % 2 = 0 then N h x else N x h) (at_ / 2) ((m + 1) / 2) q
def upT (h : List UInt8) (i m : Nat) (p : List (List UInt8)) : Option (List UInt8) := upP N m h i m p
end
end Go.Proofs.YtniclaapiabmdaaGreatDoor
namespace Go.Proofs.YtniclaapiabmdaaGreatDoor
set_option maxRecDepth 100000
open Go Go.RowKit
set_option linter.unusedVariables false

abbrev Pr := ByteArray × List UInt8
def keyB (s : ByteArray) : Bool := decide (1 ≤ s.size) && decide (s.size ≤ 200)
/-- texts in order -/
def ltS (a b : ByteArray) : Bool := Op.bytesLess a.toList b.toList
def pairB (p : Pr) : Bool := keyB p.1 && decide (p.2.length ≤ 65535)
def ordR : Option ByteArray → List Pr → Bool
  | _, [] => true
  | q, p :: l => pairB p && (match q with | none => true | some a => ltS a p.1) && ordR (some p.1) l
def ordB (ps : List Pr) : Bool := decide (ps.length ≤ 65536) && ordR none ps
/-- the key ahead of place k -/
def prevK (ps : List Pr) (k : Nat) : Option ByteArray := if k = 0 then none else (ps[k - 1]?).map (·.1)
theorem ordR_step (ps : List Pr) (k : Nat) (h : k < ps.length) : ordR (prevK ps k) (ps.drop k) = (pairB ps[k] && (match prevK ps k with | none => true | some a => ltS a ps[k].1) && ordR (prevK ps (k + 1)) (ps.drop (k + 1))) := by
  rw [List.drop_eq_getElem_cons h]
  have : prevK ps (k + 1) = some ps[k].1 := by unfold prevK; rw [if_neg (by omega), Nat.add_sub_cancel, List.getElem?_eq_getElem h]; rfl
  rw [this]
  rfl
theorem ordR_end (ps : List Pr) : ordR (prevK ps ps.length) (ps.drop ps.length) = true := by rw [List.drop_length]; rfl

def wLeaf : ByteArray := ⟨#[108, 101, 97, 102]⟩
def wNode : ByteArray := ⟨#[110, 111, 100, 101]⟩
def wRoot : ByteArray := ⟨#[114, 111, 111, 116]⟩
def tagH (word : ByteArray) (ps : List (List UInt8)) : List UInt8 := shaSum (formB (strBytes word) ++ formBs ps)
def leafH (k : ByteArray) (v : List UInt8) : List UInt8 := tagH wLeaf [strBytes k, v]
def nodeH (a b : List UInt8) : List UInt8 := tagH wNode [a, b]
def rootE : List UInt8 := tagH wRoot [be 0 8]
def rootH (n : Nat) (h : List UInt8) : List UInt8 := tagH wRoot [be n 8, h]
def leaves (ps : List Pr) : List (List UInt8) := ps.map fun p => leafH p.1 p.2
/-- the root of pairs, or the error -/
def rootM (ps : List Pr) : List UInt8 × Int := if ordB ps = true then (if ps = [] then rootE else rootH ps.length (rowT nodeH (leaves ps)), 0) else ([], 60)
theorem tagH_length (word : ByteArray) (ps : List (List UInt8)) : (tagH word ps).length = 32 := shaSum_length _

/-- t times paired -/
def upN : Nat → List (List UInt8) → List (List UInt8)
  | 0, l => l
  | t + 1, l => pairUp nodeH (upN t l)
/-- the rows up to the row t -/
def levN (l : List (List UInt8)) : Nat → List (List (List UInt8))
  | 0 => [upN 0 l]
  | t + 1 => levN l t ++ [upN (t + 1) l]
theorem levN_length (l : List (List UInt8)) (t : Nat) : (levN l t).length = t + 1 := by induction t <;> simp [levN, *]
theorem levN_get (l : List (List UInt8)) (t : Nat) : ∀ j, j ≤ t → (levN l t)[j]? = some (upN j l) := by
  induction t with
  | zero => intro j hj; have : j = 0 := Nat.le_zero.1 hj; subst this; rfl
  | succ t ih =>
    intro j hj
    by_cases h : j ≤ t
    · rw [levN, List.getElem?_append_left (by rw [levN_length]; omega)]; exact ih j h
    · obtain rfl : j = t + 1 := by omega
      rw [levN, List.getElem?_append_right (by rw [levN_length]; omega), levN_length]
      simp
theorem upN_len (l : List (List UInt8)) (t : Nat) : (upN (t + 1) l).length = ((upN t l).length + 1) / 2 := pairUp_length _ _
/-- the root of the row that pairs leave -/
theorem upN_root (l : List (List UInt8)) (t : Nat) (h : ∀ j, j < t → 2 ≤ (upN j l).length) (h1 : (upN t l).length ≤ 1) : (upN t l).headD [] = rowT nodeH l := by
  have key : ∀ t, (∀ j, j < t → 2 ≤ (upN j l).length) → rowT nodeH (upN t l) = rowT nodeH l := by
    intro t
    induction t with
    | zero => intro _; rfl
    | succ t ih => intro h; rw [upN, rowT_pair nodeH _ _ rfl (h t (by omega))]; exact ih fun j hj => h j (by omega)
  rw [← key t h, rowT_one _ _ h1]
theorem pairUp_more (q : Nat) (r : List (List UInt8)) (hq : q % 2 = 0) (h : q + 1 < r.length) : pairUp nodeH (r.take (q + 2)) = pairUp nodeH (r.take q) ++ [nodeH (r[q]'(by omega)) r[q + 1]] := by
  have e : r.take (q + 2) = r.take q ++ [r[q]'(by omega), r[q + 1]] := by
    have e1 := List.take_append_getElem (l := r) (i := q + 1) (by omega)
    have e2 := List.take_append_getElem (l := r) (i := q) (by omega)
    rw [show q + 2 = q + 1 + 1 by omega, ← e1, ← e2, List.append_assoc]
    rfl
  rw [e, pairUp_append _ _ _ (by rw [List.length_take]; omega)]
  rfl
theorem pairUp_odd (q : Nat) (r : List (List UInt8)) (hq : q % 2 = 0) (h : q + 1 = r.length) : pairUp nodeH r = pairUp nodeH (r.take q) ++ [r[q]'(by omega)] := by
  have e : r = r.take q ++ [r[q]'(by omega)] := by
    rw [List.take_append_getElem (l := r) (i := q) (by omega)]
    exact (List.take_of_length_le (by omega)).symm
  have := pairUp_append nodeH (r.take q) [r[q]'(by omega)] (by rw [List.length_take]; omega)
  rw [← e] at this
  exact this
theorem upN_pos (l : List (List UInt8)) (h : 0 < l.length) (t : Nat) : 0 < (upN t l).length := by
  induction t with
  | zero => exact h
  | succ t ih => rw [upN_len]; omega
/-- the number of the first pair whose key is not below that one -/
def placeM (key : ByteArray) : List Pr → Nat
  | [] => 0
  | p :: l => if ltS p.1 key = true then placeM key l + 1 else 0
theorem rootM_no {ps : List Pr} (h : ordB ps = false) : rootM ps = ([], 60) := by unfold rootM; rw [if_neg (by simp [h])]
theorem rootM_nil {ps : List Pr} (h : ordB ps = true) (h0 : ps.length = 0) : rootM ps = (rootE, 0) := by
  unfold rootM
  rw [if_pos h, if_pos (List.length_eq_zero_iff.1 h0)]
theorem rootM_some {ps : List Pr} (h : ordB ps = true) (h0 : 0 < ps.length) : rootM ps = (rootH ps.length (rowT nodeH (leaves ps)), 0) := by
  unfold rootM
  rw [if_pos h, if_neg (by intro e; rw [e] at h0; simp at h0)]
theorem ordB_len {ps : List Pr} (h : ordB ps = true) : ps.length ≤ 65536 := by
  unfold ordB at h
  simp only [Bool.and_eq_true, decide_eq_true_eq] at h
  exact h.1
end Go.Proofs.YtniclaapiabmdaaGreatDoor
namespace Go.Proofs.YtniclaapiabmdaaGreatDoor
set_option maxRecDepth 100000
open Go Go.RowKit
set_option linter.unusedVariables false
variable {w w' : World} {B : Nat}

/-- pairs handed in -/
def RdP (w : World) (B : Nat) (v : Value) (ps : List Pr) : Prop :=
  ∃ A c, v = .slice A ps.length c ∧ ps.length ≤ c ∧ c ≤ maxLen ∧ (0 < ps.length → ∃ b o, A = some ⟨b, o, none⟩ ∧ b < B ∧ ∀ j (h : j < ps.length),
    w.cell? ⟨b, o + j * 2, none⟩ = some (.string ps[j].1) ∧ ∃ x, w.cell? ⟨b, o + j * 2 + 1, none⟩ = some x ∧ Rd w B x ps[j].2)
theorem RdP.below {v : Value} {ps : List Pr} (h : RdP w B v ps) (hb : Below B w w') : RdP w' B v ps := by
  obtain ⟨A, c, rfl, h1, h2, hp⟩ := h
  refine ⟨A, c, rfl, h1, h2, fun h0 => ?_⟩
  obtain ⟨b, o, rfl, hlt, hc⟩ := hp h0
  refine ⟨b, o, rfl, hlt, fun j hj => ?_⟩
  obtain ⟨q1, x, q2, q3⟩ := hc j hj
  exact ⟨(hb.cell (p := ⟨b, o + j * 2, none⟩) hlt).trans q1, x, (hb.cell (p := ⟨b, o + j * 2 + 1, none⟩) hlt).trans q2, q3.below hb⟩
theorem RdP.more {B' : Nat} {v : Value} {ps : List Pr} (h : RdP w B v ps) (hB : B ≤ B') : RdP w B' v ps := by
  obtain ⟨A, c, rfl, h1, h2, hp⟩ := h
  refine ⟨A, c, rfl, h1, h2, fun h0 => ?_⟩
  obtain ⟨b, o, rfl, hlt, hc⟩ := hp h0
  refine ⟨b, o, rfl, by omega, fun j hj => ?_⟩
  obtain ⟨q1, x, q2, q3⟩ := hc j hj
  exact ⟨q1, x, q2, q3.more hB⟩

theorem keyFits_any (s : ByteArray) (w : World) (hs : s.size ≤ maxLen) : Calls Tryz.prog 120 #[.string s] w fun e w' => e = .returned (.bool (keyB s)) ∧ w = w' := by
  unfold maxLen at hs
  by_cases h1 : 1 ≤ s.size
  · by_cases h2 : s.size ≤ 200
    · have e : keyB s = true := by simp [keyB, h1, h2]
      have i1 : (1 : Int) ≤ (s.size : Int) := by omega
      have i2 : (s.size : Int) ≤ 200 := by omega
      rw [e]
      clear e
      go_enter Tryz.func120, Tryz.ntmps120
      go_wp2
      go_ret
      exact ⟨rfl, rfl⟩
    · have e : keyB s = false := by simp [keyB, h2]
      have i1 : (1 : Int) ≤ (s.size : Int) := by omega
      have i2 : decide ((s.size : Int) ≤ 200) = false := by simp; omega
      rw [e]
      clear e
      go_enter Tryz.func120, Tryz.ntmps120
      go_wp2
      go_ret
      exact ⟨rfl, rfl⟩
  · have e : keyB s = false := by simp [keyB, h1]
    have i1 : decide ((1 : Int) ≤ (s.size : Int)) = false := by simp; omega
    rw [e]
    clear e
    go_enter Tryz.func120, Tryz.ntmps120
    go_wp2
    go_ret
    exact ⟨rfl, rfl⟩

set_option maxHeartbeats 2000000 in
theorem ordered_any (w : World) (v : Value) (ps : List Pr) (hr : RdP w w.heap.size v ps) (hnl : ∀ p ∈ ps, p.1.size ≤ maxLen) :
    Calls Tryz.prog 67 #[v] w fun e w' => e = .returned (.bool (ordB ps)) ∧ Below w.heap.size w w' := by
  obtain ⟨A, c, rfl, hc, hm, hp⟩ := hr
  unfold maxLen at hm
  obtain ⟨n, hn⟩ : ∃ n, n = ps.length := ⟨_, rfl⟩
  rw [← hn] at hc ⊢
  have HN := Lib.hid hn
  have HP := Lib.hid hp
  have HK := Lib.hid hnl
  clear hp hnl hn
  by_cases hbig : n ≤ 65536
  · have i0 : (n : Int) ≤ 65536 := by omega
    have hE : ordB ps = ordR none ps := by unfold ordB; rw [decide_eq_true (by rw [← HN.out]; exact hbig)]; rfl
    rw [hE]
    have HO : Hid (∀ k, k ≤ n → True) := Lib.hid fun _ _ => trivial
    clear hE HO
    go_enter Tryz.func67, Tryz.ntmps67
    go_wp2_with fail
    go_loopw [3, 4, 10] (fun _ _ i wr => ∃ k : Nat, k ≤ n ∧ i = .int .i64 (k : Int) ∧ Hid (ordR none ps = ordR (prevK ps k) (ps.drop k)) ∧ Below w.heap.size w wr)
      (fun _ _ i _ => n - (intOf i).toNat)
    case atStart => exact ⟨0, Nat.zero_le _, rfl, Lib.hid rfl, Below.refl _ _⟩
    case round =>
      obtain ⟨k, hk, rfl, HR, hb⟩ := hrel
      by_cases hlt : k < n
      · have hkl : k < ps.length := by have := HN.out; omega
        obtain ⟨b, o, rfl, hbl, hcell⟩ := HP.out (by omega)
        obtain ⟨q1, x, q2, q3⟩ := hcell k hkl
        have a1 := (hb.cell (p := ⟨b, o + k * 2, none⟩) hbl).trans q1
        have a2 := (hb.cell (p := ⟨b, o + k * 2 + 1, none⟩) hbl).trans q2
        have hst := ordR_step ps k hkl
        rw [← HR.out] at hst
        have hks := HK.out _ (List.getElem_mem hkl)
        have i1 : (0 : Int) ≤ (k : Int) := by omega
        have i2 : (k : Int) < (n : Int) := by omega
        obtain ⟨Ax, cx, rfl⟩ := q3.form
        have hxl : (ps[k].2).length ≤ 9223372036854775807 := q3.len
        have hbx := hb.alloc hb.size (.cells #[.string ps[k].1, .slice Ax ps[k].2.length cx] 48)
        have hprev : ∀ (q : Nat) (hq : q + 1 = k), (wr.alloc (.cells #[.string ps[k].1, .slice Ax ps[k].2.length cx] 48)).cell? ⟨b, o + q * 2, none⟩ = some (.string (ps[q]'(by omega)).1) := fun q hq =>
          (hbx.cell (p := ⟨b, o + q * 2, none⟩) hbl).trans (hcell q (by omega)).1
        have hpk : ∀ (q : Nat) (hq : q + 1 = k), prevK ps k = some (ps[q]'(by omega)).1 := fun q hq => by
          subst hq
          unfold prevK
          rw [if_neg (by omega), Nat.add_sub_cancel, List.getElem?_eq_getElem (by omega)]
          rfl
        have hp0 : k = 0 → prevK ps k = none := fun h0 => by unfold prevK; rw [if_pos h0]
        have hpb : pairB ps[k] = (keyB ps[k].1 && decide (ps[k].2.length ≤ 65535)) := rfl
        generalize ps[k].1 = s at *
        generalize ps[k].2.length = xl at *
        have HBX := Lib.hid hbx
        have HPV := Lib.hid (And.intro hprev (And.intro hpk hp0))
        clear hprev hpk hp0 hcell q1 q2 q3 hb
        go_wp2_with fail
        refine (keyFits_any s _ hks).mono ?_
        rintro e w1 ⟨rfl, rfl⟩
        cases hkb : keyB s with
        | false =>
          have hres : Hid (ordR none ps = false) := Lib.hid (by rw [hst, hpb, hkb]; rfl)
          clear hst hpb hkb
          go_wp2_with fail
          go_ret
          exact ⟨by rw [hres.out]; rfl, HBX.out⟩
        | true =>
          by_cases hxl2 : xl ≤ 65535
          · have i3 : (xl : Int) ≤ 65535 := by omega
            have hst2 : ordR none ps = ((match prevK ps k with | none => true | some a => ltS a s) && ordR (prevK ps (k + 1)) (ps.drop (k + 1))) := by rw [hst, hpb, hkb, decide_eq_true hxl2]; rfl
            clear hst hpb hkb
            by_cases h0 : k = 0
            · have hres : Hid (ordR none ps = ordR (prevK ps (k + 1)) (ps.drop (k + 1))) := Lib.hid (by rw [hst2, HPV.out.2.2 h0]; rfl)
              subst h0
              clear hst2
              go_wp2_with fail
              go_quiet (fail)
              go_wp2_with fail
              exact ⟨⟨0 + 1, by omega, rfl, hres, below_drewN' HBX.out _⟩, by simp [intOf]; omega⟩
            · have h0' : 0 < k := by omega
              obtain ⟨q, hq⟩ : ∃ q, q + 1 = k := ⟨k - 1, by omega⟩
              have hcq := HPV.out.1 q hq
              have hst3 := hst2
              rw [HPV.out.2.1 q hq] at hst3
              dsimp only at hst3
              have j1 : (0 : Int) < (k : Int) := by omega
              have j2 : IntKind.i64.wrap ((k : Int) - 1) = (q : Int) := by rw [IntKind.wrap_i64]; omega
              have j3 : (q : Int) < (n : Int) := by omega
              have j4 : (0 : Int) ≤ (q : Int) := by omega
              have hql : q < ps.length := by omega
              generalize (ps[q]'(by omega)).1 = s0 at *
              clear hq
              cases hlt0 : ltS s0 s with
              | true =>
                have hres : Hid (ordR none ps = ordR (prevK ps (k + 1)) (ps.drop (k + 1))) := Lib.hid (by rw [hst3, hlt0]; rfl)
                have hl : Op.bytesLess s0.toList s.toList = true := hlt0
                clear hst2 hst3 hlt0
                go_wp2_with fail
                go_quiet (fail)
                go_wp2_with fail
                exact ⟨⟨k + 1, by omega, by go_num, hres, below_drewN' HBX.out _⟩, by simp [intOf]; omega⟩
              | false =>
                have hres : Hid (ordR none ps = false) := Lib.hid (by rw [hst3, hlt0]; rfl)
                have hl : Op.bytesLess s0.toList s.toList = false := hlt0
                clear hst2 hst3 hlt0
                go_wp2_with fail
                go_quiet (fail)
                go_wp2_with fail
                go_ret
                exact ⟨by rw [hres.out]; rfl, below_drewN' HBX.out _⟩
          · have i3 : ¬ (xl : Int) ≤ 65535 := by omega
            have hres : Hid (ordR none ps = false) := Lib.hid (by rw [hst, hpb, decide_eq_false hxl2]; simp)
            clear hst hpb hkb
            go_wp2_with fail
            go_ret
            exact ⟨by rw [hres.out]; rfl, HBX.out⟩
      · obtain rfl : k = n := by omega
        have i2 : ¬ (k : Int) < (k : Int) := by omega
        have hres : Hid (ordR none ps = true) := Lib.hid (by rw [HR.out, HN.out]; exact ordR_end ps)
        go_wp2_with fail
        go_ret
        exact ⟨by rw [hres.out]; rfl, hb⟩
  · have i0 : ¬ (n : Int) ≤ 65536 := by omega
    have hE : Hid (ordB ps = false) := Lib.hid (by unfold ordB; rw [decide_eq_false (by rw [← HN.out]; exact hbig)]; rfl)
    go_enter Tryz.func67, Tryz.ntmps67
    go_wp2_with fail
    go_ret
    exact ⟨by rw [hE.out]; rfl, Below.refl _ _⟩

theorem number_any (n : Nat) (w : World) (hn : n ≤ 9223372036854775807) :
    Calls Tryz.prog 71 #[.int .i64 (n : Int)] w fun e w' => ∃ v, e = .returned v ∧ Own w' w.heap.size v (be n 8) ∧ Below w.heap.size w w' := by
  have k1 : IntKind.u64.wrap (n : Int) = (n : Int) := by rw [IntKind.wrap_u64]; omega
  go_enter Tryz.func71, Tryz.ntmps71
  go_wp2_with fail
  refine (N_any (.slice none 0 0) [] n w (Rd.nil _ _) (by omega) (by simp)).mono ?_
  rintro e w1 ⟨v1, rfl, ho, hb⟩
  go_wp2_with fail
  go_ret
  exact ⟨_, rfl, ho, hb⟩
theorem partsA1 (w : World) (va : Value) (a : List UInt8) (t : TypeId) (ha : Rd w w.heap.size va a) :
    Parts (w.alloc (.cells #[va] t)) (w.alloc (.cells #[va] t)).heap.size (.slice (some ⟨w.heap.size, 0, none⟩) 1 1) [a] := by
  have hbw : Below w.heap.size w (w.alloc (.cells #[va] t)) := (Below.refl _ _).alloc (Nat.le_refl _) _
  have hg := heap_alloc_new w (.cells #[va] t)
  refine ⟨_, 1, rfl, fun _ => ⟨w.heap.size, 0, rfl, by simp, fun j hj => ?_⟩⟩
  rw [show (0 + j) = j by omega, blk_cell hg]
  rcases j with _ | j
  · exact ⟨va, rfl, ha.up (Nat.le_refl _) hbw⟩
  · exact absurd hj (by simp)
theorem partsA2 (w : World) (va vb : Value) (a b : List UInt8) (t : TypeId) (ha : Rd w w.heap.size va a) (hb : Rd w w.heap.size vb b) :
    Parts (w.alloc (.cells #[va, vb] t)) (w.alloc (.cells #[va, vb] t)).heap.size (.slice (some ⟨w.heap.size, 0, none⟩) 2 2) [a, b] := by
  have hbw : Below w.heap.size w (w.alloc (.cells #[va, vb] t)) := (Below.refl _ _).alloc (Nat.le_refl _) _
  have hg := heap_alloc_new w (.cells #[va, vb] t)
  refine ⟨_, 2, rfl, fun _ => ⟨w.heap.size, 0, rfl, by simp, fun j hj => ?_⟩⟩
  rw [show (0 + j) = j by omega, blk_cell hg]
  rcases j with _ | _ | j
  · exact ⟨va, rfl, ha.up (Nat.le_refl _) hbw⟩
  · exact ⟨vb, rfl, hb.up (Nat.le_refl _) hbw⟩
  · exact absurd hj (by simp)
/-- a text's bytes, made -/
theorem conv_str (w : World) (s : ByteArray) (hs : s.size ≤ maxLen) : ∃ (c : Nat) (w' : World), (convert 9 27 (.string s)).run Tryz.prog w = .ok (.slice (some ⟨w.heap.size, 0, none⟩) s.size c) w' ∧ Rd w' w'.heap.size (.slice (some ⟨w.heap.size, 0, none⟩) s.size c) (strBytes s) ∧ Below w.heap.size w w' := by
  refine ⟨_, _, Lib.run_convert_string_bytes (P := Tryz.prog) w 9 27 5 s (u := .string) Tryz.isString Tryz.underlying27 Tryz.underlying5, ?_, ?_⟩
  · refine ⟨_, _, by rw [strBytes_length], by rw [strBytes_length]; exact grownCap_ge _ _ _ _, grownCap_le_maxLen _ _ _ _ hs, fun h0 => ⟨w.heap.size, 0, rfl, by rw [Lib.bytesWorld_size]; omega, fun j hj => ?_⟩⟩
    rw [strBytes_length] at hj
    rw [Nat.zero_add, Lib.bytesWorld_cell w _ s j hj]
    unfold bval strBytes
    have hl : j < s.data.toList.length := by simpa using hj
    rw [List.getD_eq_getElem?_getD, List.getElem?_eq_getElem hl]
    rfl
  · exact ⟨rfl, rfl, rfl, by rw [Lib.bytesWorld_size]; omega, fun k hk => Lib.bytesWorld_at_old w _ s k hk⟩
end Go.Proofs.YtniclaapiabmdaaGreatDoor
namespace Go.Proofs.YtniclaapiabmdaaGreatDoor
set_option maxRecDepth 100000
open Go Go.RowKit
set_option linter.unusedVariables false

set_option maxHeartbeats 1000000 in
theorem leafHash_any (s : ByteArray) (v : Value) (l : List UInt8) (w : World) (hs : s.size ≤ maxLen) (hv : Rd w w.heap.size v l) (fr : TypeId × Nat × Nat) (hk : w.heap[0]? = some (.cells kVals fr.1 fr.2)) :
    Calls Tryz.prog 121 #[.string s, v] w fun e w' => ∃ v', e = .returned v' ∧ Own w' w.heap.size v' (leafH s l) ∧ Below w.heap.size w w' := by
  have hn0 := blk_lt hk
  have HK := Lib.hid hk
  clear hk
  obtain ⟨c, w1, hrun, hr1, hb1⟩ := conv_str w s hs
  have hr2 := hv.up (Nat.le_refl _) hb1
  have hp := partsA2 w1 _ v (strBytes s) l 27 hr1 hr2
  have hbx := hb1.alloc hb1.size (.cells #[.slice (some ⟨w.heap.size, 0, none⟩) s.size c, v] 27)
  have hkx := (hbx.block _ hn0).trans HK.out
  obtain ⟨A, cc, rfl⟩ := hv.form
  clear hv hr1 hr2
  go_enter Tryz.func121, Tryz.ntmps121
  go_wp2_with fail
  refine (tagged_any wLeaf _ [strBytes s, l] _ hp (by unfold maxLen wLeaf; decide) (by simp) fr hkx).mono ?_
  rintro e w2 ⟨v2, rfl, ho2, hb2⟩
  have hq := below_chain hbx hbx.size hb2
  go_wp2_with fail
  go_ret
  exact ⟨_, rfl, ho2.more hbx.size, hq⟩

set_option maxHeartbeats 1000000 in
theorem nodeM_any (v1 v2 : Value) (a b : List UInt8) (w : World) (h1 : Rd w w.heap.size v1 a) (h2 : Rd w w.heap.size v2 b) (fr : TypeId × Nat × Nat) (hk : w.heap[0]? = some (.cells kVals fr.1 fr.2)) :
    Calls Tryz.prog 122 #[v1, v2] w fun e w' => ∃ v', e = .returned v' ∧ Own w' w.heap.size v' (nodeH a b) ∧ Below w.heap.size w w' := by
  have hn0 := blk_lt hk
  have HK := Lib.hid hk
  clear hk
  have hp := partsA2 w v1 v2 a b 27 h1 h2
  have hbx := (Below.refl w.heap.size w).alloc (Nat.le_refl _) (.cells #[v1, v2] 27)
  have hkx := (hbx.block _ hn0).trans HK.out
  obtain ⟨A, cc, rfl⟩ := h1.form
  obtain ⟨A2, cc2, rfl⟩ := h2.form
  clear h1 h2
  go_enter Tryz.func122, Tryz.ntmps122
  go_wp2_with fail
  refine (tagged_any wNode _ [a, b] _ hp (by unfold maxLen wNode; decide) (by simp) fr hkx).mono ?_
  rintro e w2 ⟨v2, rfl, ho2, hb2⟩
  have hq := below_chain hbx hbx.size hb2
  go_wp2_with fail
  go_ret
  exact ⟨_, rfl, ho2.more hbx.size, hq⟩

set_option maxHeartbeats 1000000 in
theorem emptyRoot_any (w : World) (fr : TypeId × Nat × Nat) (hk : w.heap[0]? = some (.cells kVals fr.1 fr.2)) :
    Calls Tryz.prog 68 #[] w fun e w' => ∃ v', e = .returned v' ∧ Own w' w.heap.size v' rootE ∧ Below w.heap.size w w' := by
  have hn0 := blk_lt hk
  have HK := Lib.hid hk
  clear hk
  go_enter Tryz.func68, Tryz.ntmps68
  go_wp2_with fail
  refine (number_any 0 w (by omega)).mono ?_
  rintro e w1 ⟨v1, rfl, ho1, hb1⟩
  have hp := partsA1 w1 v1 (be 0 8) 27 ho1.rd
  have hbx := hb1.alloc hb1.size (.cells #[v1] 27)
  have hkx := (hbx.block _ hn0).trans HK.out
  obtain ⟨A, cc, rfl⟩ := ho1.form
  clear ho1
  go_wp2_with fail
  refine (tagged_any wRoot _ [be 0 8] _ hp (by unfold maxLen wRoot; decide) (by simp) fr hkx).mono ?_
  rintro e w2 ⟨v2, rfl, ho2, hb2⟩
  have hq := below_chain hbx hbx.size hb2
  go_wp2_with fail
  go_ret
  exact ⟨_, rfl, ho2.more hbx.size, hq⟩
end Go.Proofs.YtniclaapiabmdaaGreatDoor
