/- Texts joined: LimbN1. -/
import Derived.Test.YtniclaapiabmdaaGreatDoorM01
import Derived.Deep.Onto
import Derived.Test.YtniclaapiabmdaaGreatDoorM06
import Derived.Laws.Bits64b
namespace Go.Proofs.YtniclaapiabmdaaGreatDoor
set_option maxRecDepth 100000
open Go Go.RowKit

def intV (d : Nat) : Value := .int .i64 (d : Int)
def dcells (p : List Nat) : List Value := p.map intV
theorem Tryz.infoInt : (Tryz.prog.info? 3).map (fun i => (i.zero, i.size, i.bytes)) = some (some (.int .i64 0), 1, 8) := by kernel_rfl

section
variable {w w' : World} {B B' b k : Nat} {t : TypeId} {v : Value} {D : List Nat}
/-- a row of numbers, of the call's own from B on -/
def OwnI (w : World) (B : Nat) (v : Value) (D : List Nat) : Prop := w.ownsRow B 3 1 v D.length (dcells D)
theorem OwnI.form (h : OwnI w B v D) : ∃ A c, v = .slice A D.length c := by
  rcases h.2 with ⟨rfl, h0⟩ | ⟨g, cap, cur, rfl, _⟩
  · exact ⟨none, 0, by rw [h0]⟩
  · exact ⟨_, _, rfl⟩
theorem OwnI.nil (w : World) (B : Nat) : OwnI w B (.slice none 0 0) [] := World.ownsRow_nil w B _ 1
theorem OwnI.more (h : OwnI w B v D) (hB : B' ≤ B) : OwnI w B' v D := World.ownsRow.mono h hB
theorem OwnI.up (h : OwnI w B v D) (hb : Below w.heap.size w w') : OwnI w' B v D := by
  refine ⟨h.1, ?_⟩
  rcases h.2 with h0 | ⟨g, cap, cur, hv, hB, hg, rest⟩
  · exact .inl h0
  · exact .inr ⟨g, cap, cur, hv, hB, (hb.block g (Array.getElem?_eq_some_iff.1 hg).1).trans hg, rest⟩
theorem OwnI.at_ {A : Option Addr} {n c : Nat} (h : OwnI w B (.slice A n c) D) (j : Nat) (hj : j < D.length) : ∃ g, A = some ⟨g, 0, none⟩ ∧ n = D.length ∧ g < w.heap.size ∧ w.cell? ⟨g, j, none⟩ = some (.int .i64 (D.getD j 0 : Int)) := by
  rcases h.2 with ⟨_, h0⟩ | ⟨g, cap, cur, hv, hb, hg, hn, hm, hs, ht⟩
  · omega
  · injection hv with h1 h2 h3
    subst h1; subst h2; subst h3
    refine ⟨g, rfl, rfl, (Array.getElem?_eq_some_iff.1 hg).1, ?_⟩
    have hx : (dcells D)[j]? = some (.int .i64 (D.getD j 0 : Int)) := by simp [dcells, intV, hj, List.getD_eq_getElem?_getD]
    rw [cell_of_row w g _ cur _ (0, 0) hg]
    rw [← ht, List.getElem?_take] at hx
    split at hx
    · simpa using hx
    · cases hx
/-- a number of it is written -/
theorem OwnI.put {A : Option Addr} {n c k : Nat} (h : OwnI w B (.slice A n c) D) (hk : k < D.length) :
    ∃ g, A = some ⟨g, 0, none⟩ ∧ B ≤ g ∧ g < w.heap.size ∧ w.cell? ⟨g, k, none⟩ = some (.int .i64 (D.getD k 0 : Int)) ∧ w.frozen? ⟨g, k, none⟩ = false ∧
      ∀ x : Nat, OwnI (w.setCell ⟨g, k, none⟩ (.int .i64 (x : Int))) B (.slice A n c) (D.set k x) := by
  obtain ⟨g, rfl, hn, hlt, hcell⟩ := h.at_ k hk
  have hlt2 := World.ownsRow.lt h g rfl
  subst hn
  refine ⟨g, rfl, hlt2.1, hlt, hcell, World.ownsRow.frozenAt (h : w.ownsRow B _ 1 _ _ _) k, fun x => ?_⟩
  have h2 := World.ownsRow.stored (h : w.ownsRow B _ 1 _ _ _) k (.int .i64 (x : Int))
  unfold OwnI
  rw [List.length_set]
  have e : dcells (D.set k x) = (dcells D).set k (.int .i64 (x : Int)) := by simp [dcells, List.map_set, intV]
  rw [e]
  exact h2.1
theorem OwnI.grown (h : OwnI w B v D) {row : Option Nat} (hg : w.grownBy w' row) (hne : v.ownBlock = none ∨ v.ownBlock ≠ row) : OwnI w' B v D := World.ownsRow.kept h hg hne
theorem OwnI.drew (h : OwnI w B v D) : OwnI w.drew B v D := h
theorem OwnI.drewN (h : OwnI w B v D) (q : Nat) : OwnI (w.drewN q) B v D := h
theorem OwnI.alloc (h : OwnI w B v D) (o : Obj) : OwnI (w.alloc o) B v D := World.ownsRow.alloc h o
theorem grown_setI (w : World) (g i : Nat) (u : Value) : w.grownBy (w.setCell ⟨g, i, none⟩ u) (some g) :=
  ⟨rfl, rfl, rfl, by simp, fun k _ hk => Below.heap_setCell w _ _ k (by rintro rfl; exact hk rfl)⟩
theorem OwnI.lt (h : OwnI w B v D) : ∀ k, v.ownBlock = some k → B ≤ k ∧ k < w.heap.size := World.ownsRow.lt h
theorem OwnI.below (h : OwnI w B v D) {w0 : World} (h0 : Below B w0 w) (hB : B ≤ w.heap.size) (hg : w.grownBy w' v.ownBlock) : Below B w0 w' := h0.grown hg hB fun k hk => (h.lt k hk).1

variable {P : Program}
theorem wp_append_int {o : Oper} {a : Act} {K : Act → World → Prop} {Q : Exit → Act → World → Prop} (sv sx : Operand) (t : TypeId)
    (ho : o.op = .call { callee := .builtin .append, args := #[sv, sx], argTypes := #[t, t] })
    (i : TypeInfo) (ht : P.underlying t = some (.slice 3)) (hi : P.info? 3 = some i)
    (hz : i.zero = some (.int .i64 0)) (hsize : i.size = 1) (hby : i.bytes = 8)
    (hs : a.eval sv = v) (hown : OwnI w B v D) {off c x : Nat} (hxe : a.eval sx = .slice (some ⟨b, off, none⟩) 1 c) (hcell : w.cell? ⟨b, off, none⟩ = some (.int .i64 (x : Int))) (hlen : D.length ≤ 1000) (hbase : B ≤ w.heap.size)
    (h : ∀ v' w', OwnI w' B v' (D ++ [x]) → w.grownBy w' v.ownBlock → K (a.put o.dst v') w') : o.wp P a w K Q := by
  obtain ⟨v', w', hrun, h2, h3, _, h5⟩ := run_append_own_at (P := P) w B t o.type 3 i (.int .i64 0) 1 8 ht hi hz hsize hby rfl (by omega) v D.length (dcells D) hown ⟨b, off, none⟩ 1 c [.int .i64 (x : Int)]
    rfl
    (fun j u hj => by
      rcases j with _ | j
      · simp only [List.getElem?_cons_zero, Option.some.injEq] at hj
        subst hj
        rw [← hcell]
        unfold Addr.add; split <;> simp_all
      · simp at hj)
    (fun u hu => by simp only [List.mem_cons, List.not_mem_nil, or_false] at hu; subst hu; rfl) (by simp only [maxLen]; omega) (by omega) hbase
  unfold Oper.wp execOp
  simp only [ho, resolve, invoke, builtin, Sem.run_bind, Sem.run_pure, Result.andThen_ok, List.map_toArray, List.map_cons, List.map_nil, hs, hxe, hrun]
  refine h v' w' ?_ h3
  unfold OwnI
  rw [List.length_append]
  have e : dcells (D ++ [x]) = dcells D ++ [.int .i64 (x : Int)] := by simp [dcells, intV]
  rw [e]
  exact h2
theorem wpList_append_int {ops : Array Oper} {rest : List Oper} {o : Oper} {a : Act} {Q : Exit → Act → World → Prop} (hgd : o.guard = none) (sv sx : Operand) (t : TypeId)
    (ho : o.op = .call { callee := .builtin .append, args := #[sv, sx], argTypes := #[t, t] })
    (i : TypeInfo) (ht : P.underlying t = some (.slice 3)) (hi : P.info? 3 = some i)
    (hz : i.zero = some (.int .i64 0)) (hsize : i.size = 1) (hby : i.bytes = 8)
    (hs : a.eval sv = v) (hown : OwnI w B v D) {off c x : Nat} (hxe : a.eval sx = .slice (some ⟨b, off, none⟩) 1 c) (hcell : w.cell? ⟨b, off, none⟩ = some (.int .i64 (x : Int))) (hlen : D.length ≤ 1000) (hbase : B ≤ w.heap.size)
    (h : ∀ v' w', OwnI w' B v' (D ++ [x]) → w.grownBy w' v.ownBlock → wpList P ops Q rest (a.put o.dst v') w') : wpList P ops Q (o :: rest) a w := by
  refine wpList_plain hgd fun K hK => ?_
  exact wp_append_int sv sx t ho i ht hi hz hsize hby hs hown hxe hcell hlen hbase fun v' w' h1 h2 => hK _ _ (h v' w' h1 h2)
end
end Go.Proofs.YtniclaapiabmdaaGreatDoor
namespace Go.Proofs.YtniclaapiabmdaaGreatDoor
set_option maxRecDepth 100000
open Go Go.RowKit

theorem at_eq (x : U4) (i : Nat) : x.at i = x.at' i := by
  unfold U4.at U4.at'
  rfl
theorem and255 (n : Nat) (h : n < 18446744073709551616) : bits .and .u64 (n : Int) 255 = ((n % 256 : Nat) : Int) := by
  have h1 : (BitVec.ofInt 64 (n : Int)).toNat = n := by
    rw [BitVec.ofInt_natCast, BitVec.toNat_ofNat]; exact Nat.mod_eq_of_lt (by omega)
  show IntKind.u64.wrap ((BitVec.ofInt 64 (n : Int) &&& BitVec.ofInt 64 255).toNat : Int) = _
  rw [BitVec.toNat_and, h1, show (BitVec.ofInt 64 255).toNat = 2 ^ 8 - 1 from rfl, Nat.and_two_pow_sub_one_eq_mod, IntKind.wrap_u64]
  omega
theorem byte_at (a k : Nat) (h : a < 18446744073709551616) : wrap64 (bits .and .u64 ((a : Int) / 2 ^ (8 * k)) 255) = ((a / 256 ^ k % 256 : Nat) : Int) := by
  have e : (a : Int) / 2 ^ (8 * k) = ((a / 256 ^ k : Nat) : Int) := by
    rw [show 256 ^ k = 2 ^ (8 * k) by rw [Nat.pow_mul]]
    push_cast
    rfl
  rw [e, and255 _ (Nat.lt_of_le_of_lt (Nat.div_le_self _ _) h)]
  generalize a / 256 ^ k = m
  have : m % 256 < 256 := Nat.mod_lt _ (by decide)
  unfold wrap64
  omega
theorem at_lt' {x : U4} (hx : x.ok) (k : Nat) : x.at k < 18446744073709551616 := by
  unfold U4.at
  split
  · exact hx.1
  · exact hx.2.1
  · exact hx.2.2.1
  · exact hx.2.2.2
theorem OwnI.zero (w : World) (B : Nat) (n : Nat) : OwnI w B (.slice none 0 0) (byL n 0) := OwnI.nil w B

set_option maxHeartbeats 2000000 in
theorem rlong_any (x : U4) (w : World) (hx : x.ok) : Calls Tryz.prog 48 #[x.val] w fun e w' => ∃ v', e = .returned v' ∧ OwnI w' w.heap.size v' (byL x.nat 32) ∧ Below w.heap.size w w' := by
  obtain ⟨i0, hi, hz, hsz, hby⟩ := info_parts Tryz.infoInt
  have HX := Lib.hid hx
  have HAB := Lib.hid (fun i k hi hk => at_byte hx i k hi hk)
  clear hx
  obtain ⟨X, hX⟩ : ∃ X, X = x.cells := ⟨_, rfl⟩
  unfold U4.val
  rw [← hX]
  have CX := Lib.hid (fun (k : Nat) (h : k < 4) => hX ▸ x.cell_at h)
  clear hX
  have hblk := LBlk.new w X
  have hbw : Below w.heap.size w (w.alloc (.cells X 25)) := (Below.refl _ _).alloc (Nat.le_refl _) _
  go_enter Tryz.func48, Tryz.ntmps48
  go_wp2_with fail
  generalize w.alloc (.cells X 25) = w0 at *
  obtain ⟨N, hN⟩ : ∃ N, N = x.nat := ⟨_, rfl⟩
  rw [← hN] at HAB
  have HN := Lib.hid hN
  clear hN
  go_loopw [3, 4] (fun ov i wr => ∃ k : Nat, k ≤ 4 ∧ i = .int .i64 (k : Int) ∧ OwnI wr w0.heap.size ov (byL N (8 * k)) ∧ Below w0.heap.size w0 wr)
    (fun _ i _ => 4 - (intOf i).toNat)
  case atStart => exact ⟨0, Nat.zero_le _, rfl, OwnI.zero _ _ N, Below.refl _ _⟩
  case round =>
    rename World => wo
    obtain ⟨i, hi4, rfl, ho, hb⟩ := hrel
    by_cases hlt : i < 4
    · have i1 : (i : Int) < 4 := by omega
      have i0' : (0 : Int) ≤ (i : Int) := by omega
      go_wp2_with fail
      go_loopw [3, 5] (fun ov j wr => ∃ k : Nat, k ≤ 8 ∧ j = .int .i64 (k : Int) ∧ OwnI wr w0.heap.size ov (byL N (8 * i + k)) ∧ Below w0.heap.size w0 wr)
        (fun _ j _ => 8 - (intOf j).toNat)
      case atStart => exact ⟨0, Nat.zero_le _, rfl, ho, hb⟩
      case round =>
        clear ho hb
        obtain ⟨k, hk8, rfl, ho, hb⟩ := hrel
        by_cases hltk : k < 8
        · have j1 : (k : Int) < 8 := by omega
          have j0 : (0 : Int) ≤ (k : Int) := by omega
          have hS : Hid (byL N (8 * i + (k + 1)) = byL N (8 * i + k) ++ [x.at i / 256 ^ k % 256]) := Lib.hid (by rw [at_eq, HAB.out i k hlt hltk]; rfl)
          have hc := ((hb.cell (p := ⟨w.heap.size, i, none⟩) hblk.lt).trans (blk_cell hblk i)).trans (CX.out i hlt)
          have hl1 : (byL N (8 * i + k)).length ≤ 1000 := by rw [byL_length]; omega
          generalize byL N (8 * i + k) = L at *
          have ha := at_lt' HX.out i
          generalize x.at i = a at *
          have HV := Lib.hid (byte_at a k ha)
          obtain ⟨Ao, co, rfl⟩ := ho.form
          have hbx : Below wr.heap.size wr (wr.alloc (.cells #[.int .i64 (wrap64 (bits .and .u64 ((a : Int) / 2 ^ (8 * k)) 255))] 3)) := (Below.refl _ _).alloc (Nat.le_refl _) _
          have hc1 : Hid ((wr.alloc (.cells #[.int .i64 (wrap64 (bits .and .u64 ((a : Int) / 2 ^ (8 * k)) 255))] 3)).cell? ⟨wr.heap.size, 0, none⟩ = some (.int .i64 ((a / 256 ^ k % 256 : Nat) : Int))) := Lib.hid (by rw [HV.out]; exact blk_cell (heap_alloc_new wr _) 0)
          have hy1 := below_chain hb hb.size hbx
          have ho1 := ho.up hbx
          clear hbx ho hb ha
          go_wp2_with (at_builtin; refine wpList_append_int rfl (.tmp 14) (.tmp 24) _ rfl i0 Tryz.underlying82 hi hz hsz hby rfl ho1 rfl hc1.out hl1 hy1.size ?_; intro v6 w6 ho6 hg6; have hy6 := ho1.below hy1 hy1.size hg6)
          go_roundw
          case rel => exact ⟨k + 1, by omega, by go_num, by rw [hS.out]; exact ho6, hy6⟩
          case measure => simp [intOf]; omega
        · have j1 : ¬ (k : Int) < 8 := by omega
          obtain rfl : k = 8 := by omega
          go_wp2_with fail
          go_roundw
          case rel => exact ⟨i + 1, by omega, by go_num, by rw [show 8 * (i + 1) = 8 * i + 8 by omega]; exact ho, hb⟩
          case measure => simp [intOf]; omega
    · have i1 : ¬ (i : Int) < 4 := by omega
      obtain rfl : i = 4 := by omega
      replace ho : OwnI wo w0.heap.size u3 (byL N 32) := ho
      obtain ⟨Ao, co, rfl⟩ := ho.form
      go_wp2_with fail
      go_ret
      rw [← HN.out]
      exact ⟨_, rfl, ho.more hbw.size, below_chain hbw hbw.size hb⟩
end Go.Proofs.YtniclaapiabmdaaGreatDoor
namespace Go.Proofs.YtniclaapiabmdaaGreatDoor
set_option maxRecDepth 100000
open Go Go.RowKit

theorem pow_r (r : Nat) (h : r < 8) : 1 ≤ 256 ^ r ∧ 256 ^ r * 256 ≤ 18446744073709551616 := by
  have : r = 0 ∨ r = 1 ∨ r = 2 ∨ r = 3 ∨ r = 4 ∨ r = 5 ∨ r = 6 ∨ r = 7 := by omega
  rcases this with rfl | rfl | rfl | rfl | rfl | rfl | rfl | rfl <;> decide
theorem cells4 {a b c d a' b' c' d' : Nat} (h1 : a = a') (h2 : b = b') (h3 : c = c') (h4 : d = d') : (#[.int .u64 (a : Int), .int .u64 (b : Int), .int .u64 (c : Int), .int .u64 (d : Int)] : Array Value) = #[.int .u64 (a' : Int), .int .u64 (b' : Int), .int .u64 (c' : Int), .int .u64 (d' : Int)] := by
  subst h1; subst h2; subst h3; subst h4; rfl
theorem short_step (V i d : Nat) (hi : i < 32) (hd : d < 256) (hV : V < 256 ^ i) :
    (ofN (V + 256 ^ i * d)).cells = (ofN V).cells.setIfInBounds (i / 8) (.int .u64 (((ofN V).at (i / 8) + d * 256 ^ (i % 8) : Nat) : Int)) ∧ (ofN V).at (i / 8) < 256 ^ (i % 8) := by
  obtain ⟨p0, p1, p2, p3⟩ := pow8
  have hr : i % 8 < 8 := Nat.mod_lt _ (by decide)
  obtain ⟨h1, h2⟩ := pow_r (i % 8) hr
  have he : 256 ^ i = 256 ^ (8 * (i / 8)) * 256 ^ (i % 8) := by rw [← Nat.pow_add, Nat.div_add_mod]
  have ht : d * 256 ^ (i % 8) ≤ 255 * 256 ^ (i % 8) := Nat.mul_le_mul_right _ (by omega)
  have hm : 256 ^ i * d = 256 ^ (8 * (i / 8)) * (d * 256 ^ (i % 8)) := by rw [he, Nat.mul_assoc, Nat.mul_comm (256 ^ (i % 8)) d]
  have hq : i / 8 = 0 ∨ i / 8 = 1 ∨ i / 8 = 2 ∨ i / 8 = 3 := by omega
  rw [hm]
  rw [he] at hV
  generalize d * 256 ^ (i % 8) = t at *
  generalize 256 ^ (i % 8) = P at *
  generalize i / 8 = q at *
  clear he hm hr hi hd
  rcases hq with rfl | rfl | rfl | rfl
  · rw [p0] at hV ⊢
    refine ⟨?_, ?_⟩
    · simp only [ofN, U4.cells, U4.at, List.setIfInBounds_toArray, List.set_cons_zero]
      exact cells4 (by omega) (by omega) (by omega) (by omega)
    · simp only [ofN, U4.at]; omega
  · rw [p1] at hV ⊢
    refine ⟨?_, ?_⟩
    · simp only [ofN, U4.cells, U4.at, List.setIfInBounds_toArray, List.set_cons_zero, List.set_cons_succ]
      exact cells4 (by omega) (by omega) (by omega) (by omega)
    · simp only [ofN, U4.at]; omega
  · rw [p2] at hV ⊢
    refine ⟨?_, ?_⟩
    · simp only [ofN, U4.cells, U4.at, List.setIfInBounds_toArray, List.set_cons_zero, List.set_cons_succ]
      exact cells4 (by omega) (by omega) (by omega) (by omega)
    · simp only [ofN, U4.at]; omega
  · rw [p3] at hV ⊢
    refine ⟨?_, ?_⟩
    · simp only [ofN, U4.cells, U4.at, List.setIfInBounds_toArray, List.set_cons_zero, List.set_cons_succ]
      exact cells4 (by omega) (by omega) (by omega) (by omega)
    · simp only [ofN, U4.at]; omega
theorem or_put (a d r : Nat) (hr : r < 8) (hd : d < 256) (ha : a < 256 ^ r) : bits .or .u64 (a : Int) (IntKind.u64.wrap ((d : Int) * 2 ^ min (8 * r) 64)) = ((a + d * 256 ^ r : Nat) : Int) := by
  obtain ⟨h1, h2⟩ := pow_r r hr
  have ht : d * 256 ^ r ≤ 255 * 256 ^ r := Nat.mul_le_mul_right _ (by omega)
  have e : (d : Int) * 2 ^ min (8 * r) 64 = ((d * 256 ^ r : Nat) : Int) := by
    rw [Nat.min_eq_left (by omega), show 256 ^ r = 2 ^ (8 * r) by rw [Nat.pow_mul]]
    push_cast
    rfl
  have hp : 256 ^ r = 2 ^ (8 * r) := by rw [Nat.pow_mul]
  have hor := Nat.two_pow_add_eq_or_of_lt (i := 8 * r) (b := a) (by rw [← hp]; exact ha) d
  rw [e, IntKind.wrap_u64]
  rw [show ((d * 256 ^ r : Nat) : Int) % 18446744073709551616 = ((d * 256 ^ r : Nat) : Int) by omega, bits_or_u64_nat _ _ (by omega) (by omega)]
  congr 1
  rw [hp, Nat.mul_comm d, Nat.or_comm, ← hor]
  omega
theorem two (w : World) (X Y : Array Value) : LBlk ((w.alloc (.cells X 25)).alloc (.cells Y 25)) w.heap.size X ∧
    LBlk ((w.alloc (.cells X 25)).alloc (.cells Y 25)) (w.heap.size + 1) Y ∧
    Below w.heap.size w ((w.alloc (.cells X 25)).alloc (.cells Y 25)) := by
  refine ⟨(LBlk.new w X).alloc _, ?_, ((Below.refl _ _).alloc (Nat.le_refl _) _).alloc (by simp) _⟩
  have := LBlk.new (w.alloc (.cells X 25)) Y
  simpa using this

set_option maxHeartbeats 2000000 in
theorem rshort_any (A : Option Addr) (n c B : Nat) (D : List Nat) (w : World) (hD : OwnI w B (.slice A n c) D) (hl : D.length = 32) (hlt : ∀ d ∈ D, d < 256) :
    Calls Tryz.prog 49 #[.slice A n c] w fun e w' => e = .returned (ofN (valL D)).val ∧ Below w.heap.size w w' := by
  obtain ⟨g, rfl, rfl, hgl, _⟩ := hD.at_ 0 (by omega)
  have HL := Lib.hid hl
  have HLT := Lib.hid hlt
  have hcell : ∀ j, j < 32 → w.cell? ⟨g, j, none⟩ = some (.int .i64 (D.getD j 0 : Int)) := fun j hj => by
    obtain ⟨g', e, _, _, h⟩ := hD.at_ j (by omega)
    injection e with e
    injection e with e _ _
    subst e
    exact h
  have HC := Lib.hid hcell
  rw [hl]
  clear hl hlt hcell hD
  go_enter Tryz.func49, Tryz.ntmps49
  go_wp2_with fail
  go_loopw [4] (fun i wr => ∃ k : Nat, k ≤ 32 ∧ i = .int .i64 (k : Int) ∧ LBlk wr w.heap.size U4.zero.cells ∧ LBlk wr (w.heap.size + 1) (ofN (valL (D.take k))).cells ∧ Below w.heap.size w wr)
    (fun i _ => 32 - (intOf i).toNat)
  case atStart =>
    obtain ⟨h1, h2, h3⟩ := two w U4.zero.cells U4.zero.cells
    exact ⟨0, Nat.zero_le _, rfl, h1, by rw [show (ofN (valL (D.take 0))).cells = U4.zero.cells from by rw [List.take_zero]; rfl]; exact h2, h3⟩
  case round =>
    obtain ⟨k, hk, rfl, hb0, hb1, hb⟩ := hrel
    by_cases hlt : k < 32
    · have i1 : (k : Int) < 32 := by omega
      have i0 : (0 : Int) ≤ (k : Int) := by omega
      have hkl : k < D.length := by have := HL.out; omega
      have hc := (hb.cell (p := ⟨g, k, none⟩) hgl).trans (HC.out k hlt)
      have hdv : D.getD k 0 < 256 := by
        rw [List.getD_eq_getElem?_getD, List.getElem?_eq_getElem hkl]
        exact HLT.out _ (List.getElem_mem _)
      have hVlt := valL_lt (D.take k) (fun d hd => HLT.out d (List.mem_of_mem_take hd))
      rw [List.length_take, HL.out, Nat.min_eq_left (by omega)] at hVlt
      obtain ⟨s1, s2⟩ := short_step (valL (D.take k)) k (D.getD k 0) hlt hdv hVlt
      have hvt : Hid (valL (D.take (k + 1)) = valL (D.take k) + 256 ^ k * D.getD k 0) := Lib.hid (by
        rw [valL_take D k hkl, List.getD_eq_getElem?_getD, List.getElem?_eq_getElem hkl]; rfl)
      have e1 := (blk_cell hb1 (k / 8)).trans (U4.cell_at _ (by omega))
      have e2 := blk_free hb1 (k / 8)
      have S1 := Lib.hid s1
      generalize D.getD k 0 = d at *
      generalize valL (D.take k) = V at *
      generalize (ofN V).at (k / 8) = a at *
      have k8 : (k : Int) / 8 < 4 := by omega
      have k80 : (0 : Int) ≤ (k : Int) / 8 := by omega
      have S2 := Lib.hid s2
      have HV := Lib.hid hVlt
      clear s1 s2 hVlt
      have w1 : IntKind.i64.wrap ((k : Int) / 8) = (k : Int) / 8 := IntWalk.i64_in _ (by omega)
      have w2 : (k : Int).tmod 8 = (k : Int) % 8 := Int.tmod_eq_emod_of_nonneg (by omega)
      have w3 : IntKind.i64.wrap ((k : Int) % 8) = (k : Int) % 8 := IntWalk.i64_in _ (by omega)
      have w4 : IntKind.i64.wrap (8 * ((k : Int) % 8)) = 8 * ((k : Int) % 8) := IntWalk.i64_in _ (by omega)
      have w5 : (k : Int).tdiv 8 = (k : Int) / 8 := Int.tdiv_eq_ediv_of_nonneg (by omega)
      have w6 : ((k : Int) / 8).toNat = k / 8 := by omega
      go_wp2_with fail
      go_still_tail 16, (by kernel_rfl)
      change wpList _ _ _ _ _ wr.drew
      go_wp2_with fail
      rw [or_put a d (k % 8) (Nat.mod_lt _ (by decide)) hdv S2.out]
      refine ⟨⟨k + 1, by omega, by go_num, (LBlk.far hb0 (by omega) _ _).drew, ?_, below_drewN' (hb.setCell (by simp) _) 1⟩, by simp [intOf]; omega⟩
      rw [hvt.out, S1.out]
      exact (hb1.set_ _ _).drew
    · have i1 : ¬ (k : Int) < 32 := by omega
      obtain rfl : k = 32 := by omega
      rw [List.take_of_length_le (by have := HL.out; omega)] at hb1
      obtain ⟨c0, c1, c2, c3⟩ := hb1.all
      obtain ⟨d0, d1, d2, d3⟩ := hb0.all
      have f0 := hb0.free 0
      have f1 := hb0.free 1
      have f2 := hb0.free 2
      have f3 := hb0.free 3
      have BB := Lib.hid hb
      obtain ⟨s, hs⟩ : ∃ s, s = ofN (valL D) := ⟨_, rfl⟩
      rw [← hs] at c0 c1 c2 c3
      have HS := Lib.hid hs
      clear hb hb0 hb1 hs
      go_wp2
      refine bodyPost_ret (v := .agg s.cells) ?_ rfl ⟨?_, ?_⟩
      · simp [results, Tryz.results49, go_sem, U4.cells, d0, d1, d2, d3]
      · rw [← HS.out]; rfl
      · have hg : w.heap.size ≤ w.heap.size := by omega
        exact (((BB.out.setCell hg _).setCell hg _).setCell hg _).setCell hg _
end Go.Proofs.YtniclaapiabmdaaGreatDoor
namespace Go.Proofs.YtniclaapiabmdaaGreatDoor
set_option maxRecDepth 100000
open Go Go.RowKit

theorem be_get (n : Nat) : ∀ k j (h : j < (be n k).length), (be n k)[j] = UInt8.ofNat (n / 2 ^ (8 * (k - 1 - j)))
  | 0, j, h => by simp [be] at h
  | k + 1, 0, h => by simp [be]
  | k + 1, j + 1, h => by
    have ih := be_get n k j (by simpa [be] using h)
    simp only [be, List.getElem_cons_succ, ih]
    rw [show k + 1 - 1 - (j + 1) = k - 1 - j by omega]
theorem be_byte {x : U4} (hx : x.ok) (k : Nat) (hk : k < 32) : (be x.nat 32)[k]'(by rw [be_length]; omega) = UInt8.ofNat (x.at ((31 - k) / 8) / 256 ^ ((31 - k) % 8)) := by
  have h := at_byte hx ((31 - k) / 8) ((31 - k) % 8) (by omega) (Nat.mod_lt _ (by decide))
  rw [Nat.div_add_mod] at h
  rw [be_get, show 32 - 1 - k = 31 - k by omega, show 2 ^ (8 * (31 - k)) = 256 ^ (31 - k) by rw [Nat.pow_mul], at_eq]
  apply UInt8.toNat_inj.1
  simp only [UInt8.toNat_ofNat']
  exact h.symm
/-- the first k bytes are there, the others are 0 -/
def partB (n k : Nat) : List UInt8 := (be n 32).take k ++ List.replicate (32 - k) 0
theorem partB_set (n k : Nat) (hk : k < 32) : (partB n k).set k ((be n 32)[k]'(by rw [be_length]; omega)) = partB n (k + 1) := by
  have hl := be_length n 32
  unfold partB
  obtain ⟨m, hm⟩ : ∃ m, 32 - k = m + 1 := ⟨31 - k, by omega⟩
  have h0 : k - ((be n 32).take k).length = 0 := by rw [List.length_take]; omega
  rw [hm, show 32 - (k + 1) = m by omega, List.set_append_right _ _ (by rw [List.length_take]; omega), h0, List.replicate_succ, List.set_cons_zero, List.take_succ_eq_append_getElem (by omega), List.append_assoc]
  rfl
theorem partB_length (n k : Nat) (hk : k ≤ 32) : (partB n k).length = 32 := by
  unfold partB
  rw [List.length_append, List.length_take, be_length, List.length_replicate]; omega

set_option maxHeartbeats 2000000 in
theorem bytes_any (x : U4) (w : World) (hx : x.ok) : Calls Tryz.prog 142 #[x.val] w fun e w' => ∃ v', e = .returned v' ∧ Own w' w.heap.size v' (be x.nat 32) ∧ Below w.heap.size w w' := by
  have HX := Lib.hid hx
  have HBB := Lib.hid (fun k hk => be_byte hx k hk)
  clear hx
  obtain ⟨X, hX⟩ : ∃ X, X = x.cells := ⟨_, rfl⟩
  unfold U4.val
  rw [← hX]
  have CX := Lib.hid (fun (k : Nat) (h : k < 4) => hX ▸ x.cell_at h)
  clear hX
  have hblk := LBlk.new w X
  have hbw : Below w.heap.size w (w.alloc (.cells X 25)) := (Below.refl _ _).alloc (Nat.le_refl _) _
  obtain ⟨i0, hi, hz, hsz, hby⟩ := info_parts Tryz.infoByte
  have hmk : ∀ W : World, (Instr.makeSlice 27 (.int .i64 32) (.int .i64 32)).run Tryz.prog W = .ok (.slice (some ⟨W.heap.size, 0, none⟩) 32 32) (W.alloc (.cells (bcells (List.replicate 32 0)).toArray 5)) := by
    intro W
    have h := run_make W 27 5 i0 (.int .u8 0) Tryz.underlying27 hi hz .i64 .i64 32 32 (by omega) (by omega) (by rw [hby]; omega) (by omega)
    rw [hsz] at h
    have e : madeCells (Value.int .u8 0).cells (Int.toNat 32 * 1) = (bcells (List.replicate 32 0)).toArray := by
      rw [show Int.toNat 32 * 1 = 32 from rfl]
      apply Array.ext'
      rw [show (Value.int IntKind.u8 0).cells = #[Value.int .u8 0] from rfl, toList_madeCells_one]
      rfl
    rw [e] at h
    exact h
  obtain ⟨N, hN⟩ : ∃ N, N = x.nat := ⟨_, rfl⟩
  have HN := Lib.hid hN
  clear hN
  go_enter Tryz.func142, Tryz.ntmps142
  go_wp2_with fail
  have hO := Own.made (B := (w.alloc (.cells X 25)).heap.size) (w.alloc (.cells X 25)) (List.replicate 32 0) (Nat.le_refl _) (by simp [maxLen])
  have hbw2 : Below (w.alloc (.cells X 25)).heap.size (w.alloc (.cells X 25)) ((w.alloc (.cells X 25)).alloc (.cells (bcells (List.replicate 32 0)).toArray 5)) := (Below.refl _ _).alloc (Nat.le_refl _) _
  have hze : (w.alloc (.cells X 25)).heap.size = w.heap.size + 1 := by simp
  rw [hze] at hO hbw2
  have hp0 : partB N 0 = List.replicate 32 0 := rfl
  generalize w.alloc (.cells X 25) = w0 at *
  have HZ := Lib.hid hze
  clear hze hmk
  go_loopw [9] (fun i wr => ∃ k : Nat, k ≤ 32 ∧ i = .int .i64 (k : Int) ∧ Own wr (w.heap.size + 1) (.slice (some ⟨w.heap.size + 1, 0, none⟩) 32 32) (partB N k) ∧ Below (w.heap.size + 1) w0 wr)
    (fun i _ => 32 - (intOf i).toNat)
  case atStart => exact ⟨0, Nat.zero_le _, rfl, by rw [hp0]; exact hO, hbw2⟩
  case round =>
    clear hO hbw2
    obtain ⟨k, hk, rfl, ho, hb⟩ := hrel
    have hpl := partB_length N k hk
    by_cases hlt : k < 32
    · have i1 : (k : Int) < 32 := by omega
      have j0 : (0 : Int) ≤ (k : Int) := by omega
      obtain ⟨gA, hgA, _, hgs, hcell, hfz, hput⟩ := ho.at_ hlt (by omega)
      injection hgA with hgA
      injection hgA with hgA _ _
      subst hgA
      have hps := partB_set N k hlt
      have hby2 := HBB.out k hlt
      rw [← HN.out] at hby2
      rw [hby2] at hps
      obtain ⟨low, hlow⟩ : ∃ low, low = 31 - k := ⟨_, rfl⟩
      rw [← hlow] at hps hby2
      have hlt4 : low / 8 < 4 := by omega
      have hc := ((hb.cell (p := ⟨w.heap.size, low / 8, none⟩) (by simp)).trans (blk_cell hblk (low / 8))).trans (CX.out (low / 8) hlt4)
      have ha := at_lt' HX.out (low / 8)
      generalize x.at (low / 8) = a at *
      have HS := Lib.hid (by have h := hput (UInt8.ofNat (a / 256 ^ (low % 8))); rw [hps] at h; exact h)
      have e31 : (31 : Int) - (k : Int) = (low : Int) := by omega
      have l0 : (0 : Int) ≤ (low : Int) := by omega
      have l32 : (low : Int) < 32 := by omega
      have HPL := Lib.hid hpl
      generalize (partB N k)[k]'_ = old at hcell
      clear hput hps hby2 hlow ho hpl
      go_wp2_with fail
      have hv : Value.int .u8 ((a : Int) / 2 ^ (8 * (low % 8)) % 256) = bval (UInt8.ofNat (a / 256 ^ (low % 8))) := by
        have h : (2 : Nat) ^ (8 * (low % 8)) = 256 ^ (low % 8) := by rw [Nat.pow_mul]
        unfold bval
        rw [UInt8.toNat_ofNat', ← h]
        congr 1
      rw [hv]
      refine ⟨⟨k + 1, by omega, rfl, HS.out, hb.setCell (Nat.le_refl _) _⟩, ?_⟩
      simp only [intOf]
      omega
    · have hk32 : k = 32 := by omega
      subst hk32
      have hfull : partB N 32 = be N 32 := by
        unfold partB
        rw [List.take_of_length_le (by rw [be_length]; omega)]
        simp
      rw [hfull, HN.out] at ho
      clear hfull hpl hp0
      go_wp2_with fail
      try go_ret
      refine ⟨_, rfl, Own.more ho (by omega), hbw.trans (hb.mono (by omega))⟩
end Go.Proofs.YtniclaapiabmdaaGreatDoor
namespace Go.Proofs.YtniclaapiabmdaaGreatDoor
set_option maxRecDepth 100000
open Go Go.RowKit

/-- the first k numbers are there, the others are 0 -/
def partI (L : List Nat) (k : Nat) : List Nat := L.take k ++ List.replicate (32 - k) 0
theorem OwnI.made (w : World) {B : Nat} (D : List Nat) (hb : B ≤ w.heap.size) (hm : D.length ≤ maxLen) : OwnI (w.alloc (.cells (dcells D).toArray 3)) B (.slice (some ⟨w.heap.size, 0, none⟩) D.length D.length) D :=
  ⟨by simp [dcells], .inr ⟨w.heap.size, D.length, _, rfl, hb, heap_alloc_new w _, Nat.le_refl _, hm, by simp [dcells], by simp [dcells, List.take_of_length_le]⟩⟩
end Go.Proofs.YtniclaapiabmdaaGreatDoor
namespace Go.Proofs.YtniclaapiabmdaaGreatDoor
set_option maxRecDepth 100000
open Go Go.RowKit

theorem pow_v (r : Nat) (h : r < 8) : ∃ v, 1 ≤ v ∧ 18446744073709551616 = 256 ^ r * 256 * v := by
  have : r = 0 ∨ r = 1 ∨ r = 2 ∨ r = 3 ∨ r = 4 ∨ r = 5 ∨ r = 6 ∨ r = 7 := by omega
  rcases this with rfl | rfl | rfl | rfl | rfl | rfl | rfl | rfl
  · exact ⟨2 ^ 56, by decide, by decide⟩
  · exact ⟨2 ^ 48, by decide, by decide⟩
  · exact ⟨2 ^ 40, by decide, by decide⟩
  · exact ⟨2 ^ 32, by decide, by decide⟩
  · exact ⟨2 ^ 24, by decide, by decide⟩
  · exact ⟨2 ^ 16, by decide, by decide⟩
  · exact ⟨2 ^ 8, by decide, by decide⟩
  · exact ⟨1, by decide, by decide⟩
theorem high_step (M k d : Nat) (hk : k < 32) (hd : d < 256) :
    (ofN (M * 256 ^ (k + 1) + 256 ^ k * d)).cells = (ofN (M * 256 ^ (k + 1))).cells.setIfInBounds (k / 8) (.int .u64 (((ofN (M * 256 ^ (k + 1))).at (k / 8) + d * 256 ^ (k % 8) : Nat) : Int)) ∧
      (ofN (M * 256 ^ (k + 1))).at (k / 8) + d * 256 ^ (k % 8) < 18446744073709551616 ∧ ∃ e, (ofN (M * 256 ^ (k + 1))).at (k / 8) = 256 ^ (k % 8) * 256 * e := by
  obtain ⟨p0, p1, p2, p3⟩ := pow8
  have hr : k % 8 < 8 := Nat.mod_lt _ (by decide)
  obtain ⟨v, hv1, hv⟩ := pow_v (k % 8) hr
  have he : 256 ^ k = 256 ^ (8 * (k / 8)) * 256 ^ (k % 8) := by rw [← Nat.pow_add, Nat.div_add_mod]
  have ht : d * 256 ^ (k % 8) ≤ 255 * 256 ^ (k % 8) := Nat.mul_le_mul_right _ (by omega)
  have hp1 : 0 < 256 ^ (k % 8) := Nat.pow_pos (by decide)
  have hm : 256 ^ k * d = 256 ^ (8 * (k / 8)) * (d * 256 ^ (k % 8)) := by rw [he, Nat.mul_assoc, Nat.mul_comm (256 ^ (k % 8)) d]
  have hV : M * 256 ^ (k + 1) = 256 ^ (8 * (k / 8)) * (256 ^ (k % 8) * 256 * M) := by
    rw [Nat.pow_succ, he, Nat.mul_comm M, Nat.mul_assoc, Nat.mul_assoc, Nat.mul_assoc]
  have hq : k / 8 = 0 ∨ k / 8 = 1 ∨ k / 8 = 2 ∨ k / 8 = 3 := by omega
  rw [hm, hV]
  generalize d * 256 ^ (k % 8) = t at *
  generalize 256 ^ (k % 8) = P at *
  generalize k / 8 = q at *
  clear he hm hV hr hk hd
  obtain ⟨m, hm⟩ : ∃ m, m = P * 256 * M := ⟨_, rfl⟩
  rw [← hm]
  have hmm : m % 18446744073709551616 = P * 256 * (M % v) := by rw [hm, hv, Nat.mul_mod_mul_left]
  have hlt : P * 256 * (M % v) + P * 256 ≤ 18446744073709551616 := by
    rw [hv, ← Nat.mul_succ]
    exact Nat.mul_le_mul_left _ (Nat.mod_lt _ hv1)
  have hsum : m % 18446744073709551616 + t < 18446744073709551616 := by omega
  have hex : ∃ e, m % 18446744073709551616 = P * 256 * e := ⟨_, hmm⟩
  clear hmm hlt hm hv hv1 ht hp1
  rcases hq with rfl | rfl | rfl | rfl
  · rw [p0]
    have e0 : (ofN (1 * m)).at 0 = m % 18446744073709551616 := by simp only [ofN, U4.at]; omega
    refine ⟨?_, by rw [e0]; exact hsum, by rw [e0]; exact hex⟩
    rw [e0]
    simp only [ofN, U4.cells, List.setIfInBounds_toArray, List.set_cons_zero]
    exact cells4 (by omega) (by omega) (by omega) (by omega)
  · rw [p1]
    have e0 : (ofN (18446744073709551616 * m)).at 1 = m % 18446744073709551616 := by simp only [ofN, U4.at]; omega
    refine ⟨?_, by rw [e0]; exact hsum, by rw [e0]; exact hex⟩
    rw [e0]
    simp only [ofN, U4.cells, List.setIfInBounds_toArray, List.set_cons_zero, List.set_cons_succ]
    exact cells4 (by omega) (by omega) (by omega) (by omega)
  · rw [p2]
    have e0 : (ofN (340282366920938463463374607431768211456 * m)).at 2 = m % 18446744073709551616 := by simp only [ofN, U4.at]; omega
    refine ⟨?_, by rw [e0]; exact hsum, by rw [e0]; exact hex⟩
    rw [e0]
    simp only [ofN, U4.cells, List.setIfInBounds_toArray, List.set_cons_zero, List.set_cons_succ]
    exact cells4 (by omega) (by omega) (by omega) (by omega)
  · rw [p3]
    have e0 : (ofN (6277101735386680763835789423207666416102355444464034512896 * m)).at 3 = m % 18446744073709551616 := by simp only [ofN, U4.at]; omega
    refine ⟨?_, by rw [e0]; exact hsum, by rw [e0]; exact hex⟩
    rw [e0]
    simp only [ofN, U4.cells, List.setIfInBounds_toArray, List.set_cons_zero, List.set_cons_succ]
    exact cells4 (by omega) (by omega) (by omega) (by omega)
theorem or_high (a d r : Nat) (hr : r < 8) (hd : d < 256) (hs : a + d * 256 ^ r < 18446744073709551616) (ha : ∃ e, a = 256 ^ r * 256 * e) : bits .or .u64 (a : Int) (IntKind.u64.wrap ((d : Int) * 2 ^ min (8 * r) 64)) = ((a + d * 256 ^ r : Nat) : Int) := by
  obtain ⟨e', hae⟩ := ha
  have ht : d * 256 ^ r ≤ 255 * 256 ^ r := Nat.mul_le_mul_right _ (by omega)
  have hp1 : 0 < 256 ^ r := Nat.pow_pos (by decide)
  have e : (d : Int) * 2 ^ min (8 * r) 64 = ((d * 256 ^ r : Nat) : Int) := by
    rw [Nat.min_eq_left (by omega), show 256 ^ r = 2 ^ (8 * r) by rw [Nat.pow_mul]]
    push_cast
    rfl
  have hp : 256 ^ r * 256 = 2 ^ (8 * (r + 1)) := by rw [Nat.pow_mul]; rfl
  have hlt : d * 256 ^ r < 2 ^ (8 * (r + 1)) := by rw [← hp]; omega
  have hor := Nat.two_pow_add_eq_or_of_lt (i := 8 * (r + 1)) hlt e'
  rw [e, IntKind.wrap_u64]
  rw [show ((d * 256 ^ r : Nat) : Int) % 18446744073709551616 = ((d * 256 ^ r : Nat) : Int) by omega, bits_or_u64_nat _ _ (by omega) (by omega)]
  congr 1
  rw [hae, hp, ← hor]
theorem or_high' (a d r : Nat) (hr : r < 8) (hd : d < 256) (hs : a + d * 256 ^ r < 18446744073709551616) (ha : ∃ e, a = 256 ^ r * 256 * e) : bits .or .u64 (a : Int) (IntKind.u64.wrap ((d : Int) * 2 ^ (8 * r))) = ((a + d * 256 ^ r : Nat) : Int) := by
  have h := or_high a d r hr hd hs ha
  rw [Nat.min_eq_left (by omega)] at h
  exact h
theorem valB_snoc (l : List UInt8) (d : UInt8) : valB (l ++ [d]) = d.toNat + 256 * valB l := by
  simp [valB, valL]
/-- the number that the first k of 32 bytes make -/
def highB (l : List UInt8) (k : Nat) : Nat := valB (l.take k) * 256 ^ (32 - k)
theorem highB_step (l : List UInt8) (hl : l.length = 32) (k : Nat) (hk : k < 32) : highB l k = valB (l.take k) * 256 ^ (31 - k + 1) ∧ highB l (k + 1) = valB (l.take k) * 256 ^ (31 - k + 1) + 256 ^ (31 - k) * (l.getD k 0).toNat := by
  unfold highB
  refine ⟨by rw [show 32 - k = 31 - k + 1 by omega], ?_⟩
  rw [List.take_succ_eq_append_getElem (by omega), valB_snoc, show 32 - (k + 1) = 31 - k by omega, List.getD_eq_getElem?_getD, List.getElem?_eq_getElem (by omega), Nat.pow_succ, Nat.add_mul, Nat.add_comm]
  show 256 * valB (l.take k) * 256 ^ (31 - k) + l[k].toNat * 256 ^ (31 - k) = valB (l.take k) * (256 ^ (31 - k) * 256) + 256 ^ (31 - k) * l[k].toNat
  rw [Nat.mul_comm l[k].toNat, Nat.mul_comm 256, Nat.mul_assoc, Nat.mul_comm 256]

set_option maxHeartbeats 2000000 in
theorem from_any (v : Value) (l : List UInt8) (w : World) (hr : Rd w w.heap.size v l) :
    Calls Tryz.prog 99 #[v] w fun e w' => e = .returned (.tuple #[(fromU l).1.val, .int .i64 (fromU l).2]) ∧ Below w.heap.size w w' := by
  have hlm := hr.len
  unfold maxLen at hlm
  obtain ⟨A, c, rfl⟩ := hr.form
  have hbx := LBlk.new w U4.zero.cells
  have hbw : Below w.heap.size w (w.alloc (.cells U4.zero.cells 25)) := (Below.refl _ _).alloc (Nat.le_refl _) _
  by_cases hl : l.length = 32
  · have hU : fromU l = (ofN (valB l), 0) := if_pos hl
    obtain ⟨hn, b, o, rfl, hbB, hcell⟩ := hr.cell (by omega)
    rw [hU]
    have HC : Hid (∀ k, k < 32 → w.cell? ⟨b, o + k, none⟩ = some (.int .u8 ((l.getD k 0).toNat : Int))) := Lib.hid (fun k hk => by
      rw [hcell k (by omega), List.getD_eq_getElem?_getD, List.getElem?_eq_getElem (by omega)]
      rfl)
    have HST := Lib.hid (highB_step l hl)
    have HF : Hid (highB l 32 = valB l) := Lib.hid (by
      unfold highB
      rw [List.take_of_length_le (by omega), Nat.sub_self, Nat.pow_zero, Nat.mul_one])
    have H0 : Hid (highB l 0 = 0) := Lib.hid (by
      unfold highB
      rw [List.take_zero, show valB [] = 0 from rfl, Nat.zero_mul])
    clear hcell hU hr
    rw [hl]
    clear hl hn hlm
    have h3 := two w U4.zero.cells U4.zero.cells
    clear hbx hbw
    go_enter Tryz.func99, Tryz.ntmps99
    go_wp2_with fail
    generalize hw0 : (w.alloc (.cells #[.int .u64 0, .int .u64 0, .int .u64 0, .int .u64 0] 25)).alloc (.cells #[.int .u64 0, .int .u64 0, .int .u64 0, .int .u64 0] 25) = w0
    replace h3 : LBlk w0 w.heap.size U4.zero.cells ∧ LBlk w0 (w.heap.size + 1) U4.zero.cells ∧ Below w.heap.size w w0 := by rw [← hw0]; exact h3
    clear hw0
    obtain ⟨h0, h1, h2⟩ := h3
    go_loopw [14] (fun i wr => ∃ k : Nat, k ≤ 32 ∧ i = .int .i64 (k : Int) ∧ LBlk wr w.heap.size U4.zero.cells ∧ LBlk wr (w.heap.size + 1) (ofN (highB l k)).cells ∧ Below w.heap.size w wr)
      (fun i _ => 32 - (intOf i).toNat)
    case atStart => exact ⟨0, Nat.zero_le _, rfl, h0, by rw [H0.out]; exact h1, h2⟩
    case round =>
      clear h0 h1 h2
      obtain ⟨j, hj, rfl, hb0, hb1, hb⟩ := hrel
      by_cases hlt : j < 32
      · have i1 : (j : Int) < 32 := by omega
        have i0 : (0 : Int) ≤ (j : Int) := by omega
        have hc := (hb.cell (p := ⟨b, o + j, none⟩) hbB).trans (HC.out j hlt)
        have hdv : (l.getD j 0).toNat < 256 := (l.getD j 0).toNat_lt
        obtain ⟨t1, t2⟩ := HST.out j hlt
        obtain ⟨k, hk⟩ : ∃ k, k = 31 - j := ⟨_, rfl⟩
        rw [← hk] at t1 t2
        rw [t1] at hb1
        have T2 := Lib.hid t2
        generalize valB (l.take j) = M at *
        obtain ⟨s1, s2, s3⟩ := high_step M k (l.getD j 0).toNat (by omega) hdv
        have e1 := (blk_cell hb1 (k / 8)).trans (U4.cell_at _ (by omega))
        have e2 := blk_free hb1 (k / 8)
        rw [← t2] at s1
        clear t1 t2
        generalize (l.getD j 0).toNat = d at *
        generalize M * 256 ^ (k + 1) = V at *
        generalize (ofN V).at (k / 8) = a at *
        have S1 := Lib.hid s1
        have S2 := Lib.hid s2
        have S3 := Lib.hid s3
        have e31 : (31 : Int) - (j : Int) = (k : Int) := by omega
        have l0 : (0 : Int) ≤ (k : Int) := by omega
        have l32 : (k : Int) < 32 := by omega
        have k8 : (k : Int) / 8 < 4 := by omega
        have k80 : (0 : Int) ≤ (k : Int) / 8 := by omega
        have w1 : IntKind.i64.wrap ((k : Int) / 8) = (k : Int) / 8 := IntWalk.i64_in _ (by omega)
        have w2 : (k : Int).tmod 8 = (k : Int) % 8 := Int.tmod_eq_emod_of_nonneg (by omega)
        have w3 : IntKind.i64.wrap ((k : Int) % 8) = (k : Int) % 8 := IntWalk.i64_in _ (by omega)
        have w4 : IntKind.i64.wrap (8 * ((k : Int) % 8)) = 8 * ((k : Int) % 8) := IntWalk.i64_in _ (by omega)
        have w5 : (k : Int).tdiv 8 = (k : Int) / 8 := Int.tdiv_eq_ediv_of_nonneg (by omega)
        have w6 : ((k : Int) / 8).toNat = k / 8 := by omega
        clear s1 s2 s3 hk T2
        go_wp2_with fail
        go_still_tail 12, (by kernel_rfl)
        change wpList _ _ _ _ _ wr.drew
        go_wp2_with fail
        rw [or_high' a d (k % 8) (Nat.mod_lt _ (by decide)) hdv S2.out S3.out]
        refine ⟨⟨j + 1, by omega, by go_num, (LBlk.far hb0 (by omega) _ _).drew, ?_, below_drewN' (hb.setCell (by simp) _) 1⟩, by simp [intOf]; omega⟩
        rw [S1.out]
        exact (hb1.set_ _ _).drew
      · have i1 : ¬ (j : Int) < 32 := by omega
        obtain rfl : j = 32 := by omega
        rw [HF.out] at hb1
        obtain ⟨c0, c1, c2, c3⟩ := hb1.all
        obtain ⟨d0, d1, d2, d3⟩ := hb0.all
        have f0 := hb0.free 0
        have f1 := hb0.free 1
        have f2 := hb0.free 2
        have f3 := hb0.free 3
        have BB := Lib.hid hb
        obtain ⟨s, hs⟩ : ∃ s, s = ofN (valB l) := ⟨_, rfl⟩
        rw [← hs] at c0 c1 c2 c3
        have HS := Lib.hid hs
        clear hb hb0 hb1 hs
        go_wp2
        refine bodyPost_ret (v := .tuple #[.agg s.cells, .int .i64 0]) ?_ rfl ⟨by first | rfl | (rw [← HS.out]; rfl), ?_⟩
        · simp [results, Tryz.results99, go_sem, U4.cells, d0, d1, d2, d3]
        · have hg : w.heap.size ≤ w.heap.size := by omega
          exact (((BB.out.setCell hg _).setCell hg _).setCell hg _).setCell hg _
  · have hU : fromU l = (U4.zero, 21) := if_neg hl
    rw [hU]
    have hl32 : ¬ (l.length : Int) = 32 := by omega
    obtain ⟨d0, d1, d2, d3⟩ := hbx.all
    clear hU hr hl
    replace hbw : Below w.heap.size w (w.alloc (.cells #[.int .u64 0, .int .u64 0, .int .u64 0, .int .u64 0] 25)) := hbw
    replace d0 : (w.alloc (.cells #[.int .u64 0, .int .u64 0, .int .u64 0, .int .u64 0] 25)).cell? ⟨w.heap.size, 0, none⟩ = some (.int .u64 0) := d0
    replace d1 : (w.alloc (.cells #[.int .u64 0, .int .u64 0, .int .u64 0, .int .u64 0] 25)).cell? ⟨w.heap.size, 1, none⟩ = some (.int .u64 0) := d1
    replace d2 : (w.alloc (.cells #[.int .u64 0, .int .u64 0, .int .u64 0, .int .u64 0] 25)).cell? ⟨w.heap.size, 2, none⟩ = some (.int .u64 0) := d2
    replace d3 : (w.alloc (.cells #[.int .u64 0, .int .u64 0, .int .u64 0, .int .u64 0] 25)).cell? ⟨w.heap.size, 3, none⟩ = some (.int .u64 0) := d3
    clear hbx
    go_enter Tryz.func99, Tryz.ntmps99
    go_wp2
    refine bodyPost_ret (v := .tuple #[U4.zero.val, .int .i64 21]) ?_ rfl ⟨rfl, hbw⟩
    simp [results, Tryz.results99, go_sem, U4.val, U4.cells, U4.zero, d0, d1, d2, d3]
end Go.Proofs.YtniclaapiabmdaaGreatDoor
