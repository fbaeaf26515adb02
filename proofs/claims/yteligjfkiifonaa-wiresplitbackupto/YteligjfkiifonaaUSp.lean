/- wire.Split: what goes through the bytes. -/
import Derived.Test.YteligjfkiifonaaURi
import Derived.Test.YteligjfkiifonaaURj
import Derived.Test.YteligjfkiifonaaUGb
import Derived.OrdersHeld
namespace Go.Proofs.Yteligjfkiifonaa
open Go.RowKit
variable {w w' w2 : World} {g ev rv lv n0 : Nat} {ro so lo : Option Addr} {rn rc sn sc ln lc : Nat} {gave : Int} {over : Bool} {Z Z' : List Int}

/-- the most that a frame may have -/
abbrev mx : Int := 9223372036854775807
/-- the frames that stand one behind the other, up to the first that is none; the error by which that one gives up -/
def spl : Nat → List Int → List (List Int) × Int
  | 0, _ => ([], 0)
  | f + 1, Z => if Z.length = 0 then ([], 0) else if pcE Z mx ≠ 0 then ([], pcE Z mx) else ((Z.drop (nmK Z)).take (nmV Z) :: (spl f (Z.drop (nmK Z + nmV Z))).1, (spl f (Z.drop (nmK Z + nmV Z))).2)
theorem nmK_pos {Z : List Int} (h : pcE Z mx = 0) : 0 < nmK Z := (nm_ok (pcE_ok h).1).2.2.2
theorem spl_fuel : ∀ (f f' : Nat) (Z : List Int), Z.length < f → Z.length < f' → spl f Z = spl f' Z
  | 0, _, _, h, _ => absurd h (Nat.not_lt_zero _)
  | _, 0, _, _, h => absurd h (Nat.not_lt_zero _)
  | f + 1, f' + 1, Z, h, h' => by
    unfold spl
    split
    · rfl
    · split
      · rfl
      · rename_i hz hp
        have hk := nmK_pos (by simpa using hp)
        rw [spl_fuel f f' (Z.drop (nmK Z + nmV Z)) (by rw [List.length_drop]; omega) (by rw [List.length_drop]; omega)]
def splA (Z : List Int) : List (List Int) × Int := spl (Z.length + 1) Z
theorem splA_nil {Z : List Int} (h : Z.length = 0) : splA Z = ([], 0) := by unfold splA spl; rw [if_pos h]
theorem splA_bad {Z : List Int} (h : Z.length ≠ 0) (hp : pcE Z mx ≠ 0) : splA Z = ([], pcE Z mx) := by unfold splA spl; rw [if_neg h, if_pos hp]
theorem splA_ok {Z : List Int} (h : Z.length ≠ 0) (hp : pcE Z mx = 0) : splA Z = ((Z.drop (nmK Z)).take (nmV Z) :: (splA (Z.drop (nmK Z + nmV Z))).1, (splA (Z.drop (nmK Z + nmV Z))).2) := by
  have hk := nmK_pos hp
  unfold splA
  rw [spl, if_neg h, if_neg (by simpa using hp), spl_fuel Z.length ((Z.drop (nmK Z + nmV Z)).length + 1) (Z.drop (nmK Z + nmV Z)) (by rw [List.length_drop]; omega) (by omega)]
/-- how much is left -/
def leftOf (w : World) (g : Nat) : Nat := match w.cell? ⟨g, 0, none⟩ with | some (.slice _ n _) => n | _ => 0
theorem left_of (R : Rdr w g ro rn rc gave over) : leftOf w g = rn := by unfold leftOf; rw [R.c0]
/-- what was there stays, but the reader and the list's variable -/
structure Kl (n0 : Nat) (w w' : World) (g lv : Nat) : Prop where
  os : w'.os = w.os
  tape : w'.tape = w.tape
  output : w'.output = w.output
  size : w.heap.size ≤ w'.heap.size
  block : ∀ k, k < n0 → k ≠ g → k ≠ lv → w'.heap[k]? = w.heap[k]?
theorem Src.keep {m c : Nat} (S : Src w so m c Z) (hk : ∀ k, blk so = some k → w'.heap[k]? = w.heap[k]?) : Src w' so m c Z :=
  ⟨S.1, S.2.1, fun ad ha t ht => by
    rw [World.cell?_of_block (hk _ (by rw [ha]; exact congrArg some (block_of_add ad t).symm))]
    exact S.2.2.1 ad ha t ht, S.2.2.2⟩
theorem RL.keep (R : RL w g ro rn rc Z) (h1 : w'.heap[g]? = w.heap[g]?) (hk : ∀ k, blk ro = some k → w'.heap[k]? = w.heap[k]?) : RL w' g ro rn rc Z := ⟨h1.trans R.r, R.s.keep hk, R.cap, R.big, R.ne⟩
/-- all but what the split says -/
structure SI (n0 : Nat) (w0 w : World) (g lv : Nat) (bz : Option Nat) (ro : Option Addr) (rn rc : Nat) (Z : List Int) (lo : Option Addr) (ln lc : Nat) (D : List (List Int)) : Prop where
  rl : RL w g ro rn rc Z
  var : Var w lv (.slice lo ln lc) 22
  gb : GB n0 w lo ln lc D
  kl : Kl n0 w0 w g lv
  src : blk ro = bz
  pos : g < n0 ∧ lv < n0 ∧ lv ≠ g ∧ n0 ≤ w.heap.size ∧ n0 ≤ w0.heap.size ∧ ∀ k, bz = some k → k < n0 ∧ k ≠ lv ∧ k ≠ g
/-- at the loop's head -/
def SL (n0 : Nat) (w0 w : World) (g lv : Nat) (bz : Option Nat) (Z0 : List Int) : Prop := ∃ ro rn rc Z lo ln lc D, SI n0 w0 w g lv bz ro rn rc Z lo ln lc D ∧ splA Z0 = (D ++ (splA Z).1, (splA Z).2) ∧ ln + rn ≤ Z0.length
/-- a frame was read -/
structure SJ (n0 : Nat) (w0 w : World) (g lv : Nat) (bz : Option Nat) (ro : Option Addr) (rn rc : Nat) (Z : List Int) (lo : Option Addr) (ln lc : Nat) (D : List (List Int)) (po : Option Addr) (pn pc : Nat) (Y : List Int) : Prop where
  si : SI n0 w0 w g lv bz ro rn rc Z lo ln lc D
  b : BR w po pn pc Y
  new : ∀ k, blk po = some k → n0 ≤ k ∧ k < w.heap.size ∧ blk lo ≠ some k
variable {w0 : World} {bz : Option Nat} {D : List (List Int)} {Z0 : List Int}
theorem Kl.kg (h : Kl n0 w0 w g lv) (hs : n0 ≤ w.heap.size) (k : Kg w w2 g) : Kl n0 w0 w2 g lv := ⟨k.os.trans h.os, k.tape.trans h.tape, k.output.trans h.output, Nat.le_trans h.size k.size, fun i hi h1 h2 => (k.block i (by omega) h1).trans (h.block i hi h1 h2)⟩
theorem SI.drew (h : SI n0 w0 w g lv bz ro rn rc Z lo ln lc D) : SI n0 w0 w.drew g lv bz ro rn rc Z lo ln lc D :=
  ⟨h.rl.kg_below (below_drew1 w), h.var, h.gb.below (below_drew1 w), ⟨h.kl.os, h.kl.tape, h.kl.output, h.kl.size, h.kl.block⟩, h.src, h.pos⟩
theorem SI.frame {so : Option Addr} {sn sc : Nat} {Z2 Y : List Int} {po : Option Addr} {pn pc : Nat} (h : SI n0 w0 w g lv bz ro rn rc Z lo ln lc D) (B : BR w2 po pn pc Y) (hpo : ∀ k, blk po = some k → w.heap.size ≤ k) (R2 : RL w2 g so sn sc Z2) (hb : blk so = blk ro) (K : Kg w w2 g) :
    SJ n0 w0 w2 g lv bz so sn sc Z2 lo ln lc D po pn pc Y := by
  obtain ⟨p1, p2, p3, p4, p5, p6⟩ := h.pos
  refine ⟨⟨R2, (K.block lv (by omega) p3).trans h.var, h.gb.keep2 p1 K.size (fun k hk hn => K.block k hk hn), h.kl.kg p4 K, hb.trans h.src, p1, p2, p3, Nat.le_trans p4 K.size, p5, p6⟩, B, fun k e => ⟨by have := hpo k e; omega, B.lt k e, fun x => ?_⟩⟩
  have := h.gb.lt k x
  have := hpo k e
  omega
theorem SJ.app {po : Option Addr} {pn pc : Nat} {Y : List Int} (h : SJ n0 w0 w g lv bz ro rn rc Z lo ln lc D po pn pc Y) {V : List Value} (hV : RW w 23 lo ln lc V ∧ ∀ i, i < ln → ∃ bo n c, V[i]? = some (.slice bo n c) ∧ BS w bo n c (D.getD i []) ∧ ∀ k, blk bo = some k → n0 ≤ k ∧ k < w.heap.size ∧ blk lo ≠ some k) {lo2 : Option Addr} {lc2 : Nat} (R : RW w2 23 lo2 (ln + 1) lc2 (V ++ [.slice po pn pc])) (A : Ap w w2 lo lo2) :
    Var w2 lv (.slice lo ln lc) 22 ∧ SI n0 w0 (w2.setCell ⟨lv, 0, none⟩ (.slice lo2 (ln + 1) lc2)) g lv bz ro rn rc Z lo2 (ln + 1) lc2 (D ++ [Y]) := by
  obtain ⟨p1, p2, p3, p4, p5, p6⟩ := h.si.pos
  have hlo : ∀ k, k < n0 → some k ≠ blk lo := fun k hk e => by have := h.si.gb.ge k e.symm; omega
  have hk : ∀ k, k < n0 → w2.heap[k]? = w.heap[k]? := fun k hk => A.grown.block k (by omega) (hlo k hk)
  have V2 : Var w2 lv (.slice lo ln lc) 22 := (hk lv p2).trans h.si.var
  have G2 := h.si.gb.add h.b.bs h.new p4 hV R A
  have hs := A.grown.size
  refine ⟨V2, ⟨?_, set_heap w2 lv _ _ _ 0 _ V2, G2.keep2 p2 (by rw [set_size]; exact Nat.le_refl _) (fun k _ hn => set_other w2 lv 0 k _ hn), ⟨(setCell_os _ _ _).trans (A.grown.os.trans h.si.kl.os), (setCell_tape _ _ _).trans (A.grown.tape.trans h.si.kl.tape), (setCell_output _ _ _).trans (A.grown.output.trans h.si.kl.output), by rw [set_size]; exact Nat.le_trans h.si.kl.size hs, fun k hk0 h1 h2 => (set_other w2 lv 0 k _ h2).trans ((hk k hk0).trans (h.si.kl.block k hk0 h1 h2))⟩, h.si.src, p1, p2, p3, by rw [set_size]; omega, p5, p6⟩⟩
  exact h.si.rl.keep ((set_other w2 lv 0 g _ (Ne.symm p3)).trans (hk g p1)) (fun k e => by
    rw [h.si.src] at e
    exact (set_other w2 lv 0 k _ (p6 k e).2.1).trans (hk k (p6 k e).1))
/-- what it leaves -/
def SpP (n0 : Nat) (w0 : World) (g lv : Nat) (Z0 : List Int) (r : Ending) (w' : World) : Prop :=
  Kl n0 w0 w' g lv ∧ ((r = .returned (.tuple #[]) ∧ (splA Z0).2 = 0 ∧ (∃ so sc, Rdr w' g so 0 sc 0 false) ∧ ∃ lo ln lc, Var w' lv (.slice lo ln lc) 22 ∧ GB n0 w' lo ln lc (splA Z0).1) ∨ (r = .panicked (ups g) ∧ (splA Z0).2 ≠ 0 ∧ Rdr w' g none 0 0 (splA Z0).2 false))
set_option maxRecDepth 100000 in
set_option maxHeartbeats 0 in
theorem split1_any (h : SI n0 w0 w0 g lv bz ro rn rc Z0 none 0 0 []) (hz : Z0.length < 4000000000000) : Calls Try.prog 22 #[ptr g, ptr lv] w0 fun r w' => SpP n0 w0 g lv Z0 r w' := by
  have HS : Hid (SL n0 w0 w0 g lv bz Z0) := ⟨ro, rn, rc, Z0, none, 0, 0, [], h, rfl, by have := h.rl.len; omega⟩
  have HZ := hide hz
  clear h hz
  go_enter Try.func22, Try.ntmps22
  go_wp2_with fail
  go_loopw [] (fun wr => Hid (SL n0 w0 wr g lv bz Z0)) (fun wr => leftOf wr g)
  case atStart => exact HS
  case round =>
    clear HS
    obtain ⟨ro, rn, rc, Z', lo, ln, lc, D, hSI, hE, hB⟩ := hrel.out
    have HI := hide hSI
    have HQ := hide hE
    have HB := hide hB
    have HL0 : Hid (leftOf wr g = rn) := left_of hSI.rl.r
    have HLen : Hid (Z'.length = rn) := hSI.rl.len
    have HLf := hide (left_any hSI.rl.r)
    clear hrel hSI hE hB
    by_cases hr : 0 < rn
    · by_cases hp : pcE Z' mx = 0
      · have HPC : Hid (pcE Z' mx = 0 ∧ ln + 1 ≤ 5000000000000 ∧ 0 < rn) := ⟨hp, by have := HB.out; have := HZ.out; omega, hr⟩
        have x0 := HI.out.drew.var.c
        have HC := hide (frame_ok HI.out.drew.rl hp)
        clear hp
        go_wp2_with fail
        refine HLf.out.mono ?_
        rintro e wx ⟨rfl, rfl⟩
        go_wp2_with fail
        clear hr
        refine wp_region_held_drew (S := fun _ => True) (by kernel_rfl) (trivial) (fun hHeld => ?_)
        refine wpAnyH_take (i := 1) (oi := { dst := some 7, op := Op.move (Operand.tmp 0), type := 40, pos := "frames.go:23", after := #[], guard := none }) (v := ?_) rfl (by kernel_rfl) (by kernel_rfl) (by kernel_rfl) (fun _ _ _ h => h) (Or.inl ⟨by rfl, ?_⟩) (by assumption) ?_
        rotate_left
        · (intro w hSw; (try dsimp only at hSw); go_simp); first | done | with_reducible rfl
        simp only [Act.put, List.setIfInBounds_toArray, List.set_cons_zero, List.set_cons_succ]
        refine wpAnyH_ready (rs := [0, 2]) (by kernel_rfl) (by simp) ?_
        refine AllReadyH.cons rfl (fun K hK => ?_) (AllReadyH.cons rfl (fun K hK => ?_) AllReadyH.nil)
        · go_simp
          refine hK.out _ _ trivial (fun hHeld => ?_)
          clear hK K
          refine wpAnyH_ready (rs := [2]) (by kernel_rfl) (by simp) ?_
          refine AllReadyH.cons rfl (fun K hK => ?_) ?_
          rotate_left
          · exact AllReadyH.nil
          go_simp
          go_wp2_with fail
          refine HC.out.mono ?_
          rintro r w2 ⟨po, pc, rfl, B2, hpo, so, sc, R2, hb2, K2⟩
          have HI2 := hide (HI.out.drew.frame B2 hpo R2 hb2 K2)
          have y0 := HI2.out.si.var.c
          have y1 := (show Var (w2.alloc (.cells #[.slice po (nmV Z') pc] 23)) lv (.slice lo ln lc) 22 from (Below.heap_alloc w2 _ lv HI2.out.si.var.lt).trans HI2.out.si.var).c
          clear B2 hpo R2 hb2 K2 HC
          refine hK.out _ _ trivial (fun hHeld => ?_)
          clear hK K
          refine wpAnyH_ready (rs := [3]) (by kernel_rfl) (by simp) ?_
          refine AllReadyH.cons rfl (fun K hK => ?_) ?_
          rotate_left
          · exact AllReadyH.nil
          go_simp
          refine hK.out _ _ trivial (fun hHeld => ?_)
          clear hK K
          refine wpAnyH_ready (rs := [4]) (by kernel_rfl) (by simp) ?_
          refine AllReadyH.cons rfl (fun K hK => ?_) ?_
          rotate_left
          · exact AllReadyH.nil
          obtain ⟨V, hV⟩ := HI2.out.si.gb.row
          obtain ⟨bo, c2, w4, hrun, R4, A4⟩ := hV.1.runs (x := .slice po (nmV Z') pc) rfl HPC.out.2.1 22
          have HI4 := hide (HI2.out.app hV R4 A4)
          have y4 := HI4.out.1.c
          have z4 := HI4.out.1.z
          refine step_appL rfl (.tmp 6) (.tmp 9) rfl rfl rfl hrun ?_
          clear hrun R4 A4 hV
          simp only [Act.put, List.setIfInBounds_toArray]
          refine hK.out _ _ trivial (fun hHeld => ?_)
          clear hK K
          refine wpAnyH_ready (rs := [5]) (by kernel_rfl) (by simp) ?_
          refine AllReadyH.cons rfl (fun K hK => ?_) ?_
          rotate_left
          · exact AllReadyH.nil
          go_simp
          refine hK.out _ _ trivial (fun hHeld => ?_)
          clear hK K
          refine wpAnyH_done (by kernel_rfl) ?_ _
          clear hHeld
          have HI5 := hide HI4.out.2
          clear HI HI2 HI4
          go_wp2_with fail
          go_roundw
          case rel => exact ⟨_, _, _, _, _, _, _, _, HI5.out, by rw [HQ.out, splA_ok (by have := HLen.out; have := HPC.out.2.2; omega) HPC.out.1, List.append_assoc]; rfl, by have := HB.out; have := nmK_pos HPC.out.1; have := HPC.out.2.2; omega⟩
          case measure => rw [left_of HI5.out.rl.r, HL0.out]; have := nmK_pos HPC.out.1; have := HPC.out.2.2; omega
        · go_simp
          go_wp2_with fail
          refine HC.out.mono ?_
          rintro r w2 ⟨po, pc, rfl, B2, hpo, so, sc, R2, hb2, K2⟩
          have HI2 := hide (HI.out.drew.frame B2 hpo R2 hb2 K2)
          have y0 := HI2.out.si.var.c
          have y1 := (show Var (w2.alloc (.cells #[.slice po (nmV Z') pc] 23)) lv (.slice lo ln lc) 22 from (Below.heap_alloc w2 _ lv HI2.out.si.var.lt).trans HI2.out.si.var).c
          clear B2 hpo R2 hb2 K2 HC
          refine hK.out _ _ trivial (fun hHeld => ?_)
          clear hK K
          refine wpAnyH_ready (rs := [0, 3]) (by kernel_rfl) (by simp) ?_
          refine AllReadyH.cons rfl (fun K hK => ?_) (AllReadyH.cons rfl (fun K hK => ?_) AllReadyH.nil)
          · go_simp
            refine hK.out _ _ trivial (fun hHeld => ?_)
            clear hK K
            refine wpAnyH_ready (rs := [3]) (by kernel_rfl) (by simp) ?_
            refine AllReadyH.cons rfl (fun K hK => ?_) ?_
            rotate_left
            · exact AllReadyH.nil
            go_simp
            refine hK.out _ _ trivial (fun hHeld => ?_)
            clear hK K
            refine wpAnyH_ready (rs := [4]) (by kernel_rfl) (by simp) ?_
            refine AllReadyH.cons rfl (fun K hK => ?_) ?_
            rotate_left
            · exact AllReadyH.nil
            obtain ⟨V, hV⟩ := HI2.out.si.gb.row
            obtain ⟨bo, c2, w4, hrun, R4, A4⟩ := hV.1.runs (x := .slice po (nmV Z') pc) rfl HPC.out.2.1 22
            have HI4 := hide (HI2.out.app hV R4 A4)
            have y4 := HI4.out.1.c
            have z4 := HI4.out.1.z
            refine step_appL rfl (.tmp 6) (.tmp 9) rfl rfl rfl hrun ?_
            clear hrun R4 A4 hV
            simp only [Act.put, List.setIfInBounds_toArray]
            refine hK.out _ _ trivial (fun hHeld => ?_)
            clear hK K
            refine wpAnyH_ready (rs := [5]) (by kernel_rfl) (by simp) ?_
            refine AllReadyH.cons rfl (fun K hK => ?_) ?_
            rotate_left
            · exact AllReadyH.nil
            go_simp
            refine hK.out _ _ trivial (fun hHeld => ?_)
            clear hK K
            refine wpAnyH_done (by kernel_rfl) ?_ _
            clear hHeld
            have HI5 := hide HI4.out.2
            clear HI HI2 HI4
            go_wp2_with fail
            go_roundw
            case rel => exact ⟨_, _, _, _, _, _, _, _, HI5.out, by rw [HQ.out, splA_ok (by have := HLen.out; have := HPC.out.2.2; omega) HPC.out.1, List.append_assoc]; rfl, by have := HB.out; have := nmK_pos HPC.out.1; have := HPC.out.2.2; omega⟩
            case measure => rw [left_of HI5.out.rl.r, HL0.out]; have := nmK_pos HPC.out.1; have := HPC.out.2.2; omega
          · go_simp
            refine hK.out _ _ trivial (fun hHeld => ?_)
            clear hK K
            refine wpAnyH_ready (rs := [0]) (by kernel_rfl) (by simp) ?_
            refine AllReadyH.cons rfl (fun K hK => ?_) ?_
            rotate_left
            · exact AllReadyH.nil
            go_simp
            refine hK.out _ _ trivial (fun hHeld => ?_)
            clear hK K
            refine wpAnyH_ready (rs := [4]) (by kernel_rfl) (by simp) ?_
            refine AllReadyH.cons rfl (fun K hK => ?_) ?_
            rotate_left
            · exact AllReadyH.nil
            obtain ⟨V, hV⟩ := HI2.out.si.gb.row
            obtain ⟨bo, c2, w4, hrun, R4, A4⟩ := hV.1.runs (x := .slice po (nmV Z') pc) rfl HPC.out.2.1 22
            have HI4 := hide (HI2.out.app hV R4 A4)
            have y4 := HI4.out.1.c
            have z4 := HI4.out.1.z
            refine step_appL rfl (.tmp 6) (.tmp 9) rfl rfl rfl hrun ?_
            clear hrun R4 A4 hV
            simp only [Act.put, List.setIfInBounds_toArray]
            refine hK.out _ _ trivial (fun hHeld => ?_)
            clear hK K
            refine wpAnyH_ready (rs := [5]) (by kernel_rfl) (by simp) ?_
            refine AllReadyH.cons rfl (fun K hK => ?_) ?_
            rotate_left
            · exact AllReadyH.nil
            go_simp
            refine hK.out _ _ trivial (fun hHeld => ?_)
            clear hK K
            refine wpAnyH_done (by kernel_rfl) ?_ _
            clear hHeld
            have HI5 := hide HI4.out.2
            clear HI HI2 HI4
            go_wp2_with fail
            go_roundw
            case rel => exact ⟨_, _, _, _, _, _, _, _, HI5.out, by rw [HQ.out, splA_ok (by have := HLen.out; have := HPC.out.2.2; omega) HPC.out.1, List.append_assoc]; rfl, by have := HB.out; have := nmK_pos HPC.out.1; have := HPC.out.2.2; omega⟩
            case measure => rw [left_of HI5.out.rl.r, HL0.out]; have := nmK_pos HPC.out.1; have := HPC.out.2.2; omega
      · have HPC : Hid (pcE Z' mx ≠ 0 ∧ 0 < rn) := ⟨hp, hr⟩
        have x0 := HI.out.drew.var.c
        have HCB := hide (frame_bad HI.out.drew.rl rfl hp)
        clear hp
        go_wp2_with fail
        refine HLf.out.mono ?_
        rintro e wx ⟨rfl, rfl⟩
        go_wp2_with fail
        clear hr
        refine wp_region_held_drew (S := fun _ => True) (by kernel_rfl) (trivial) (fun hHeld => ?_)
        refine wpAnyH_take (i := 1) (oi := { dst := some 7, op := Op.move (Operand.tmp 0), type := 40, pos := "frames.go:23", after := #[], guard := none }) (v := ?_) rfl (by kernel_rfl) (by kernel_rfl) (by kernel_rfl) (fun _ _ _ h => h) (Or.inl ⟨by rfl, ?_⟩) (by assumption) ?_
        rotate_left
        · (intro w hSw; (try dsimp only at hSw); go_simp); first | done | with_reducible rfl
        simp only [Act.put, List.setIfInBounds_toArray, List.set_cons_zero, List.set_cons_succ]
        refine wpAnyH_ready (rs := [0, 2]) (by kernel_rfl) (by simp) ?_
        refine AllReadyH.cons rfl (fun K hK => ?_) (AllReadyH.cons rfl (fun K hK => ?_) AllReadyH.nil)
        · go_simp
          refine hK.out _ _ trivial (fun hHeld => ?_)
          clear hK K
          refine wpAnyH_ready (rs := [2]) (by kernel_rfl) (by simp) ?_
          refine AllReadyH.cons rfl (fun K hK => ?_) ?_
          rotate_left
          · exact AllReadyH.nil
          go_simp
          go_wp2_with fail
          refine HCB.out.mono ?_
          rintro r w2 ⟨rfl, hG⟩
          have HE : Hid (SpP n0 w0 g lv Z0 (.panicked (ups g)) w2) := by
            have e : (splA Z0).2 = pcE Z' mx := by rw [HQ.out, splA_bad (by have := HLen.out; have := HPC.out.2; omega) HPC.out.1]
            exact ⟨HI.out.drew.kl.kg HI.out.pos.2.2.2.1 hG.2, Or.inr ⟨rfl, by rw [e]; exact HPC.out.1, by rw [e]; exact hG.1⟩⟩
          clear hG
          go_wp2_with fail
          exact ⟨rfl, HE.out⟩
        · go_simp
          go_wp2_with fail
          refine HCB.out.mono ?_
          rintro r w2 ⟨rfl, hG⟩
          have HE : Hid (SpP n0 w0 g lv Z0 (.panicked (ups g)) w2) := by
            have e : (splA Z0).2 = pcE Z' mx := by rw [HQ.out, splA_bad (by have := HLen.out; have := HPC.out.2; omega) HPC.out.1]
            exact ⟨HI.out.drew.kl.kg HI.out.pos.2.2.2.1 hG.2, Or.inr ⟨rfl, by rw [e]; exact HPC.out.1, by rw [e]; exact hG.1⟩⟩
          clear hG
          go_wp2_with fail
          exact ⟨rfl, HE.out⟩
    · obtain rfl : rn = 0 := by omega
      have HN : Hid (splA Z0 = (D, 0)) := by
        show _ = _
        rw [HQ.out, splA_nil HLen.out, List.append_nil]
      go_wp2_with fail
      refine HLf.out.mono ?_
      rintro e wx ⟨rfl, rfl⟩
      go_wp2_with fail
      go_end0
      exact ⟨HI.out.kl, Or.inl ⟨rfl, by rw [HN.out], ⟨_, _, HI.out.rl.r⟩, _, _, _, HI.out.var, by rw [HN.out]; exact HI.out.gb⟩⟩
end Go.Proofs.Yteligjfkiifonaa
