/- UNv URe URf URj UPn UPm URk FNm -/
import Derived.Test.YtphohmoibnoeaaaGreatPb15
import Derived.WalkLawsBesides
namespace Go.Proofs.YtphohmoibnoeaaaGreat.U
open Go.RowKit

theorem drop_getD (Z : List Int) (a t : Nat) : (Z.drop a).getD t 0 = Z.getD (a + t) 0 := by simp [List.getD]
theorem Src.from {w : World} {ad : Addr} {n cap : Nat} {Z : List Int} (h : Src w (some ad) n cap Z) (a : Nat) (ha : a ≤ n) (ad' : Addr) (hd : a < n → ad' = ad.add a) (cap' : Nat) : Src w (some ad') (n - a) cap' (Z.drop a) := by
 refine ⟨by simp [h.1], fun h => (by cases h), fun ad1 h1 t ht => ?_, fun t => (by rw [drop_getD]; exact h.2.2.2 _)⟩
 obtain rfl := Option.some.inj h1
 rw [hd (by omega), drop_getD, Addr.add_add]
 exact h.2.2.1 ad rfl (a + t) (by omega)
theorem scan_size (Z : List Int) (a f k : Nat) (h : (scan Z a f k).2.2 = 0) : 0 < (scan Z a f k).2.1 ∧ (a : Int) + (scan Z a f k).2.1 ≤ Z.length := by
 induction f generalizing k with
 | zero => exact absurd (show (51 : Int) = 0 from h) (by decide)
 | succ f ih =>
  unfold scan at h ⊢
  split at h
  ·exact absurd h (by decide)
  ·rename_i h1
   rw [if_neg h1]
   split at h
   ·rename_i h2
    rw [if_pos h2]
    split at h
    ·exact absurd h (by decide)
    ·rename_i h3; rw [if_neg h3]; constructor
     ·show (0 : Int) < (k : Int) + 1; omega
     ·show (a : Int) + ((k : Int) + 1) ≤ _; omega
   ·rename_i h2
    rw [if_neg h2]
    exact ih _ h
theorem Src.sub {w : World} {ao : Option Addr} {n cap : Nat} {Z : List Int} (h : Src w ao n cap Z) (k : Nat) (hk : k ≤ n) (hcap : n ≤ cap) :
  ∃ ao' cap', ((ao = none ∧ ao' = none ∧ cap' = cap - k) ∨ (∃ ad, ao = some ad ∧ cap = k ∧ ao' = some ad ∧ cap' = 0) ∨ ∃ ad, ao = some ad ∧ ¬ cap = k ∧ ao' = some (ad.add k) ∧ cap' = cap - k) ∧ Src w ao' (n - k) cap' (Z.drop k) ∧ n - k ≤ cap' := by
 cases ao with
 | none =>
  have := h.2.1 rfl
  refine ⟨none, cap - k, Or.inl ⟨rfl, rfl, rfl⟩, ⟨by simp [h.1], fun _ => by omega, fun ad h => (by cases h), fun t => (by rw [drop_getD]; exact h.2.2.2 _)⟩, by omega⟩
 | some ad =>
  by_cases hc : cap = k
  ·exact ⟨some ad, 0, Or.inr (Or.inl ⟨ad, rfl, hc, rfl, rfl⟩), h.from k hk ad (fun hl => by omega) _, by omega⟩
  ·exact ⟨some (ad.add k), cap - k, Or.inr (Or.inr ⟨ad, rfl, hc, rfl, rfl⟩), h.from k hk _ (fun _ => rfl) _, by omega⟩
end Go.Proofs.YtphohmoibnoeaaaGreat.U
namespace Go.Proofs.YtphohmoibnoeaaaGreat.U
open Go.RowKit
variable {w w' w2 : World} {g : Nat}

abbrev ptr (g : Nat) : Value := .pointer (some ⟨g, 0, none⟩)
def Rdr (w : World) (g : Nat) (ro : Option Addr) (rn rc : Nat) (gave : Int) (over : Bool) : Prop := w.heap[g]? = some (.cells #[.slice ro rn rc, .int .i64 gave, .bool over] 139 (0, 0))
variable {ro so : Option Addr} {rn rc sn sc : Nat} {gave : Int} {over : Bool} {Z : List Int}
theorem Rdr.c0 (h : Rdr w g ro rn rc gave over) : w.cell? ⟨g, 0, none⟩ = some (.slice ro rn rc) := by unfold Rdr at h; simp [World.cell?, h]
theorem Rdr.c1 (h : Rdr w g ro rn rc gave over) : w.cell? ⟨g, 1, none⟩ = some (.int .i64 gave) := by unfold Rdr at h; simp [World.cell?, h]
theorem Rdr.c2 (h : Rdr w g ro rn rc gave over) : w.cell? ⟨g, 2, none⟩ = some (.bool over) := by unfold Rdr at h; simp [World.cell?, h]
theorem Rdr.z (h : Rdr w g ro rn rc gave over) (j : Nat) : w.frozen? ⟨g, j, none⟩ = false := by unfold Rdr at h; simp [World.frozen?, h]
theorem Rdr.lt (h : Rdr w g ro rn rc gave over) : g < w.heap.size := (Array.getElem?_eq_some_iff.1 h).1
theorem set_heap (w : World) (g : Nat) (cs : Array Value) (t : TypeId) (f : Nat × Nat) (j : Nat) (v : Value) (h : w.heap[g]? = some (.cells cs t f)) : (w.setCell ⟨g, j, none⟩ v).heap[g]? = some (.cells (cs.setIfInBounds j v) t f) := by
 simp [World.setCell, h, Array.getElem?_modify, Array.setIfInBounds]
theorem set_other (w : World) (g j k : Nat) (v : Value) (hk : k ≠ g) : (w.setCell ⟨g, j, none⟩ v).heap[k]? = w.heap[k]? := by
 unfold World.setCell
 simp only
 split <;> simp [Array.getElem?_modify, Ne.symm hk]
theorem set_size (w : World) (g j : Nat) (v : Value) : (w.setCell ⟨g, j, none⟩ v).heap.size = w.heap.size := by
 unfold World.setCell
 simp only
 split <;> simp
theorem Rdr.set0 (h : Rdr w g ro rn rc gave over) (so : Option Addr) (sn sc : Nat) : Rdr (w.setCell ⟨g, 0, none⟩ (.slice so sn sc)) g so sn sc gave over := set_heap w g _ _ _ 0 _ h
theorem Rdr.set1 (h : Rdr w g ro rn rc gave over) (e : Int) : Rdr (w.setCell ⟨g, 1, none⟩ (.int .i64 e)) g ro rn rc e over := set_heap w g _ _ _ 1 _ h
theorem Rdr.set2 (h : Rdr w g ro rn rc gave over) (b : Bool) : Rdr (w.setCell ⟨g, 2, none⟩ (.bool b)) g ro rn rc gave b := set_heap w g _ _ _ 2 _ h
structure Kg (w w' : World) (g : Nat) : Prop where
 os : w'.os = w.os
 tape : w'.tape = w.tape
 output : w'.output = w.output
 size : w.heap.size ≤ w'.heap.size
 block : ∀ k, k < w.heap.size → k ≠ g → w'.heap[k]? = w.heap[k]?
theorem Kg.refl (w : World) (g : Nat) : Kg w w g := ⟨rfl, rfl, rfl, Nat.le_refl _, fun _ _ _ => rfl⟩
theorem Kg.of_below (h : Below w.heap.size w w') : Kg w w' g := ⟨h.os, h.tape, h.output, h.size, fun k hk _ => h.block k hk⟩
theorem Kg.trans (h : Kg w w' g) (k : Kg w' w2 g) : Kg w w2 g := ⟨k.os.trans h.os, k.tape.trans h.tape, k.output.trans h.output, Nat.le_trans h.size k.size, fun i hi hn => (k.block i (Nat.lt_of_lt_of_le hi h.size) hn).trans (h.block i hi hn)⟩
theorem setCell_os (w : World) (a : Addr) (v : Value) : (w.setCell a v).os = w.os := by
 unfold World.setCell
 split <;> rfl
theorem setCell_tape (w : World) (a : Addr) (v : Value) : (w.setCell a v).tape = w.tape := by
 unfold World.setCell
 split <;> rfl
theorem setCell_output (w : World) (a : Addr) (v : Value) : (w.setCell a v).output = w.output := by
 unfold World.setCell
 split <;> rfl
theorem Kg.set (h : Kg w w' g) (j : Nat) (v : Value) : Kg w (w'.setCell ⟨g, j, none⟩ v) g :=
 ⟨(setCell_os _ _ _).trans h.os, (setCell_tape _ _ _).trans h.tape, (setCell_output _ _ _).trans h.output, by rw [set_size]; exact h.size, fun k hk hn => (set_other w' g j k v hn).trans (h.block k hk hn)⟩
theorem Src.kg {m c : Nat} (S : Src w so m c Z) (h : Kg w w' g) (hne : m ≠ 0 → blk so ≠ some g) : Src w' so m c Z :=
 ⟨S.1, S.2.1, fun ad ha t ht => by
  have hc := S.2.2.1 ad ha t ht
  have hl := World.block_lt_of_cell? w _ hc
  rw [World.cell?_of_block (h.block _ hl (fun e => hne (by omega) (by rw [ha, ← e, block_of_add]; rfl)))]
  exact hc, S.2.2.2⟩
structure RL (w : World) (g : Nat) (ro : Option Addr) (rn rc : Nat) (Z : List Int) : Prop where
 r : Rdr w g ro rn rc 0 false
 s : Src w ro rn rc Z
 cap : rn ≤ rc
 big : rn ≤ 140737488355328
 ne : rn ≠ 0 → blk ro ≠ some g
theorem RL.len (R : RL w g ro rn rc Z) : Z.length = rn := R.s.1
theorem RL.kg_below (R : RL w g ro rn rc Z) (hb : Below w.heap.size w w') : RL w' g ro rn rc Z := ⟨(hb.block g R.r.lt).trans R.r, R.s.below hb, R.cap, R.big, R.ne⟩
abbrev upV (g : Nat) : Value := .iface 155 (.agg #[ptr g])
abbrev ups (g : Nat) : List PanicEntry := [{ v := upV g, recovered := false }]
def Gave (w w' : World) (g : Nat) (e : Int) : Prop := Rdr w' g none 0 0 e false ∧ Kg w w' g
theorem giveUp_any (R : Rdr w g ro rn rc gave over) (e : Int) : Calls Tryz.prog 106 #[ptr g, .int .i64 e] w fun r w' => r = .panicked (ups g) ∧ Rdr w' g none 0 0 e over ∧ Kg w w' g := by
 have z0 := R.z 0
 have z1 := (R.set0 none 0 0).z 1
 have x0 := R.c0
 have x1 := (R.set0 none 0 0).c1
 have HE := hide ((R.set0 none 0 0).set1 e)
 have HK := hide (((Kg.refl w g).set 0 (.slice none 0 0)).set 1 (.int .i64 e))
 clear R
 go_enter Tryz.func106, Tryz.ntmps106
 go_wp2_with fail
 exact ⟨rfl, rfl, HE.out, HK.out⟩
theorem mayRead_live (R : Rdr w g ro rn rc 0 false) : Calls Tryz.prog 104 #[ptr g] w fun r w' => r = .returned (.bool true) ∧ w' = w := by
 have x1 := R.c1
 have x2 := R.c2
 go_enter Tryz.func104, Tryz.ntmps104
 go_wp2_with fail
 go_ret
 exact ⟨rfl, rfl⟩
end Go.Proofs.YtphohmoibnoeaaaGreat.U
namespace Go.Proofs.YtphohmoibnoeaaaGreat.U
open Go.RowKit
variable {w w' w2 : World} {g : Nat} {ro so : Option Addr} {rn rc sn sc : Nat} {gave : Int} {over : Bool} {Z : List Int}

theorem blk_add (ad : Addr) (k : Nat) : blk (some (ad.add k)) = blk (some ad) := congrArg some (block_of_add ad k)
theorem scan_pos (Z : List Int) (a f k : Nat) : 0 ≤ (scan Z a f k).1 := by
 induction f generalizing k with
 | zero => exact Int.le_refl _
 | succ f ih =>
  unfold scan
  split
  ·exact Int.le_refl _
  ·split
   ·split
    ·exact Int.le_refl _
    ·exact (val_bd Z a (k + 1)).1
   ·exact ih _
theorem firstC (R : RL w g ro rn rc Z) {v k e : Int} (h : rdN Z 0 = (v, k, e)) : Calls Tryz.prog 105 #[.slice ro rn rc] w fun r w' => r = .returned (.tuple #[.int .i64 v, .int .i64 k, .int .i64 e]) ∧ w' = w := by
 have := first_any ro rn rc Z w R.s R.cap (Nat.le_trans R.big (by decide))
 rw [h] at this
 exact this
theorem RL.set (R : RL w g ro rn rc Z) (k : Nat) (_ : k ≤ rn) {ao' : Option Addr} {c' : Nat} (S : Src w ao' (rn - k) c' (Z.drop k)) (hc : rn - k ≤ c') (hb : blk ao' = blk ro) : RL (w.setCell ⟨g, 0, none⟩ (.slice ao' (rn - k) c')) g ao' (rn - k) c' (Z.drop k) ∧ Kg w (w.setCell ⟨g, 0, none⟩ (.slice ao' (rn - k) c')) g := by
 have hK := (Kg.refl w g).set 0 (.slice ao' (rn - k) c')
 exact ⟨⟨R.r.set0 _ _ _, S.kg hK (fun h => by rw [hb]; exact R.ne (by omega)), hc, by have := R.big; omega, fun h => by rw [hb]; exact R.ne (by omega)⟩, hK⟩
theorem rdN_ok {Z : List Int} {v k : Int} (h : rdN Z 0 = (v, k, 0)) : 0 < k ∧ k ≤ Z.length := by
 have := scan_size Z 0 9 0 (by unfold rdN at h; rw [h])
 unfold rdN at h
 rw [h] at this
 simp only at this
 omega
set_option maxRecDepth 100000 in
theorem num_ok (R : RL w g ro rn rc Z) {v most : Int} {k : Nat} (h : rdN Z 0 = (v, (k : Int), 0)) (hv : v ≤ most) : Calls Tryz.prog 76 #[ptr g, .int .i64 most] w fun r w' =>
  r = .returned (.int .i64 v) ∧ ∃ so sc, RL w' g so (rn - k) sc (Z.drop k) ∧ blk so = blk ro ∧ Kg w w' g := by
 have hk := rdN_ok h
 rw [R.len] at hk
 have hkn : k ≤ rn := by omega
 have hk0 : 0 < k := by omega
 have HM := hide (mayRead_live R.r)
 have HF := hide (firstC R h)
 have x0 := R.r.c0
 have z0 := R.r.z 0
 have h1 : (k : Int) ≤ (rn : Int) := by omega
 have h2 : ¬ most < v := by omega
 obtain ⟨ao', cap', hcs, S', hc'⟩ := R.s.sub k hkn R.cap
 cases ro with
 | none => have := (R.s.2.1 rfl).1; omega
 | some ad =>
  by_cases hc : rc = k
  ·obtain ⟨rfl, rfl⟩ : ao' = some ad ∧ cap' = 0 := by
    rcases hcs with ⟨x, _⟩ | ⟨ad, x, _, y, z⟩ | ⟨ad, x, y, _⟩
    ·cases x
    ·exact ⟨y.trans x.symm, z⟩
    ·exact absurd hc y
   have HE := hide (R.set k hkn S' hc' rfl)
   have HCap := hide R.cap
   clear R S' hcs hc' hk hv h
   subst hc
   go_enter Tryz.func76, Tryz.ntmps76
   go_wp2_with fail
   refine HM.out.mono ?_
   rintro e w2 ⟨rfl, rfl⟩
   go_wp2_with fail
   refine HF.out.mono ?_
   rintro e w2 ⟨rfl, rfl⟩
   go_wp2_with fail
   go_ret
   exact ⟨rfl, _, _, HE.out.1, rfl, HE.out.2⟩
  ·obtain ⟨rfl, rfl⟩ : ao' = some (ad.add k) ∧ cap' = rc - k := by
    rcases hcs with ⟨x, _⟩ | ⟨ad, x, y, _⟩ | ⟨ad', x, _, y, z⟩
    ·cases x
    ·exact absurd y hc
    ·obtain rfl := Option.some.inj x
     exact ⟨y, z⟩
   have HE := hide (R.set k hkn S' hc' (blk_add ad k))
   have h3 : (k : Int) ≤ (rc : Int) := by have := R.cap; omega
   clear R S' hcs hc' hk hv h
   go_enter Tryz.func76, Tryz.ntmps76
   go_wp2_with fail
   refine HM.out.mono ?_
   rintro e w2 ⟨rfl, rfl⟩
   go_wp2_with fail
   refine HF.out.mono ?_
   rintro e w2 ⟨rfl, rfl⟩
   go_wp2_with fail
   go_ret
   exact ⟨rfl, _, _, HE.out.1, blk_add ad k, HE.out.2⟩
def nmE (Z : List Int) (most : Int) : Int := if (rdN Z 0).2.2 ≠ 0 then (rdN Z 0).2.2 else if most < (rdN Z 0).1 then 51 else 0
theorem nmE_ok {Z : List Int} {most : Int} (h : nmE Z most = 0) : ∃ (v : Int) (k : Nat), rdN Z 0 = (v, (k : Int), 0) ∧ v ≤ most ∧ k ≤ Z.length ∧ 0 < k ∧ 0 ≤ v := by
 obtain ⟨v, k, e, he⟩ : ∃ v k e, rdN Z 0 = (v, k, e) := ⟨_, _, _, rfl⟩
 unfold nmE at h
 rw [he] at h
 simp only at h
 split at h
 ·rename_i hn
  exact absurd h hn
 ·rename_i hn
  split at h
  ·cases h
  ·rename_i hm
   obtain rfl : e = 0 := by simpa using hn
   have := rdN_ok he
   refine ⟨v, k.toNat, by rw [he]; simp; omega, by omega, by omega, by omega, ?_⟩
   have hp := scan_pos Z 0 9 0
   unfold rdN at he
   rw [he] at hp
   exact hp
set_option maxRecDepth 100000 in
theorem num_bad (R : RL w g ro rn rc Z) {most e : Int} (h : nmE Z most = e) (he : e ≠ 0) : Calls Tryz.prog 76 #[ptr g, .int .i64 most] w fun r w' =>
  r = .panicked (ups g) ∧ Gave w w' g e := by
 obtain ⟨v, k, x, hr⟩ : ∃ v k x, rdN Z 0 = (v, k, x) := ⟨_, _, _, rfl⟩
 have HM := hide (mayRead_live R.r)
 have HF := hide (firstC R hr)
 have HU := hide (giveUp_any R.r e)
 have x0 := R.r.c0
 unfold nmE at h
 rw [hr] at h
 simp only at h
 by_cases hx : x = 0
 ·rw [if_neg (by simpa using hx)] at h
  have hm : most < v := by
   by_cases hm : most < v
   ·exact hm
   ·rw [if_neg hm] at h; exact absurd h.symm he
  rw [if_pos hm] at h
  subst hx
  subst h
  clear R hr he
  go_enter Tryz.func76, Tryz.ntmps76
  go_wp2_with fail
  refine HM.out.mono ?_
  rintro e w2 ⟨rfl, rfl⟩
  go_wp2_with fail
  refine HF.out.mono ?_
  rintro e w2 ⟨rfl, rfl⟩
  go_wp2_with fail
  refine HU.out.mono ?_
  rintro e w3 ⟨rfl, R3, K3⟩
  have HE : Hid (Gave w2 w3 g 51) := ⟨R3, K3⟩
  clear R3 K3
  go_wp2_with fail
  exact ⟨rfl, rfl, HE.out⟩
 ·rw [if_pos (by simpa using hx)] at h
  subst h
  have h0 : (x != 0) = true := by simpa using hx
  clear R hr he hx
  go_enter Tryz.func76, Tryz.ntmps76
  go_wp2_with fail
  refine HM.out.mono ?_
  rintro e w2 ⟨rfl, rfl⟩
  go_wp2_with fail
  refine HF.out.mono ?_
  rintro e w2 ⟨rfl, rfl⟩
  go_wp2_with fail
  refine HU.out.mono ?_
  rintro e w3 ⟨rfl, R3, K3⟩
  have HE : Hid (Gave w2 w3 g x) := ⟨R3, K3⟩
  clear R3 K3
  go_wp2_with fail
  exact ⟨rfl, rfl, HE.out⟩
end Go.Proofs.YtphohmoibnoeaaaGreat.U
namespace Go.Proofs.YtphohmoibnoeaaaGreat.U
open Go.RowKit
variable {w w' w2 : World} {g ev rv : Nat} {ro so : Option Addr} {rn rc sn sc : Nat} {gave : Int} {over : Bool} {Z : List Int}

theorem Src.bs {m c : Nat} (S : Src w so m c Z) : BS w so m c Z := ⟨S.1, S.2.1, S.2.2.1⟩
theorem Src.take {ad : Addr} {m c : Nat} (S : Src w (some ad) m c Z) (v : Nat) (hv : v ≤ m) : Src w (some ad) v c (Z.take v) := by
 refine ⟨by rw [List.length_take, S.1]; omega, fun h => (by cases h), fun a ha t ht => ?_, fun t => ?_⟩
 ·rw [S.2.2.1 a ha t (by omega)]
  simp [List.getD, ht]
 ·by_cases ht : t < v
  ·have := S.2.2.2 t
   simp only [List.getD, List.getElem?_take, if_pos ht] at this ⊢
   exact this
  ·simp [List.getD, List.getElem?_take, ht]
def nmV (Z : List Int) : Nat := (rdN Z 0).1.toNat
def nmK (Z : List Int) : Nat := (rdN Z 0).2.1.toNat
def pcE (Z : List Int) (most : Int) : Int := if nmE Z most ≠ 0 then nmE Z most else if Z.length < nmK Z + nmV Z then 50 else 0
theorem nm_ok {Z : List Int} {most : Int} (h : nmE Z most = 0) : rdN Z 0 = ((nmV Z : Int), (nmK Z : Int), 0) ∧ (nmV Z : Int) ≤ most ∧ nmK Z ≤ Z.length ∧ 0 < nmK Z := by
 obtain ⟨v, k, e, h1, h2, h3, h4⟩ := nmE_ok h
 have a : nmK Z = k := by unfold nmK; rw [e]; simp
 have b : (nmV Z : Int) = v := by unfold nmV; rw [e]; simp only; omega
 rw [a, b]
 exact ⟨e, h1, h2, h3⟩
def Mv (w w' : World) (g : Nat) (ro : Option Addr) (rn k : Nat) (Z : List Int) : Prop := ∃ so sc, RL w' g so (rn - k) sc (Z.drop k) ∧ blk so = blk ro ∧ Kg w w' g
theorem Num_ok (R : RL w g ro rn rc Z) {most : Int} (h : nmE Z most = 0) : Calls Tryz.prog 76 #[ptr g, .int .i64 most] w fun r w' =>
  r = .returned (.int .i64 (nmV Z)) ∧ Mv w w' g ro rn (nmK Z) Z := num_ok R (nm_ok h).1 (nm_ok h).2.1
theorem mv_two {w3 : World} {k v : Nat} (K2 : Kg w w2 g) (RS : RL w3 g so (rn - k - v) sc ((Z.drop k).drop v)) (hb : blk so = blk ro) (K3 : Kg w2 w3 g) : Mv w w3 g ro rn (k + v) Z := ⟨so, sc, by rw [Nat.sub_sub, List.drop_drop] at RS; exact RS, hb, K2.trans K3⟩
def PcR (w w' : World) (g : Nat) (ro : Option Addr) (rn : Nat) (Z : List Int) (r : Ending) : Prop := ∃ po pc, r = .returned (.slice po (nmV Z) pc) ∧ Src w' po (nmV Z) pc ((Z.drop (nmK Z)).take (nmV Z)) ∧ blk po = blk ro ∧ Mv w w' g ro rn (nmK Z + nmV Z) Z
theorem pcE_ok {Z : List Int} {most : Int} (h : pcE Z most = 0) : nmE Z most = 0 ∧ nmK Z + nmV Z ≤ Z.length := by
 unfold pcE at h
 split at h
 ·rename_i hn; exact absurd h hn
 ·rename_i hn
  split at h
  ·cases h
  ·exact ⟨by simpa using hn, by omega⟩
set_option maxRecDepth 100000 in
set_option maxHeartbeats 1000000 in
theorem piece_ok (R : RL w g ro rn rc Z) {most : Int} (h : pcE Z most = 0) : Calls Tryz.prog 108 #[ptr g, .int .i64 most] w fun r w' => PcR w w' g ro rn Z r := by
 obtain ⟨hn, hl⟩ := pcE_ok h
 have HC := hide (Num_ok R hn)
 have hk := (nm_ok hn).2.2.2
 have hlen := R.len
 cases ro with
 | none => have := (R.s.2.1 rfl).1; omega
 | some ad0 =>
  obtain ⟨v, hv⟩ : ∃ v, nmV Z = v := ⟨_, rfl⟩
  obtain ⟨k, hkk⟩ : ∃ k, nmK Z = k := ⟨_, rfl⟩
  rw [hv, hkk] at HC
  rw [hkk, hv] at hl
  rw [hkk] at hk
  have HP : Hid (∀ w' r, (∃ po pc, r = .returned (.slice po v pc) ∧ Src w' po v pc ((Z.drop k).take v) ∧ blk po = blk (some ad0) ∧ Mv w w' g (some ad0) rn (k + v) Z) → PcR w w' g (some ad0) rn Z r) := by
   intro w' r hh
   unfold PcR
   rw [hv, hkk]
   exact hh
  have HL : Hid (k + v ≤ rn ∧ 0 < k) := ⟨by omega, hk⟩
  clear hn h R hk hl hlen hv hkk
  go_enter Tryz.func108, Tryz.ntmps108
  go_wp2_with fail
  refine HC.out.mono ?_
  rintro e w2 ⟨rfl, so, sc, R2, hb, K2⟩
  cases so with
  | none => cases hb
  | some ad =>
   have x0 := R2.r.c0
   have z0 := R2.r.z 0
   have h1 : ¬ ((rn - k : Nat) : Int) < (v : Int) := by have := HL.out; omega
   have h2 : (v : Int) ≤ ((rn - k : Nat) : Int) := by have := HL.out; omega
   have h3 : (v : Int) ≤ (sc : Int) := by have := HL.out; have := R2.cap; omega
   obtain ⟨ao', cap', hcs, S', hc'⟩ := R2.s.sub v (by have := HL.out; omega) R2.cap
   have ST := R2.s.take v (by have := HL.out; omega)
   by_cases hc : sc = v
   ·obtain ⟨rfl, rfl⟩ : ao' = some ad ∧ cap' = 0 := by
     rcases hcs with ⟨x, _⟩ | ⟨ad, x, _, y, z⟩ | ⟨ad, x, y, _⟩
     ·cases x
     ·exact ⟨y.trans x.symm, z⟩
     ·exact absurd hc y
    have HE := hide (R2.set v (by have := HL.out; omega) S' hc' rfl)
    have HS := hide (And.intro ST (And.intro K2 hb))
    have HSn : Hid (v ≠ 0 → blk (some ad) ≠ some g) := fun h => R2.ne (by have := HL.out; omega)
    clear R2 S' hcs hc' ST K2 hb HC
    subst hc
    go_wp2_with fail
    go_ret
    exact HP.out _ _ ⟨_, _, rfl, HS.out.1.kg HE.out.2 HSn.out, HS.out.2.2, mv_two HS.out.2.1 HE.out.1 HS.out.2.2 HE.out.2⟩
   ·obtain ⟨rfl, rfl⟩ : ao' = some (ad.add v) ∧ cap' = sc - v := by
     rcases hcs with ⟨x, _⟩ | ⟨ad, x, y, _⟩ | ⟨ad', x, _, y, z⟩
     ·cases x
     ·exact absurd y hc
     ·obtain rfl := Option.some.inj x
      exact ⟨y, z⟩
    have HE := hide (R2.set v (by have := HL.out; omega) S' hc' (blk_add ad v))
    have HS := hide (And.intro ST (And.intro K2 hb))
    have HSn : Hid (v ≠ 0 → blk (some ad) ≠ some g) := fun h => R2.ne (by have := HL.out; omega)
    clear R2 S' hcs hc' ST K2 hb HC
    go_wp2_with fail
    go_ret
    exact HP.out _ _ ⟨_, _, rfl, HS.out.1.kg HE.out.2 HSn.out, HS.out.2.2, mv_two HS.out.2.1 HE.out.1 ((blk_add ad v).trans HS.out.2.2) HE.out.2⟩
set_option maxRecDepth 100000 in
theorem piece_bad (R : RL w g ro rn rc Z) {most e : Int} (h : pcE Z most = e) (he : e ≠ 0) : Calls Tryz.prog 108 #[ptr g, .int .i64 most] w fun r w' => r = .panicked (ups g) ∧ Gave w w' g e := by
 by_cases hn : nmE Z most = 0
 ·have HC := hide (Num_ok R hn)
  have hl : Z.length < nmK Z + nmV Z ∧ e = 50 := by
   unfold pcE at h
   rw [if_neg (by simpa using hn)] at h
   split at h
   ·rename_i hl; exact ⟨hl, h.symm⟩
   ·exact absurd h.symm he
  obtain ⟨hl, rfl⟩ := hl
  have hlen := R.len
  obtain ⟨v, hv⟩ : ∃ v, nmV Z = v := ⟨_, rfl⟩
  obtain ⟨k, hkk⟩ : ∃ k, nmK Z = k := ⟨_, rfl⟩
  have hkl := (nm_ok hn).2.2.1
  rw [hkk] at hkl
  rw [hv, hkk] at HC hl
  have HL : Hid (rn < k + v ∧ k ≤ rn) := ⟨by omega, by omega⟩
  clear h he hn R hl hlen hv hkk hkl
  go_enter Tryz.func108, Tryz.ntmps108
  go_wp2_with fail
  refine HC.out.mono ?_
  rintro e w2 ⟨rfl, so, sc, R2, hb, K2⟩
  have x0 := R2.r.c0
  have h1 : ((rn - k : Nat) : Int) < (v : Int) := by have := HL.out; omega
  have HU := hide (giveUp_any R2.r 50)
  have HK := hide K2
  clear R2 hb K2 HC
  go_wp2_with fail
  refine HU.out.mono ?_
  rintro e w3 ⟨rfl, R3, K3⟩
  have HE : Hid (Gave w w3 g 50) := ⟨R3, HK.out.trans K3⟩
  clear R3 K3
  go_wp2_with fail
  exact ⟨rfl, rfl, HE.out⟩
 ·have e1 : nmE Z most = e := by
   unfold pcE at h
   rw [if_pos (by simpa using hn)] at h
   exact h
  have HC := hide (num_bad R e1 he)
  clear h hn R
  go_enter Tryz.func108, Tryz.ntmps108
  go_wp2_with fail
  refine HC.out.mono ?_
  rintro r w2 ⟨rfl, hG⟩
  have HE := hide hG
  clear hG
  go_wp2_with fail
  exact ⟨rfl, rfl, HE.out⟩
def FrR (w w' : World) (g : Nat) (ro : Option Addr) (rn : Nat) (Z : List Int) (r : Ending) : Prop := ∃ po pc, r = .returned (.slice po (nmV Z) pc) ∧ BR w' po (nmV Z) pc ((Z.drop (nmK Z)).take (nmV Z)) ∧ (∀ k, blk po = some k → w.heap.size ≤ k) ∧ Mv w w' g ro rn (nmK Z + nmV Z) Z
theorem Mv.below {k : Nat} (h : Mv w w' g ro rn k Z) (b : Below w'.heap.size w' w2) : Mv w w2 g ro rn k Z := by
 obtain ⟨so, sc, R, hb, K⟩ := h
 exact ⟨so, sc, R.kg_below b, hb, K.trans (Kg.of_below b)⟩
end Go.Proofs.YtphohmoibnoeaaaGreat.U
namespace Go.Proofs.YtphohmoibnoeaaaGreat.U
open Go.RowKit

theorem numB_oct : ∀ (n : Nat) (t : Nat), 0 ≤ (numB n).getD t 0 ∧ (numB n).getD t 0 ≤ 255 := fun n => by
 induction n using Nat.strongRecOn with
 | _ n ih =>
  intro t
  by_cases hs : n < 128
  ·rw [numB_lt hs]
   match t with
   | 0 => exact ⟨by show (0 : Int) ≤ (n : Int); omega, by show (n : Int) ≤ 255; omega⟩
   | t + 1 => simp
  ·rw [numB_ge hs]
   match t with
   | 0 => exact ⟨by show (0 : Int) ≤ ((n % 128 + 128 : Nat) : Int); omega, by show ((n % 128 + 128 : Nat) : Int) ≤ 255; omega⟩
   | t + 1 => exact ih (n / 128) (by omega) t
theorem drop_cons_at {Z : List Int} {a : Nat} {x : Int} {R : List Int} (h : Z.drop a = x :: R) : a < Z.length ∧ Z.getD a 0 = x ∧ Z.drop (a + 1) = R := by
 have hl : a < Z.length := by
  have := congrArg List.length h
  rw [List.length_drop, List.length_cons] at this
  omega
 rw [List.drop_eq_getElem_cons hl] at h
 injection h with h1 h2
 exact ⟨hl, by rw [List.getD_eq_getElem?_getD, List.getElem?_eq_getElem hl]; exact h1, h2⟩
theorem val_step (Z : List Int) (a k : Nat) {x : Int} (hx : Z.getD (a + k) 0 = x) : val Z a (k + 1) = val Z a k + x % 128 * 128 ^ k := by
 show val Z a k + (Z.getD (a + k) 0 % 128) * 128 ^ k = _
 rw [hx]
theorem scan_numB (Z : List Int) (a : Nat) (R : List Int) : ∀ (f k v : Nat), Z.drop (a + k) = numB v ++ R → (numB v).length ≤ f → (v = 0 → k = 0) → scan Z a f k = (val Z a k + (v : Int) * 128 ^ k, ((k + (numB v).length : Nat) : Int), 0)
 | 0, k, v, _, hl, _ => by
  by_cases hs : v < 128
  ·rw [numB_lt hs] at hl; simp at hl
  ·rw [numB_ge hs] at hl; simp at hl
 | f + 1, k, v, hd, hl, h0 => by
  by_cases hs : v < 128
  ·rw [numB_lt hs] at hd ⊢
   obtain ⟨h1, h2, h3⟩ := drop_cons_at hd
   rw [scan_good Z a f k (by omega) (by rw [h2]; omega) (fun h => by have := h.1; rw [h2] at this; have := h0 (by omega); omega), val_step Z a k h2]
   have : (v : Int) % 128 = v := by omega
   rw [this]
   rfl
  ·rw [numB_ge hs, List.cons_append] at hd
   obtain ⟨h1, h2, h3⟩ := drop_cons_at hd
   have hl2 : (numB v).length = (numB (v / 128)).length + 1 := by rw [numB_ge hs]; rfl
   rw [scan_on Z a f k (by omega) (by rw [h2]; omega), scan_numB Z a R f (k + 1) (v / 128) h3 (by omega) (fun h => by omega), val_step Z a k h2, hl2]
   have e1 : ((v % 128 + 128 : Nat) : Int) % 128 = (v : Int) % 128 := by omega
   have e2 : (v : Int) = (v : Int) % 128 + ((v / 128 : Nat) : Int) * 128 := by omega
   rw [e1, Int.pow_succ]
   have e3 : (v : Int) * 128 ^ k = (v : Int) % 128 * 128 ^ k + ((v / 128 : Nat) : Int) * (128 ^ k * 128) := by
    rw [Int.mul_comm (128 ^ k) 128, ← Int.mul_assoc, ← Int.add_mul, ← e2]
   rw [e3]
   congr 1
   ·omega
   ·congr 1
    omega
theorem scan_back (Z : List Int) (hZ : ∀ t, 0 ≤ Z.getD t 0 ∧ Z.getD t 0 ≤ 255) (a : Nat) : ∀ (f k : Nat) (x y : Int), scan Z a f k = (x, y, 0) → ∃ v : Nat, x = val Z a k + (v : Int) * 128 ^ k ∧ y = ((k + (numB v).length : Nat) : Int) ∧ Z.drop (a + k) = numB v ++ Z.drop (a + k + (numB v).length) ∧ (v = 0 → k = 0)
 | 0, k, x, y, h => by unfold scan at h; simp at h
 | f + 1, k, x, y, h => by
  by_cases hl : Z.length ≤ a + k
  ·rw [scan_end Z a f k hl] at h; simp at h
  ·have hb := hZ (a + k)
   have hdr : Z.drop (a + k) = Z.getD (a + k) 0 :: Z.drop (a + k + 1) := by
    rw [List.drop_eq_getElem_cons (by omega), List.getD_eq_getElem?_getD, List.getElem?_eq_getElem (by omega)]
    rfl
   obtain ⟨c, hc⟩ : ∃ c, Z.getD (a + k) 0 = c := ⟨_, rfl⟩
   rw [hc] at hb hdr
   by_cases h1 : c < 128
   ·by_cases h2 : c = 0 ∧ 0 < k
    ·rw [scan_bad Z a f k hl (by rw [hc]; exact h2.1) h2.2] at h; simp at h
    ·rw [scan_good Z a f k hl (by rw [hc]; exact h1) (by rw [hc]; exact h2), val_step Z a k hc] at h
     simp only [Prod.mk.injEq, and_true] at h
     have hn : numB c.toNat = [c] := by rw [numB_lt (by omega)]; congr 1; omega
     refine ⟨c.toNat, ?_, ?_, ?_, fun h => by omega⟩
     ·rw [← h.1]
      have : c % 128 = ((c.toNat : Nat) : Int) := by omega
      rw [this]
     ·rw [← h.2, hn]; rfl
     ·rw [hn]; exact hdr
   ·rw [scan_on Z a f k hl (by rw [hc]; exact h1)] at h
    obtain ⟨v, e1, e2, e3, e4⟩ := scan_back Z hZ a f (k + 1) x y h
    have hv : v ≠ 0 := fun h => by have := e4 h; omega
    have hm : (c.toNat - 128 + 128 * v) % 128 + 128 = c.toNat := by omega
    have hd : (c.toNat - 128 + 128 * v) / 128 = v := by omega
    have hn : numB (c.toNat - 128 + 128 * v) = c :: numB v := by
     rw [numB_ge (by omega), hm, hd]
     congr 1
     omega
    refine ⟨c.toNat - 128 + 128 * v, ?_, ?_, ?_, fun h => by omega⟩
    ·rw [e1, val_step Z a k hc, Int.pow_succ]
     have q1 : c % 128 = c - 128 := by omega
     have q2 : ((c.toNat - 128 + 128 * v : Nat) : Int) = (c - 128) + (v : Int) * 128 := by omega
     rw [q1, q2, Int.add_mul, Int.mul_assoc, Int.mul_comm 128 (128 ^ k)]
     omega
    ·rw [e2, hn, List.length_cons]; omega
    ·rw [hn, hdr, List.cons_append, List.length_cons]
     have : a + (k + 1) = a + k + 1 := by omega
     rw [this] at e3
     rw [e3, show a + k + ((numB v).length + 1) = a + k + 1 + (numB v).length by omega]
end Go.Proofs.YtphohmoibnoeaaaGreat.U
namespace Go.Proofs.YtphohmoibnoeaaaGreat.U
open Go.RowKit

theorem rdN_numB (v : Nat) (R : List Int) (hv : v ≤ 9223372036854775807) : rdN (numB v ++ R) 0 = ((v : Int), ((numB v).length : Int), 0) := by
 have h := scan_numB (numB v ++ R) 0 R 9 0 v rfl (numB_nine hv) (fun _ => rfl)
 simp only [val, Int.pow_zero, Int.mul_one, Int.zero_add, Nat.zero_add] at h
 exact h
theorem rdN_back (Z : List Int) (hZ : ∀ t, 0 ≤ Z.getD t 0 ∧ Z.getD t 0 ≤ 255) {x y : Int} (h : rdN Z 0 = (x, y, 0)) : ∃ v : Nat, x = v ∧ y = ((numB v).length : Int) ∧ Z = numB v ++ Z.drop (numB v).length := by
 obtain ⟨v, h1, h2, h3, -⟩ := scan_back Z hZ 0 9 0 x y h
 refine ⟨v, ?_, by rw [h2]; simp, ?_⟩
 ·rw [h1]; simp [val]
 ·simpa using h3
theorem nmV_numB (v : Nat) (R : List Int) (hv : v ≤ 9223372036854775807) : nmV (numB v ++ R) = v := by unfold nmV; rw [rdN_numB v R hv]; simp
theorem nmK_numB (v : Nat) (R : List Int) (hv : v ≤ 9223372036854775807) : nmK (numB v ++ R) = (numB v).length := by unfold nmK; rw [rdN_numB v R hv]; simp
theorem nmE_numB (v : Nat) (R : List Int) (most : Int) (hv : v ≤ 9223372036854775807) : nmE (numB v ++ R) most = if most < (v : Int) then 51 else 0 := by
 unfold nmE
 rw [rdN_numB v R hv]
 simp
def frm (Y : List Int) : List Int := numB Y.length ++ Y
theorem scan_lt (Z : List Int) (a : Nat) : ∀ (f k : Nat), f + k ≤ 9 → (scan Z a f k).1 < 9223372036854775808
 | 0, k, _ => by show (0 : Int) < _; decide
 | f + 1, k, h => by
  unfold scan
  split
  ·show (0 : Int) < _; decide
  ·split
   ·split
    ·show (0 : Int) < _; decide
    ·have h1 := (val_bd Z a (k + 1)).2
     have h2 : (128 : Int) ^ (k + 1) ≤ 128 ^ 9 := by
      have : (128 : Nat) ^ (k + 1) ≤ 128 ^ 9 := Nat.pow_le_pow_right (by decide) (by omega)
      exact_mod_cast this
     have h3 : (128 : Int) ^ 9 = 9223372036854775808 := by decide
     show val Z a (k + 1) < _
     omega
   ·exact scan_lt Z a f (k + 1) (by omega)
theorem nmV_le (Z : List Int) : nmV Z ≤ 9223372036854775807 := by
 have := scan_lt Z 0 9 0 (by decide)
 unfold nmV rdN
 omega
end Go.Proofs.YtphohmoibnoeaaaGreat.U
namespace Go.Proofs.YtphohmoibnoeaaaGreat.U
open Go.RowKit
variable {w w' w2 : World} {g : Nat} {ro so : Option Addr} {rn rc sn sc : Nat} {gave : Int} {over : Bool} {Z : List Int}

def flE (Z : List Int) : Int := if Z.length = 0 then 50 else if 1 < Z.getD 0 0 then 51 else 0
set_option maxRecDepth 100000 in
theorem text_ok (R : RL w g ro rn rc Z) {most : Int} (h : pcE Z most = 0) : Calls Tryz.prog 81 #[ptr g, .int .i64 most] w fun r w' => r = .returned (.string (strOfNums ((Z.drop (nmK Z)).take (nmV Z)))) ∧ Mv w w' g ro rn (nmK Z + nmV Z) Z := by
 have HC := hide (piece_ok R h)
 clear R h
 go_enter Tryz.func81, Tryz.ntmps81
 go_wp2_with fail
 refine HC.out.mono ?_
 rintro e w2 ⟨po, pc, rfl, S2, hb, M2⟩
 have hs := S2.bs.str
 have HM := hide M2
 clear S2 hb M2 HC
 go_wp2_with fail
 go_ret
 exact ⟨rfl, HM.out⟩
set_option maxRecDepth 100000 in
theorem text_bad (R : RL w g ro rn rc Z) {most e : Int} (h : pcE Z most = e) (he : e ≠ 0) : Calls Tryz.prog 81 #[ptr g, .int .i64 most] w fun r w' => r = .panicked (ups g) ∧ Gave w w' g e := by
 have HC := hide (piece_bad R h he)
 clear R h
 go_enter Tryz.func81, Tryz.ntmps81
 go_wp2_with fail
 refine HC.out.mono ?_
 rintro r w2 ⟨rfl, hG⟩
 have HE := hide hG
 clear hG
 go_wp2_with fail
 exact ⟨rfl, rfl, HE.out⟩
def mxN : Int := 9223372036854775807
def eachN (each : Int) : Int := if each < 1 then 1 else each
def ctE (Z : List Int) (each : Int) : Int := if nmE Z mxN ≠ 0 then nmE Z mxN else if (((Z.length - nmK Z : Nat) : Int)).tdiv (eachN each) < (nmV Z : Int) then 50 else 0
theorem eachN_pos (each : Int) : 1 ≤ eachN each := by unfold eachN; split <;> omega
theorem ctE_ok {each : Int} (h : ctE Z each = 0) : nmE Z mxN = 0 ∧ ¬ (((Z.length - nmK Z : Nat) : Int)).tdiv (eachN each) < (nmV Z : Int) := by
 unfold ctE at h
 split at h
 ·rename_i hn; exact absurd h hn
 ·rename_i hn
  split at h
  ·cases h
  ·exact ⟨by simpa using hn, by assumption⟩
theorem tdiv_wrap {a b : Int} (ha : 0 ≤ a) (ha2 : a ≤ 9223372036854775807) (hb : 1 ≤ b) : wrap64 (a.tdiv b) = a.tdiv b := by
 have h1 : 0 ≤ a.tdiv b := Int.tdiv_nonneg ha (by omega)
 have h2 : a.tdiv b ≤ a := by
  rw [Int.tdiv_eq_ediv_of_nonneg ha]
  exact Int.ediv_le_self _ ha
 exact w64 (by omega) (by omega)
set_option maxRecDepth 100000 in
theorem count_ok (R : RL w g ro rn rc Z) {each : Int} (h : ctE Z each = 0) : Calls Tryz.prog 77 #[ptr g, .int .i64 each] w fun r w' => r = .returned (.int .i64 (nmV Z : Int)) ∧ Mv w w' g ro rn (nmK Z) Z := by
 obtain ⟨hn, hl⟩ := ctE_ok h
 have HC := hide (Num_ok R hn)
 unfold mxN at HC
 obtain ⟨v, hv⟩ : ∃ v, nmV Z = v := ⟨_, rfl⟩
 obtain ⟨k, hk⟩ : ∃ k, nmK Z = k := ⟨_, rfl⟩
 rw [hv, hk] at HC ⊢
 rw [hv, hk, R.len] at hl
 have hb := R.big
 obtain ⟨m, hm⟩ : ∃ m, rn - k = m := ⟨_, rfl⟩
 rw [hm] at hl
 have hw := tdiv_wrap (a := (m : Int)) (b := eachN each) (by omega) (by omega) (eachN_pos each)
 have hp := eachN_pos each
 have hez : ¬ eachN each = 0 := by omega
 unfold eachN at hw hl hez
 have HL : Hid (rn - k = m) := hm
 clear R h hn hv hk hb hp hm
 by_cases he : each < 1
 ·rw [if_pos he] at hw hl hez
  rw [Int.tdiv_one] at hw hl
  go_enter Tryz.func77, Tryz.ntmps77
  go_wp2_with fail
  refine HC.out.mono ?_
  rintro e w2 ⟨rfl, so, sc, R2, hb, K2⟩
  have x0 := R2.r.c0
  rw [HL.out] at x0
  have HE : Hid (Mv w w2 g ro rn k Z) := ⟨so, sc, R2, hb, K2⟩
  clear R2 hb K2
  go_wp2_with fail
  go_ret
  exact ⟨rfl, HE.out⟩
 ·rw [if_neg he] at hw hl hez
  rw [Int.tdiv_eq_ediv_of_nonneg (Int.natCast_nonneg m)] at hw hl
  go_enter Tryz.func77, Tryz.ntmps77
  go_wp2_with fail
  refine HC.out.mono ?_
  rintro e w2 ⟨rfl, so, sc, R2, hb, K2⟩
  have x0 := R2.r.c0
  rw [HL.out] at x0
  have HE : Hid (Mv w w2 g ro rn k Z) := ⟨so, sc, R2, hb, K2⟩
  clear R2 hb K2
  go_wp2_with fail
  go_ret
  exact ⟨rfl, HE.out⟩
set_option maxRecDepth 100000 in
theorem count_bad (R : RL w g ro rn rc Z) {each e : Int} (h : ctE Z each = e) (he : e ≠ 0) : Calls Tryz.prog 77 #[ptr g, .int .i64 each] w fun r w' => r = .panicked (ups g) ∧ Gave w w' g e := by
 by_cases hn : nmE Z mxN = 0
 ·have HC := hide (Num_ok R hn)
  unfold mxN at HC
  have hl : (((Z.length - nmK Z : Nat) : Int)).tdiv (eachN each) < (nmV Z : Int) ∧ e = 50 := by
   unfold ctE at h
   rw [if_neg (by simpa using hn)] at h
   split at h
   ·rename_i hl; exact ⟨hl, h.symm⟩
   ·exact absurd h.symm he
  obtain ⟨hl, rfl⟩ := hl
  obtain ⟨v, hv⟩ : ∃ v, nmV Z = v := ⟨_, rfl⟩
  obtain ⟨k, hk⟩ : ∃ k, nmK Z = k := ⟨_, rfl⟩
  rw [hv, hk] at HC
  rw [hv, hk, R.len] at hl
  have hb := R.big
  obtain ⟨m, hm⟩ : ∃ m, rn - k = m := ⟨_, rfl⟩
  rw [hm] at hl
  have hw := tdiv_wrap (a := (m : Int)) (b := eachN each) (by omega) (by omega) (eachN_pos each)
  have hp := eachN_pos each
  have hez : ¬ eachN each = 0 := by omega
  unfold eachN at hw hl hez
  have HL : Hid (rn - k = m) := hm
  clear R h hn hv hk hb he hp hm
  by_cases he : each < 1
  ·rw [if_pos he] at hw hl hez
   rw [Int.tdiv_one] at hw hl
   go_enter Tryz.func77, Tryz.ntmps77
   go_wp2_with fail
   refine HC.out.mono ?_
   rintro e w2 ⟨rfl, so, sc, R2, hb, K2⟩
   have x0 := R2.r.c0
   rw [HL.out] at x0
   have HU := hide (giveUp_any R2.r 50)
   have HK := hide K2
   clear R2 hb K2 HC
   go_wp2_with fail
   refine HU.out.mono ?_
   rintro e w3 ⟨rfl, R3, K3⟩
   have HE : Hid (Gave w w3 g 50) := ⟨R3, HK.out.trans K3⟩
   clear R3 K3
   go_wp2_with fail
   exact ⟨rfl, rfl, HE.out⟩
  ·rw [if_neg he] at hw hl hez
   rw [Int.tdiv_eq_ediv_of_nonneg (Int.natCast_nonneg m)] at hw hl
   go_enter Tryz.func77, Tryz.ntmps77
   go_wp2_with fail
   refine HC.out.mono ?_
   rintro e w2 ⟨rfl, so, sc, R2, hb, K2⟩
   have x0 := R2.r.c0
   rw [HL.out] at x0
   have HU := hide (giveUp_any R2.r 50)
   have HK := hide K2
   clear R2 hb K2 HC
   go_wp2_with fail
   refine HU.out.mono ?_
   rintro e w3 ⟨rfl, R3, K3⟩
   have HE : Hid (Gave w w3 g 50) := ⟨R3, HK.out.trans K3⟩
   clear R3 K3
   go_wp2_with fail
   exact ⟨rfl, rfl, HE.out⟩
 ·have e1 : nmE Z mxN = e := by
   unfold ctE at h
   rw [if_pos (by simpa using hn)] at h
   exact h
  unfold mxN at e1
  have HC := hide (num_bad R e1 he)
  clear h hn R
  go_enter Tryz.func77, Tryz.ntmps77
  go_wp2_with fail
  refine HC.out.mono ?_
  rintro r w2 ⟨rfl, hG⟩
  have HE := hide hG
  clear hG
  go_wp2_with fail
  exact ⟨rfl, rfl, HE.out⟩
end Go.Proofs.YtphohmoibnoeaaaGreat.U
namespace Go.Proofs.YtphohmoibnoeaaaGreat.U
open Go.RowKit

abbrev Oc (Z : List Int) : Prop := ∀ t, 0 ≤ Z.getD t 0 ∧ Z.getD t 0 ≤ 255
theorem Oc.drop {Z : List Int} (h : Oc Z) (a : Nat) : Oc (Z.drop a) := fun t => by rw [drop_getD]; exact h _
def pNum (most : Int) (Z : List Int) : Option (Nat × List Int) := if nmE Z most = 0 then some (nmV Z, Z.drop (nmK Z)) else none
theorem pNum_to {most : Int} {v : Nat} (R : List Int) (hv : (v : Int) ≤ most) (hm : v ≤ 9223372036854775807) : pNum most (numB v ++ R) = some (v, R) := by
 have e : nmE (numB v ++ R) most = 0 := by rw [nmE_numB v R most hm, if_neg (by omega)]
 unfold pNum
 rw [if_pos e, nmV_numB v R hm, nmK_numB v R hm, List.drop_left]
theorem pNum_of {most : Int} {Z R : List Int} {v : Nat} (hZ : Oc Z) (h : pNum most Z = some (v, R)) : Z = numB v ++ R ∧ (v : Int) ≤ most ∧ Oc R ∧ v ≤ 9223372036854775807 := by
 unfold pNum at h
 split at h
 ·rename_i h0
  simp only [Option.some.injEq, Prod.mk.injEq] at h
  obtain ⟨h1, h2, h3, h4⟩ := nm_ok h0
  obtain ⟨u, e1, e2, e3⟩ := rdN_back Z hZ h1
  have ev : nmV Z = u := by omega
  have ek : nmK Z = (numB u).length := by omega
  obtain ⟨rfl, rfl⟩ := h
  refine ⟨?_, h2, hZ.drop _, ?_⟩
  ·rw [ev, ek]; exact e3
  ·exact nmV_le Z
 ·cases h
def pCnt (each : Int) (Z : List Int) : Option (Nat × List Int) := if ctE Z each = 0 then some (nmV Z, Z.drop (nmK Z)) else none
theorem pCnt_of {each : Int} {Z R : List Int} {v : Nat} (hZ : Oc Z) (h : pCnt each Z = some (v, R)) : Z = numB v ++ R ∧ Oc R ∧ v ≤ 9223372036854775807 := by
 unfold pCnt at h
 split at h
 ·rename_i h0
  have h1 : pNum mxN Z = some (v, R) := by unfold pNum; rw [if_pos (ctE_ok h0).1]; exact h
  obtain ⟨e1, _, e3, e4⟩ := pNum_of hZ h1
  exact ⟨e1, e3, e4⟩
 ·cases h
theorem pCnt_to {each : Int} {v : Nat} (R : List Int) (hv : (v : Int) ≤ ((R.length : Nat) : Int).tdiv (eachN each)) (hm : v ≤ 9223372036854775807) : pCnt each (numB v ++ R) = some (v, R) := by
 have e : nmE (numB v ++ R) mxN = 0 := by rw [nmE_numB v R mxN hm, if_neg (by unfold mxN; omega)]
 have hk := nmK_numB v R hm
 have hvv := nmV_numB v R hm
 have hl : (numB v ++ R).length - nmK (numB v ++ R) = R.length := by rw [hk, List.length_append]; omega
 have c : ctE (numB v ++ R) each = 0 := by
  unfold ctE
  rw [e, if_neg (by simp), hl, hvv, if_neg (by omega)]
 unfold pCnt
 rw [if_pos c, hvv, hk, List.drop_left]
end Go.Proofs.YtphohmoibnoeaaaGreat.U
