/- Print. -/
import Derived.Test.YtocfbanbphhhbaaDoorJPh
namespace Go.Proofs.YtocfbanbphhhbaaDoor
open Go.RowKit T Y V
variable {w w' w2 : World} {g : Nat}
attribute [local go_sem ↓] ldO_eq stO_eq ldHd_eq stHd_eq ldS_eq stS_eq

/-- a row of steps that is read -/
structure OSrc (w : World) (ao : Option Addr) (n c : Nat) (L : List Sp) : Prop where
  len : L.length = n
  nil : ao = none → n = 0 ∧ c = 0
  cell : ∀ ad, ao = some ad → ∀ t, t < n → OAt w (ad.add (t * 7)) (L.getD t sp0)
theorem OSrc.below {ao : Option Addr} {n c : Nat} {L : List Sp} (h : OSrc w ao n c L) (hb : Below w.heap.size w w') : OSrc w' ao n c L := ⟨h.len, h.nil, fun ad ha t ht => (h.cell ad ha t ht).on hb⟩
theorem OSrc.at {ao : Option Addr} {n c : Nat} {L : List Sp} (h : OSrc w ao n c L) (k : Nat) (hk : k < n) : ∃ ad, ao = some ad ∧ OAt w (ad.add (k * 7)) (L.getD k sp0) := by
  cases ao with
  | none => have := h.nil rfl; omega
  | some ad => exact ⟨ad, rfl, h.cell ad rfl k hk⟩
/-- how long the lines may be -/
def wtO (L : List Sp) : Nat := (L.map fun o => 16 * o.sku.size + 141).sum
theorem wtO_cons (o : Sp) (L : List Sp) : wtO (o :: L) = 16 * o.sku.size + 141 + wtO L := rfl
theorem wtO_len (L : List Sp) : 141 * L.length ≤ wtO L := by
  induction L with
  | nil => simp [wtO]
  | cons o L ih => rw [wtO_cons, List.length_cons]; omega
theorem opsT_len : ∀ {L : List Sp}, (∀ o, o ∈ L → Ok o) → (opsT L).length ≤ wtO L
  | [], _ => by simp [opsT]
  | o :: L, h => by
    have e : opsT (o :: L) = opT o ++ [10] ++ opsT L := by simp [opsT]
    have h1 := (h o (List.mem_cons_self ..)).opT
    have h2 := opsT_len (fun x hx => h x (List.mem_cons_of_mem _ hx))
    have h4 : ([10] : List UInt8).length = 1 := rfl
    rw [e, List.length_append, List.length_append, wtO_cons, h4]
    omega
/-- the lines -/
def lns (h : List UInt8) (L : List Sp) : List ByteArray := bs h :: L.map fun o => bs (opT o)
theorem lns_snoc (h : List UInt8) (L : List Sp) (o : Sp) : lns h (L ++ [o]) = lns h L ++ [bs (opT o)] := by simp [lns]
theorem turn10 : ∀ (X : List (List UInt8)), (X.map ([10] ++ ·)).flatten ++ [10] = [10] ++ (X.map (· ++ [10])).flatten
  | [] => rfl
  | x :: X => by
    have := turn10 X
    simp only [List.map_cons, List.flatten_cons, List.append_assoc] at this ⊢
    rw [this]
theorem lns_join (h : List UInt8) (L : List Sp) : Lib.join ((lns h L).map (·.data.toList)) [10] ++ [10] = h ++ [10] ++ opsT L := by
  have e : (L.map fun o => bs (opT o)).map (·.data.toList) = L.map opT := by
    rw [List.map_map]
    apply List.map_congr_left
    intro o _
    exact bs_list _
  have e2 : opsT L = ((L.map opT).map (· ++ [10])).flatten := by
    unfold opsT
    rw [List.map_map]
    rfl
  unfold lns
  rw [List.map_cons, e, join_sp, bs_list, List.append_assoc, turn10, e2, List.append_assoc]
theorem take_op (L : List Sp) (k : Nat) (h : k < L.length) : L.take (k + 1) = L.take k ++ [L.getD k sp0] := by
  rw [List.take_succ_eq_append_getElem h]; simp [List.getD, h]
theorem Pl.len {h : List UInt8} {L : List Sp} : (Lib.join ((lns h L).map (·.data.toList)) [10]).length + 1 = (h ++ [10] ++ opsT L).length := by
  rw [← lns_join, List.length_append]
  rfl
set_option maxRecDepth 100000 in
set_option maxHeartbeats 3200000 in
theorem print_any (a b c d e f : Int) (so : Option Addr) (n sc : Nat) (L : List Sp) (w : World) (h : ∀ n, n ∈ [a, b, c, d, e, f] → R64 n) (hS : OSrc w so n sc L) (hL : ∀ o, o ∈ L → Ok o) (hw : wtO L ≤ 100000000000000) (ht : Tab w) (hs : Sht w) :
    Calls Tryd.prog 13 #[.agg #[.int .i64 a, .int .i64 b, .int .i64 c, .int .i64 d, .int .i64 e, .int .i64 f, .slice so n sc]] w fun r w' => r = .returned (.string (bs (printT [a, b, c, d, e, f] L))) ∧ Below w.heap.size w w' := by
  obtain ⟨w1, hw1⟩ : ∃ w1, w.alloc (.cells #[.int .i64 a, .int .i64 b, .int .i64 c, .int .i64 d, .int .i64 e, .int .i64 f, .slice so n sc] 26) = w1 := ⟨_, rfl⟩
  have hx : SBox w1 w.heap.size ⟨a, b, c, d, e, f, so, n, sc⟩ := by rw [← hw1]; exact SBox_new w ⟨a, b, c, d, e, f, so, n, sc⟩
  have hb1 : Below w.heap.size w w1 := by rw [← hw1]; exact below_new _ _
  have hhd : HdAt w1 ⟨w.heap.size, 0, none⟩ ⟨a, b, c, d, e, f⟩ := ⟨hx.c0, by rw [Addr.add_lit]; exact hx.c1, by rw [Addr.add_lit]; exact hx.c2, by rw [Addr.add_lit]; exact hx.c3, by rw [Addr.add_lit]; exact hx.c4, by rw [Addr.add_lit]; exact hx.c5⟩
  have hld : (ldHd (.pointer (some ⟨w.heap.size, 0, none⟩))).run Tryd.prog w1 = .ok (.agg #[.int .i64 a, .int .i64 b, .int .i64 c, .int .i64 d, .int .i64 e, .int .i64 f]) w1 := run_laHd hhd
  obtain ⟨H, hH⟩ : ∃ H, storeL ++ numsT [a, b, c, d, e, f] = H := ⟨_, rfl⟩
  have HHl : Hid (H.length ≤ 200) := by show _ ≤ _; rw [← hH, List.length_append]; have := numsT_len h; simp [storeL] at *; omega
  have hC := printHead_any a b c d e f w1 h (ht.on hb1)
  rw [hH] at hC
  have HC := hide hC
  have HPT : Hid (printT [a, b, c, d, e, f] L = H ++ [10] ++ opsT L) := by show _ = _; unfold printT; rw [hH]
  have HX := hide hx
  have HB := hide hb1
  have HT := hide ht
  have HSt := hide hs
  have HS := hide hS
  have HL := hide hL
  have hlen := hS.len
  have HOl := hide (opsT_len hL)
  have hwl := wtO_len L
  clear hx hb1 hhd hC ht hs hS hL h hH
  go_enter Tryd.func13, Tryd.ntmps13
  go_wp2_with (go_at_call 27; refine HC.out.mono ?_; rintro r w2 ⟨rfl, b2⟩; obtain ⟨w3, hw3⟩ : ∃ w3, w2.alloc (.cells #[.string (bs H)] 9) = w3 := ⟨_, rfl⟩; have bw2 := HB.out.trans (b2.mono HB.out.size); have b3 : Below w2.heap.size w2 w3 := (by rw [← hw3]; exact below_new _ _); have HB3 := hide (bw2.trans (b3.mono bw2.size)); have HR3 : Hid (SR w3 (some ⟨w2.heap.size, 0, none⟩) 1 1 (lns H [])) := (by show SR _ _ _ _ _; rw [← hw3]; exact SR_one w2 _); have c6 := ((HX.out.below b2).below b3).c6; simp only at c6; have HZ2 : Hid (w.heap.size ≤ w2.heap.size) := bw2.size; clear b2 bw2 b3)
  go_loopw [3, 13] (fun t v wr => ∃ (k m cc : Nat) (bo : Option Addr), k ≤ n ∧ v = .int .i64 (k : Int) ∧ t = .slice bo m cc ∧ m ≤ n + 1 ∧ Hid (m = k + 1) ∧ Hid (SR wr bo m cc (lns H (L.take k))) ∧ Hid (Below w.heap.size w wr) ∧ Hid (∀ j, blk bo = some j → w.heap.size ≤ j)) (fun _ v _ => n - (intOf v).toNat)
  case atStart => exact ⟨0, 1, 1, _, by omega, rfl, rfl, by omega, rfl, HR3, HB3, (fun j hj => by have := Option.some.inj hj; have := HZ2.out; simp only at *; omega)⟩
  case round =>
    clear HR3 HB3 HC
    obtain ⟨k, m, cc, bo, hk, rfl, rfl, hmn, Hm, HR, HBr, HK⟩ := hrel
    by_cases hlt : k < n
    · obtain ⟨ad, rfl, x⟩ := (HS.out.below HBr.out).at k hlt
      have HE := hide (take_op L k (by omega))
      obtain ⟨y, hy⟩ : ∃ y, L.getD k sp0 = y := ⟨_, rfl⟩
      have hok : Ok y := HL.out y (by rw [← hy]; simp [List.getD, show k < L.length by omega])
      rw [hy] at x HE
      have x0 : (ldO (.pointer (some (ad.add (k * 7))))).run Tryd.prog wr = .ok (.agg (OC y)) wr := run_laO x
      obtain ⟨w5, hst, hbx, hbl, -⟩ := madeO wr y wr.heap.size rfl
      have hst' : (stO (.pointer (some ⟨wr.heap.size, 0, none⟩)) (.agg (OC y))).run Tryd.prog (wr.alloc (.cells #[.int .i64 0, .int .i64 0, .int .i64 0, .int .i64 0, .string ⟨#[]⟩, .int .i64 0, .int .i64 0] 31)) = .ok () w5 := hst
      have hld5 : (ldO (.pointer (some ⟨wr.heap.size, 0, none⟩))).run Tryd.prog w5 = .ok (.agg (OC y)) w5 := run_ldO hbx
      have HB5 := hide (HBr.out.trans (hbl.mono HBr.out.size))
      have HR5 := hide (SR_below HR.out hbl)
      have HP := hide (printOp_any y w5 hok (HT.out.on HB5.out) (HSt.out.on HB5.out))
      clear hst hbx hbl x hok hy
      go_wp2_with (first | (go_at_call 11; refine HP.out.mono ?_; rintro r w6 ⟨rfl, b6⟩; have HR6 := hide (SR_below HR5.out b6); have HB6 := hide (HB5.out.trans (b6.mono HB5.out.size))) | (at_builtin; refine HR6.out.app1 (bs (opT y)) (by omega) rfl (.tmp 17) (.tmp 20) rfl rfl rfl ?_; intro b7 q7 w7 R7 A7; have HB7 := hide (below_ap HB6.out HB6.out.size A7 HK.out); have HK7 := hide (fresh_ap A7 HB6.out.size HK.out); rw [← lns_snoc, ← HE.out] at R7; have HR7 := hide R7; clear R7 A7))
      go_roundw
      case rel => exact ⟨k + 1, m + 1, q7, b7, by omega, by go_num, rfl, by have := Hm.out; omega, by show _ = _; have := Hm.out; omega, HR7, HB7, HK7⟩
      case measure => simp [intOf]; omega
    · obtain rfl : k = n := by omega
      have HF : Hid (L.take k = L) := List.take_of_length_le (by omega)
      have R6 := HR.out
      rw [HF.out] at R6
      have hpl := Pl.len (h := H) (L := L)
      rw [List.length_append, List.length_append] at hpl
      have h10 : ([10] : List UInt8).length = 1 := rfl
      have hjl : (Lib.join ((lns H L).map (·.data.toList)) [10]).length ≤ 140737488355328 := by have := HHl.out; have := HOl.out; omega
      have HJ := hide (joinS R6 (by have := Hm.out; omega) (by omega) [10] hjl)
      have hjs : (bs (Lib.join ((lns H L).map (·.data.toList)) [10])).size ≤ 140737488355328 := by rw [bs_size]; exact hjl
      have HPj : Hid (bs (Lib.join ((lns H L).map (·.data.toList)) [10]) ++ bs [10] = bs (printT [a, b, c, d, e, f] L)) := by show _ = _; rw [bs_app, lns_join, HPT.out]
      have hs10 : (⟨#[10]⟩ : ByteArray).size = 1 := rfl
      clear R6 hpl hjl
      go_wp2_with (go_at_call 24; refine HJ.out.mono ?_; rintro r w9 ⟨rfl, b9⟩)
      go_ret
      exact ⟨ret_str HPj.out, HBr.out.trans (b9.mono HBr.out.size)⟩
end Go.Proofs.YtocfbanbphhhbaaDoor
