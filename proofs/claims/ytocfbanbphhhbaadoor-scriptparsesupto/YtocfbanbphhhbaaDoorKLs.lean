/- ScriptParses: the law. -/
import Derived.Test.YtocfbanbphhhbaaDoorKRh
import Derived.Test.YtocfbanbphhhbaaDoorKEl
import Derived.Test.YtocfbanbphhhbaaDoorKAw
import Derived.OrdersHeld
namespace Go.Proofs.YtocfbanbphhhbaaDoor
open Go.RowKit T Y V
variable {w w' w2 : World} {g : Nat}
attribute [local go_sem ↓] ldO_eq stO_eq ldS_eq stS_eq ldHd_eq stHd_eq

theorem PaA.ok {h : List Int} {L : List Sp} {e : Ending} (A : PaA w w' (.ok h L) e) : ∃ so n c, e = .returned (.tuple #[.agg (SC (scOf (hdL h) so n c)), .int .i64 0, .int .i64 0]) ∧ OR w' so n c L ∧ ∀ k, blk so = some k → w.heap.size ≤ k := A
def rdO : Sp := ⟨7, 1, 0, 0, ⟨#[]⟩, 0, 0⟩
def rdL : List UInt8 := [114, 101, 97, 100, 32, 49, 32, 48]
theorem rd_line : opT rdO = rdL := by
  have e0 : num 0 = [48] := num_small 0 (by decide)
  have e1 : num 1 = [49] := num_small 1 (by decide)
  have h1 : wrdL rdO.kind = [114, 101, 97, 100] := by decide
  have h2 : fdsL rdO.kind = [114, 99] := by decide
  unfold opT
  rw [h1, h2]
  simp [fdsT, fdT, fdN, rdO, e0, e1, rdL]
theorem rd_ok : Ok rdO := by
  have h : ∀ f, fdN rdO f = 7 ∨ fdN rdO f = 1 ∨ fdN rdO f = 0 := by
    intro f
    unfold fdN
    simp only [rdO]
    repeat' split
    all_goals simp
  exact ⟨fun f => by have := h f; omega, fun f => by have := h f; omega, by decide⟩
theorem rd_parse : parseOpP rdL = some rdO := by
  rw [← rd_line, parse_print rdO rd_ok]
  rfl
def stN : List Int := [2, 1, 10, 100, 4, 8]
def stL : List UInt8 := [115, 116, 111, 114, 101, 32, 50, 32, 49, 32, 49, 48, 32, 49, 48, 48, 32, 52, 32, 56]
theorem num_two (u : Nat) (h : 10 ≤ u) (h2 : u < 100) : num (u : Int) = [UInt8.ofNat (48 + u / 10), UInt8.ofNat (48 + u % 10)] := by
  unfold num Lib.itoa
  rw [if_neg (by omega), Int.toNat_natCast, Lib.decDigits, dif_neg (by omega), Lib.decDigits, dif_pos (by omega)]
  rfl
theorem num_three (u : Nat) (h : 100 ≤ u) (h2 : u < 1000) : num (u : Int) = [UInt8.ofNat (48 + u / 10 / 10), UInt8.ofNat (48 + u / 10 % 10), UInt8.ofNat (48 + u % 10)] := by
  unfold num Lib.itoa
  rw [if_neg (by omega), Int.toNat_natCast, Lib.decDigits, dif_neg (by omega), Lib.decDigits, dif_neg (by omega), Lib.decDigits, dif_pos (by omega)]
  rfl
theorem st_line : storeL ++ numsT stN = stL := by
  have e1 : num 1 = [49] := num_small 1 (by decide)
  have e2 : num 2 = [50] := num_small 2 (by decide)
  have e4 : num 4 = [52] := num_small 4 (by decide)
  have e8 : num 8 = [56] := num_small 8 (by decide)
  have e10 : num 10 = [49, 48] := num_two 10 (by decide) (by decide)
  have e100 : num 100 = [49, 48, 48] := num_three 100 (by decide) (by decide)
  have hs : storeL = [115, 116, 111, 114, 101] := rfl
  rw [hs]
  simp [numsT, stN, stL, e1, e2, e4, e8, e10, e100]
theorem lit_parse : parseP (stL ++ 10 :: rdL) = .ok stN [rdO] := by
  have hl := line_app (a := stL) (by decide) rdL
  have h1 : takeP ⟨none, []⟩ (lineOf (stL ++ 10 :: rdL)) = some ⟨some stN, []⟩ := by
    rw [hl.1, ← st_line]
    unfold takeP
    rw [cut_store]
    simp only
    rw [head_store stN rfl (by decide)]
    rfl
  unfold parseP
  rw [parseT_go (by simp) h1, hl.2, parse_op_last rd_parse]
  rfl
theorem parse_lenT : ∀ (m : Nat) (t : List UInt8), t.length ≤ m → ∀ (r : Rd) (k : Nat) (h : List Int) (L : List Sp), parseT r k t = .ok h L → L.length ≤ r.ops.length + t.length := by
  intro m
  induction m with
  | zero =>
    intro t ht r k h L hp
    obtain rfl : t = [] := List.length_eq_zero_iff.1 (by omega)
    rw [parseT_nil] at hp
    cases hh : r.hd with
    | none => rw [hh] at hp; cases hp
    | some x => rw [hh] at hp; cases hp; omega
  | succ m ih =>
    intro t ht r k h L hp
    by_cases h0 : t = []
    · subst h0
      rw [parseT_nil] at hp
      cases hh : r.hd with
      | none => rw [hh] at hp; cases hp
      | some x => rw [hh] at hp; cases hp; omega
    · cases htk : takeP r (lineOf t) with
      | none => rw [parseT_bad h0 htk] at hp; cases hp
      | some r' =>
        rw [parseT_go h0 htk] at hp
        have hr := rest_lt h0
        have := ih (restOf t) (by omega) r' (k + 1) h L hp
        have hr' : r'.ops.length ≤ r.ops.length + 1 := by
          unfold takeP at htk
          split at htk
          · cases htk
          · cases htk; omega
          · split at htk
            · obtain ⟨x, _, rfl⟩ := Option.map_eq_some_iff.1 htk; exact Nat.le_succ _
            · obtain ⟨x, _, rfl⟩ := Option.map_eq_some_iff.1 htk; simp
        omega
theorem parse_len {t : List UInt8} {h : List Int} {L : List Sp} (hp : parseP t = .ok h L) : L.length ≤ t.length := by
  have := parse_lenT t.length t (Nat.le_refl _) _ _ h L hp
  simpa using this
set_option maxRecDepth 100000 in
set_option maxHeartbeats 3200000 in
theorem parses_any (T : List UInt8) (hT : T.length ≤ 100000000000) (w : World) (hu : Un w) :
    Calls Tryd.prog 3 #[.string (bs T)] w fun r w' => r = .returned (.bool true) ∧ Below w.heap.size w w' := by
  have HC : Hid (Calls Tryd.prog 6 #[.string ⟨#[115, 116, 111, 114, 101, 32, 50, 32, 49, 32, 49, 48, 32, 49, 48, 48, 32, 52, 32, 56, 10, 114, 101, 97, 100, 32, 49, 32, 48]⟩] w fun e w' => (∃ so c, e = .returned (.tuple #[.agg (SC ⟨2, 1, 10, 100, 4, 8, so, 1, c⟩), .int .i64 0, .int .i64 0]) ∧ OR w' so 1 c [rdO]) ∧ Below w.heap.size w w') := by
    refine (parse_any (stL ++ 10 :: rdL) (by decide) w hu).mono ?_
    rintro e w' ⟨h, hb⟩
    rw [lit_parse] at h
    obtain ⟨so, n, c, he, hO, -⟩ := PaA.ok h
    obtain rfl : n = 1 := hO.len.symm
    exact ⟨⟨so, c, he, hO⟩, hb⟩
  have HP := hide (fun v (hv : Un v) => parse_any T hT v hv)
  have HR := hide (fun v => rparse_any T hT v)
  have HU := hide hu
  obtain ⟨s, hs⟩ : ∃ s, bs T = s := ⟨_, rfl⟩
  rw [hs] at HP HR ⊢
  clear hs hu
  go_enter Tryd.func3, Tryd.ntmps3
  go_wp2_with fail
  refine HC.out.mono ?_
  rintro e w1 ⟨⟨so, c, rfl, hO1⟩, b1⟩
  obtain ⟨w2, hst2, hx2, hb2, -⟩ := madeS w1 ⟨2, 1, 10, 100, 4, 8, so, 1, c⟩ w1.heap.size rfl
  have hst2' : (stS (.pointer (some ⟨w1.heap.size, 0, none⟩)) (.agg (SC ⟨2, 1, 10, 100, 4, 8, so, 1, c⟩))).run Tryd.prog (w1.alloc (.cells #[.int .i64 0, .int .i64 0, .int .i64 0, .int .i64 0, .int .i64 0, .int .i64 0, .slice none 0 0] 26)) = .ok () w2 := hst2
  have c2 := hx2.c2
  have c6 := hx2.c6
  obtain ⟨b, rfl, hA⟩ := (hO1.below hb2).at 0 (by omega)
  have d0 : w2.cell? ⟨b, 0, none⟩ = some (.int .i64 7) := hA.c0
  have HB2 := hide (b1.trans (hb2.mono b1.size))
  have HX2 := hide hx2
  have HL1 : Hid (w.heap.size ≤ w1.heap.size) := b1.size
  clear hst2 hx2 hb2 hO1 b1 hA HC
  go_wp2_with fail
  refine (HP.out w2 (HU.out.on HB2.out)).mono ?_
  rintro e w3 ⟨hPa, b3⟩
  have HB3 := hide (HB2.out.trans (b3.mono HB2.out.size))
  have hx3 := HX2.out.below b3
  have HX3 := hide hx3
  have HZl : Hid (w1.heap.size < w2.heap.size) := HX2.out.lt
  clear hst2' c2 c6 d0 HX2 HB2 hx3
  cases hq : parseP T with
  | bad j =>
    rw [hq] at hPa HR
    obtain rfl : e = _ := hPa
    obtain ⟨w4, hst4, hx4, k4⟩ := sc_put (o := sc0) HX3.out
    have HB4 : Hid (Below w.heap.size w w4) := HB3.out.trans (k4.below HL1.out HB3.out.size)
    have HX4 := hide hx4
    clear hx4 k4 b3 hq
    go_wp2_with fail
    refine (HR.out w4).mono ?_
    rintro e w5 ⟨hPb, b5⟩
    obtain rfl : e = _ := hPb
    obtain ⟨w6, hst6, hx6, hb6, -⟩ := madeS w5 sc0 w5.heap.size rfl
    have hst6' : (stS (.pointer (some ⟨w5.heap.size, 0, none⟩)) (.agg (SC sc0))).run Tryd.prog (w5.alloc (.cells #[.int .i64 0, .int .i64 0, .int .i64 0, .int .i64 0, .int .i64 0, .int .i64 0, .slice none 0 0] 26)) = .ok () w6 := hst6
    have hld6 := run_ldS hx6
    have hld4 := run_ldS ((HX4.out.below b5).below hb6)
    have bw5 := HB4.out.trans (b5.mono HB4.out.size)
    have HB6 := hide (bw5.trans (hb6.mono bw5.size))
    have HEq := hide (equal_true 0 0 0 0 0 0 none 0 0 none 0 0 [] w6 (OR.nil w6).src (OR.nil w6).src (by omega))
    clear hst6 hx6 hb6 b5 bw5
    go_wp2_with fail
    refine HEq.out.mono ?_
    rintro e w7 ⟨rfl, b7⟩
    clear HEq
    go_wp2_with fail
    go_ret
    exact ⟨rfl, HB6.out.trans (b7.mono HB6.out.size)⟩
  | ok hd L =>
    rw [hq] at hPa HR
    obtain ⟨so1, n1, c1, rfl, hO1, hF1⟩ := PaA.ok hPa
    obtain ⟨⟨a0, a1, a2, a3, a4, a5⟩, hdd⟩ : ∃ m, hdL hd = m := ⟨_, rfl⟩
    rw [hdd]
    obtain ⟨w4, hst4, hx4, k4⟩ := sc_put (o := ⟨a0, a1, a2, a3, a4, a5, so1, n1, c1⟩) HX3.out
    have hst4' : (stS (.pointer (some ⟨w1.heap.size, 0, none⟩)) (.agg (SC (scOf ⟨a0, a1, a2, a3, a4, a5⟩ so1 n1 c1)))).run Tryd.prog w3 = .ok () w4 := hst4
    have HB4 : Hid (Below w.heap.size w w4) := HB3.out.trans (k4.below HL1.out HB3.out.size)
    have HX4 := hide hx4
    have HO4 : Hid (OR w4 so1 n1 c1 L) := hO1.keep fun k e => k4.gr.block k (hO1.lt k e) (by intro e2; have h1 := Option.some.inj e2; have h2 := hF1 k e; have := HZl.out; omega)
    have HLl : Hid (L.length ≤ 1000000000000) := by
      show _ ≤ _
      have := parse_len hq
      omega
    have Hdd := hide hdd
    clear hx4 k4 b3 hq hO1 hF1 hPa hst4 hdd
    go_wp2_with fail
    refine (HR.out w4).mono ?_
    rintro e w5 ⟨hPb, b5⟩
    obtain ⟨so2, n2, c2, rfl, hO2, -⟩ := PaA.ok hPb
    rw [Hdd.out]
    obtain ⟨w6, hst6, hx6, hb6, -⟩ := madeS w5 ⟨a0, a1, a2, a3, a4, a5, so2, n2, c2⟩ w5.heap.size rfl
    have hst6' : (stS (.pointer (some ⟨w5.heap.size, 0, none⟩)) (.agg (SC (scOf ⟨a0, a1, a2, a3, a4, a5⟩ so2 n2 c2)))).run Tryd.prog (w5.alloc (.cells #[.int .i64 0, .int .i64 0, .int .i64 0, .int .i64 0, .int .i64 0, .int .i64 0, .slice none 0 0] 26)) = .ok () w6 := hst6
    have hld6 := run_ldS hx6
    have hld4 := run_ldS ((HX4.out.below b5).below hb6)
    have bw5 := HB4.out.trans (b5.mono HB4.out.size)
    have HB6 := hide (bw5.trans (hb6.mono bw5.size))
    have HEq := hide (equal_true a0 a1 a2 a3 a4 a5 so1 n1 c1 so2 n2 c2 L w6 ((HO4.out.below b5).below hb6).src (hO2.below hb6).src (by rw [← HO4.out.len]; exact HLl.out))
    clear hst6 hx6 hb6 b5 bw5 hO2 hPb hst4'
    go_wp2_with fail
    refine HEq.out.mono ?_
    rintro e w7 ⟨rfl, b7⟩
    clear HEq
    go_wp2_with fail
    go_ret
    exact ⟨rfl, HB6.out.trans (b7.mono HB6.out.size)⟩
theorem parses_str (a : ByteArray) (ha : a.size ≤ 100000000000) (w : World) (hu : Un w) : Calls Tryd.prog 3 #[.string a] w fun r w' => r = .returned (.bool true) ∧ Below w.heap.size w w' := by
  have := parses_any a.data.toList (by simpa using ha) w hu
  rwa [bs_of] at this
end Go.Proofs.YtocfbanbphhhbaaDoor
