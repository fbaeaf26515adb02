/- ScriptFirst: the law. -/
import Derived.Test.YtmemcnjabnpdmabDoorKUt
namespace Go.Proofs.YtmemcnjabnpdmabDoor
open Go.RowKit T Y V
variable {w w' w2 : World} {g : Nat}
attribute [local go_sem ↓] ldO_eq stO_eq ldS_eq stS_eq ldHd_eq stHd_eq

theorem dec_two (u : Nat) (h0 : 10 ≤ u) (h1 : u < 100) : Lib.decDigits u = [UInt8.ofNat (48 + u / 10), UInt8.ofNat (48 + u % 10)] := by
  rw [Lib.decDigits, dif_neg (by omega), Lib.decDigits, dif_pos (by omega)]
  rfl
theorem num_ten : num 10 = [49, 48] := by
  show Lib.itoa 10 = _
  unfold Lib.itoa
  rw [if_neg (by omega)]
  exact dec_two 10 (by decide) (by decide)
theorem num_hundred : num 100 = [49, 48, 48] := by
  show Lib.itoa 100 = _
  unfold Lib.itoa
  rw [if_neg (by omega)]
  show Lib.decDigits 100 = _
  rw [Lib.decDigits, dif_neg (by decide)]
  show Lib.decDigits 10 ++ _ = _
  rw [dec_two 10 (by decide) (by decide)]
  rfl
def fiH : List Int := [2, 1, 10, 100, 4, 8]
theorem fi_head : storeL ++ numsT fiH = [115, 116, 111, 114, 101, 32, 50, 32, 49, 32, 49, 48, 32, 49, 48, 48, 32, 52, 32, 56] := by
  have e1 : num 1 = [49] := num_small 1 (by decide)
  have e2 : num 2 = [50] := num_small 2 (by decide)
  have e4 : num 4 = [52] := num_small 4 (by decide)
  have e8 : num 8 = [56] := num_small 8 (by decide)
  simp [numsT, fiH, storeL, e1, e2, e4, e8, num_ten, num_hundred]
theorem fi_hd : ∀ n ∈ fiH, -9223372036854775808 ≤ n ∧ n ≤ 9223372036854775807 := by decide
theorem fi_take : takeP ⟨none, []⟩ (storeL ++ numsT fiH) = some ⟨some fiH, []⟩ := by
  unfold takeP
  rw [cut_store]
  simp only
  rw [head_store fiH rfl fi_hd]
  rfl
def fiL : List UInt8 := [115, 116, 111, 114, 101, 32, 50, 32, 49, 32, 49, 48, 32, 49, 48, 48, 32, 52, 32, 56, 10, 114, 97, 101, 100, 32, 49, 32, 48, 10, 114, 101, 97, 100, 32, 49, 32, 48]
theorem wordy_list {w : List UInt8} (h : (w != []) = true) (h2 : w.all (fun c => !gapB c && c != 34) = true) : Wordy w := by
  refine wordy_plain (by simpa using h) fun c hc => ?_
  have := List.all_eq_true.1 h2 c hc
  simpa using this
theorem fi_cut : cutP [114, 97, 101, 100, 32, 49, 32, 48] = some [[114, 97, 101, 100], [49], [48]] := by
  have := cutP_words (w := [114, 97, 101, 100]) (ws := [[49], [48]]) (wordy_list (by decide) (by decide)) (fun x hx => by
    simp only [List.mem_cons, List.not_mem_nil, or_false] at hx
    rcases hx with rfl | rfl <;> exact wordy_list (by decide) (by decide)) (by decide)
  exact this
theorem fi_step : stepP [[114, 97, 101, 100], [49], [48]] = none := by
  unfold stepP
  have : kindIx [114, 97, 101, 100] = none := by decide
  simp only
  rw [this]
  rfl
theorem fi_parse : parseP fiL = .bad 2 := by
  have e : fiL = (storeL ++ numsT fiH) ++ 10 :: ([114, 97, 101, 100, 32, 49, 32, 48] ++ 10 :: [114, 101, 97, 100, 32, 49, 32, 48]) := by rw [fi_head]; rfl
  have h1 := line_app (store_no10 fiH) ([114, 97, 101, 100, 32, 49, 32, 48] ++ 10 :: [114, 101, 97, 100, 32, 49, 32, 48])
  have h2 := line_app (a := [114, 97, 101, 100, 32, 49, 32, 48]) (by decide) [114, 101, 97, 100, 32, 49, 32, 48]
  unfold parseP
  rw [e, parseT_go (by simp) (by rw [h1.1]; exact fi_take), h1.2]
  refine parseT_bad (by simp) ?_
  rw [h2.1]
  unfold takeP
  rw [fi_cut]
  simp only
  rw [fi_step]
  rfl
theorem OSrc_none (w : World) : OSrc w none 0 0 [] := ⟨rfl, fun _ => ⟨rfl, rfl⟩, (fun ad h => by cases h)⟩
theorem equal_zero (w : World) : Calls Tryd.prog 10 #[.agg (SC sc0), .agg #[.int .i64 0, .int .i64 0, .int .i64 0, .int .i64 0, .int .i64 0, .int .i64 0, .slice none 0 0]] w fun r w' => r = .returned (.bool true) ∧ Below w.heap.size w w' :=
  equal_true 0 0 0 0 0 0 none 0 0 none 0 0 [] w (OSrc_none w) (OSrc_none w) (by decide)
theorem madeS' (w : World) (m : Sc) : ∃ w', (stS (.pointer (some ⟨w.heap.size, 0, none⟩)) (.agg (SC m))).run Tryd.prog (w.alloc (.cells #[.int .i64 0, .int .i64 0, .int .i64 0, .int .i64 0, .int .i64 0, .int .i64 0, .slice none 0 0] 26)) = .ok () w' ∧ SBox w' w.heap.size m ∧ Below w.heap.size w w' := by
  obtain ⟨w', h1, h2, h3, -⟩ := madeS w m w.heap.size rfl
  exact ⟨w', h1, h2, h3⟩
set_option maxRecDepth 100000 in
set_option maxHeartbeats 6400000 in
theorem first_any (T : List UInt8) (hT : T.length ≤ 10000000000) (w : World) (hu : Un w) : Calls Tryd.prog 4 #[.string (bs T)] w fun r w' => r = .returned (.bool true) ∧ Below w.heap.size w w' := by
  have HU := hide hu
  have HP := hide (fun X (hX : X.length ≤ 100000000000) v (u : Un v) => parse_gen X hX v u)
  have h1 := parse_gen fiL (by decide) w hu
  rw [fi_parse] at h1
  have H1 : Hid (Calls Tryd.prog 9 #[.string ⟨#[115, 116, 111, 114, 101, 32, 50, 32, 49, 32, 49, 48, 32, 49, 48, 48, 32, 52, 32, 56, 10, 114, 97, 101, 100, 32, 49, 32, 48, 10, 114, 101, 97, 100, 32, 49, 32, 48]⟩] w fun e w' => (∃ m : Sc, e = .returned (.tuple #[.agg (SC m), .int .i64 2, .int .i64 17]) ∧ ∀ n, Pr.bad 2 = .bad n → m = sc0) ∧ Below w.heap.size w w') := h1
  clear h1 hu
  cases hp : parseP T with
  | ok h L =>
    have H2 : Hid (∀ v, Un v → Calls Tryd.prog 9 #[.string (bs T)] v fun e w' => (∃ m : Sc, e = .returned (.tuple #[.agg (SC m), .int .i64 0, .int .i64 0])) ∧ Below v.heap.size v w') := fun v u => (HP.out T (by omega) v u).mono fun e w' ⟨⟨m, he, _⟩, hb⟩ => ⟨⟨m, by rw [hp] at he; exact he⟩, hb⟩
    clear hp HP
    go_enter Tryd.func4, Tryd.ntmps4
    go_wp2_with fail
    refine H1.out.mono ?_
    rintro e w1 ⟨⟨m1, rfl, -⟩, b1⟩
    obtain ⟨w2, hst2, -, b2⟩ := madeS' w1 m1
    have HB2 := hide (b1.trans (b2.mono b1.size))
    go_wp2_with fail
    refine (H2.out _ (HU.out.on HB2.out)).mono ?_
    rintro e w3 ⟨⟨m3, rfl⟩, b3⟩
    obtain ⟨w4, hst4, -, b4⟩ := madeS' w3 m3
    have bw3 := HB2.out.trans (b3.mono HB2.out.size)
    have HB4 := hide (bw3.trans (b4.mono bw3.size))
    go_wp2_with fail
    go_ret
    exact ⟨rfl, HB4.out⟩
  | bad n =>
    obtain ⟨hn0, hb2, hb3⟩ := parse_first _ T (Nat.le_refl _) ⟨none, []⟩ 0 n hp
    have hnl := parse_bad_le _ T (Nat.le_refl _) ⟨none, []⟩ 0 n hp
    have hul : ∀ k, (upL k T).length ≤ T.length := fun k => by
      have gen : ∀ (t : List UInt8) (k : Nat), (upL k t).length ≤ t.length := by
        intro t
        induction t with
        | nil => intro k; cases k <;> simp [upL]
        | cons c t ih =>
          intro k
          cases k with
          | zero => simp [upL]
          | succ k =>
            rw [upL]
            split
            · have := ih k; simp; omega
            · have := ih (k + 1); simp; omega
      exact gen T k
    have hn2 : n ≤ 10000000002 := by omega
    have H2 : Hid (∀ v, Un v → Calls Tryd.prog 9 #[.string (bs T)] v fun e w' => e = .returned (.tuple #[.agg (SC sc0), .int .i64 (n : Int), .int .i64 17]) ∧ Below v.heap.size v w') := fun v u => (HP.out T (by omega) v u).mono fun e w' ⟨⟨m, he, hm⟩, hb⟩ => ⟨by rw [hm n hp, hp] at he; exact he, hb⟩
    have e3 : parseP (upL n T) = .bad n := hb2
    have H3 : Hid (∀ v, Un v → Calls Tryd.prog 9 #[.string (bs (upL n T))] v fun e w' => (∃ m : Sc, e = .returned (.tuple #[.agg (SC m), .int .i64 (n : Int), .int .i64 17])) ∧ Below v.heap.size v w') := fun v u => (HP.out (upL n T) (by have := hul n; omega) v u).mono fun e w' ⟨⟨m, he, _⟩, hb⟩ => ⟨⟨m, by rw [e3] at he; exact he⟩, hb⟩
    have HV := hide (fun v => upTo_any T (by omega) n (by omega) v)
    obtain ⟨p, hp1⟩ : ∃ p, n - 1 = p := ⟨_, rfl⟩
    have HV2 := hide (fun v => upTo_any T (by omega) p (by omega) v)
    have HQ : Hid ((n : Int) - 1 = (p : Int)) := by show _ = _; omega
    have hqw : wrap64 ((n : Int) - 1) = (p : Int) := by rw [w64 (by omega) (by omega)]; omega
    have hqv : (n : Int) - 1 = (p : Int) := by omega
    have h1n : ¬ (n : Int) < 1 := by omega
    have hb3' : parseP (upL p T) = .bad n ∨ ∃ h L, parseP (upL p T) = .ok h L := by
      have := hb3
      rw [show n - 0 - 1 = p by omega] at this
      exact this
    have H4 := hide (fun v (u : Un v) => HP.out (upL p T) (by have := hul p; omega) v u)
    obtain ⟨U, hU⟩ : ∃ U, bs (upL n T) = U := ⟨_, rfl⟩
    obtain ⟨U2, hU2⟩ : ∃ U2, bs (upL p T) = U2 := ⟨_, rfl⟩
    have hn0I : ((n : Int) == 0) = false := by rw [beq_eq_false_iff_ne]; omega
    rw [hU] at H3 HV
    rw [hU2] at H4 HV2
    clear hp HP hn0 hb2 hb3 hnl hul e3 hp1 hU hU2
    rcases hb3' with hq | ⟨hh, LL, hq⟩
    all_goals
      rw [hq] at H4
      clear hq
      go_enter Tryd.func4, Tryd.ntmps4
      go_wp2_with fail
      refine H1.out.mono ?_
      rintro e w1 ⟨⟨m1, rfl, -⟩, b1⟩
      obtain ⟨w2, hst2, -, b2⟩ := madeS' w1 m1
      have HB2 := hide (b1.trans (b2.mono b1.size))
      clear b1 b2
      go_wp2_with fail
      refine (H2.out _ (HU.out.on HB2.out)).mono ?_
      rintro e w3 ⟨rfl, b3⟩
      obtain ⟨w4, hst4, hx4, b4⟩ := madeS' w3 sc0
      have hld4 := run_ldS hx4
      have bw3 := HB2.out.trans (b3.mono HB2.out.size)
      have HB4 := hide (bw3.trans (b4.mono bw3.size))
      clear b3 b4 bw3 hx4 hst2
      go_wp2_with fail
      refine (equal_zero _).mono ?_
      rintro e w5 ⟨rfl, b5⟩
      have HB5 := hide (HB4.out.trans (b5.mono HB4.out.size))
      clear b5 hst4 hld4
      go_wp2_with fail
      refine (HV.out _).mono ?_
      rintro e w6 ⟨rfl, h6⟩
      subst w6
      go_wp2_with fail
      refine (H3.out _ (HU.out.on HB5.out)).mono ?_
      rintro e w7 ⟨⟨m7, rfl⟩, b7⟩
      obtain ⟨w8, hst8, -, b8⟩ := madeS' w7 m7
      have bw7 := HB5.out.trans (b7.mono HB5.out.size)
      have HB8 := hide (bw7.trans (b8.mono bw7.size))
      clear b7 b8 bw7
      go_wp2_with fail
      refine (HV2.out _).mono ?_
      rintro e w9 ⟨rfl, h9⟩
      subst w9
      go_wp2_with fail
      refine (H4.out _ (HU.out.on HB8.out)).mono ?_
      rintro e w10 ⟨⟨m10, rfl, -⟩, b10⟩
      have HB10 := hide (HB8.out.trans (b10.mono HB8.out.size))
      clear b10
      simp only [prN, prE]
      go_wp2_with fail
      go_ret
      exact ⟨rfl, HB10.out⟩
theorem first_str (s : ByteArray) (hs : s.size ≤ 10000000000) (w : World) (hu : Un w) : Calls Tryd.prog 4 #[.string s] w fun r w' => r = .returned (.bool true) ∧ Below w.heap.size w w' := by
  have h := first_any s.data.toList (by rw [len_at]; exact hs) w hu
  rw [bs_of] at h
  exact h
end Go.Proofs.YtmemcnjabnpdmabDoor
