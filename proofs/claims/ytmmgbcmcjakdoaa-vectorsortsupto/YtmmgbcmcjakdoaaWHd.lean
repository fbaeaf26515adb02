/- vector's Heads. -/
import Derived.Test.YtmmgbcmcjakdoaaWBf
import Derived.Maps.AppendAt
namespace Go.Proofs.Ytmmgbcmcjakdoaa
open Go.RowKit Go.Sort V
attribute [local go_sem ↓] ld56_eq st56_eq mkL_eq
attribute [local go_sem] zeros_VC cells_VA

theorem lists_nil (w : World) : Calls Try.prog 19 #[.slice none 0 0] w fun e w' => ∃ qo, e = .returned (.slice (some ⟨qo, 0, none⟩) 0 0) ∧ VRow w' (some ⟨qo, 0, none⟩) 0 [] ∧ Below w.heap.size w w' := by
  have hm : (mkL (.int .i64 0) (.int .i64 0)).run Try.prog w = _ := run_mkL w 0 (by omega)
  have HB : Hid (Below w.heap.size w (w.alloc (.cells (oc [] 0) 24))) := below_new w _
  go_enter Try.func19, Try.ntmps19
  go_wp2_with fail
  clear hm
  generalize w.alloc (.cells (oc [] 0) 24) = w1 at HB ⊢
  go_loopw [4, 5, 11] (fun _ _ i wr => i = .int .i64 0 ∧ wr = w1) (fun _ _ _ _ => 0)
  case atStart => exact ⟨rfl, rfl⟩
  case round =>
    obtain ⟨rfl, hw⟩ := hrel
    subst hw
    go_wp2_with fail
    go_ret
    exact ⟨_, rfl, ⟨rfl, fun _ => rfl, (fun ad _ t p hp => by simp at hp), (fun p hp => by cases hp)⟩, HB.out⟩
/-- those that are Before none that follows -/
def hd : List Cn → List Cn
  | [] => []
  | c :: t => if t.any (bef c) = true then hd t else c :: hd t
theorem hd_len : ∀ L : List Cn, (hd L).length ≤ L.length
  | [] => Nat.le_refl _
  | c :: t => by
    have := hd_len t
    unfold hd
    split <;> simp <;> omega
def ccs (L : List Cn) : List Value := (L.map encC).flatten
theorem ccs_len (L : List Cn) : (ccs L).length = L.length * 16 := by
  induction L with
  | nil => rfl
  | cons a L ih => show (encC a ++ ccs L).length = _; rw [List.length_append, ih, encC_len, List.length_cons]; omega
theorem ccs_append (L M : List Cn) : ccs (L ++ M) = ccs L ++ ccs M := by simp [ccs]
theorem ccs_at (L : List Cn) (i j : Nat) (hi : i < L.length) (hj : j < 16) : (ccs L)[i * 16 + j]? = some (.int .i64 (L[i].1 j)) := by
  induction L generalizing i with
  | nil => simp at hi
  | cons a L ih =>
    show (encC a ++ ccs L)[i * 16 + j]? = _
    cases i with
    | zero => rw [List.getElem?_append_left (by rw [encC_len]; omega)]; simp [encC, VC, hj]
    | succ i =>
      rw [List.getElem?_append_right (by rw [encC_len]; omega), encC_len, show (i + 1) * 16 + j - 16 = i * 16 + j by omega]
      exact ih i (by simpa using hi)
/-- the row of heads that is grown -/
structure OH (w W : World) (ho : Option Addr) (cap : Nat) (acc : List Cn) : Prop where
  own : W.ownsRow w.heap.size 42 16 (.slice ho acc.length cap) acc.length (ccs acc)
theorem OH.below {w W W' : World} {ho : Option Addr} {cap : Nat} {acc : List Cn} (h : OH w W ho cap acc) (hb : Below W.heap.size W W') : OH w W' ho cap acc := by
  refine ⟨h.own.1, ?_⟩
  rcases h.own.2 with h | ⟨g, cap2, cur, hv, hbg, hgg, r⟩
  · exact Or.inl h
  · exact Or.inr ⟨g, cap2, cur, hv, hbg, (hb.block g (Array.getElem?_eq_some_iff.1 hgg).1).trans hgg, r⟩
theorem OH.mc {w W : World} {ho : Option Addr} {cap : Nat} {acc : List Cn} (h : OH w W ho cap acc) : (ho = none ∧ acc = [] ∧ cap = 0) ∨ ∃ g, ho = some ⟨g, 0, none⟩ ∧ MC W g acc.toArray := by
  rcases h.own.2 with ⟨h0, h00⟩ | ⟨g, cap2, cur, hv, hbg, hgg, hnc, hcm, hcsz, htake⟩
  · simp only [Value.slice.injEq] at h0
    exact Or.inl ⟨h0.1, List.eq_nil_of_length_eq_zero h00, h0.2.2⟩
  · simp only [Value.slice.injEq] at hv
    refine Or.inr ⟨g, hv.1, fun j hj => ?_, (Array.getElem?_eq_some_iff.1 hgg).1⟩
    rw [size_flatK] at hj
    have hj' : j < acc.length * 16 := by simpa using hj
    refine ⟨?_, by simp [World.frozen?, hgg]⟩
    have e1 : (cur.toList.take (acc.length * 16))[j]? = (ccs acc)[j]? := by rw [htake]
    rw [List.getElem?_take, if_pos hj', Array.getElem?_toList] at e1
    have e2 := ccs_at acc (j / 16) (j % 16) (by omega) (by omega)
    rw [show j / 16 * 16 + j % 16 = j by omega] at e2
    rw [Nat.zero_add, get_flatK _ _ _ _ hj]
    have e3 : (encC acc.toArray[j / 16]!)[j % 16]! = .int .i64 (acc[j / 16].1 (j % 16)) := by
      rw [getElem!_pos acc.toArray (j / 16) (by simp; omega)]
      have : j % 16 < 16 := by omega
      simp [encC, VC, this]
    rw [e3]
    simp [World.cell?, hgg, e1, e2]
theorem appendC {w W : World} {ho : Option Addr} {cap : Nat} {acc : List Cn} (c : Cn) (O : OH w W ho cap acc) (hb : Below w.heap.size w W) (ad : Addr) (cc : Nat) (hx : CnAt W ad c) (hlen : acc.length ≤ 1000)
    {ops : Array Oper} {rest : List Oper} {o : Oper} {a : Act} {Q : Exit → Act → World → Prop} (hgd : o.guard = none) (s y : Operand) (hop : o.op = .call { callee := .builtin .append, args := #[s, y], argTypes := #[38, 38] })
    (n : Nat) (hn : acc.length = n) (hs : a.eval s = .slice ho n cap) (hy : a.eval y = .slice (some ad) 1 cc)
    (hK : ∀ (ho2 : Option Addr) (cap2 : Nat) (W2 : World), OH w W2 ho2 cap2 (acc ++ [c]) → Below w.heap.size w W2 → wpList Try.prog ops Q rest (a.put o.dst (.slice ho2 (n + 1) cap2)) W2) :
    wpList Try.prog ops Q (o :: rest) a W := by
  subst hn
  obtain ⟨i0, hi, hz0, hz1, hz2⟩ := info_parts infoC
  refine wpList_append_own_at _ hgd s y 38 hop w.heap.size 42 i0 (VA (fun _ => 0)) 16 128 Try.underlying38 hi hz0 hz1 hz2 (by rw [cells_VA]; simp [VC]) (by decide) _ acc.length (ccs acc) hs O.own ad 1 cc (encC c) hy (by rw [encC_len]) (fun j u hj => ?_) (fun u hu => VC_one c.1 u hu) (by unfold maxLen; omega) (by omega) hb.size ?_
  · have hj' : j < 16 := by have := (List.getElem?_eq_some_iff.1 hj).1; rwa [encC_len] at this
    rw [hx j hj', ← hj]
    simp [encC, VC, hj']
  intro v' w2 hown hgrow _ hat
  have hrow : ∀ k, (Value.slice ho acc.length cap).ownBlock = some k → w.heap.size ≤ k := fun k hk => (O.own.lt k hk).1
  have hb2 : Below w.heap.size w w2 := hb.grown hgrow hb.size (fun k hk => hrow k hk)
  have e : ccs acc ++ encC c = ccs (acc ++ [c]) := by rw [ccs_append]; simp [ccs]
  rw [e] at hown
  rcases hown.2 with ⟨h0, h00⟩ | ⟨g, cap2, cur, hv, r⟩
  · omega
  · subst hv
    refine hK (some ⟨g, 0, none⟩) cap2 w2 ⟨?_⟩ hb2
    rw [List.length_append]
    exact hown
theorem fold_A (z : Array Value) (y : Array Value) (h : y.size = z.size) : Array.foldl (fun cs x => cs.setIfInBounds x.snd x.fst) z y.zipIdx 0 y.size = y := by
  have hh : ∀ (l : List Value) (pre zz : List Value), zz.length = l.length → (l.zipIdx pre.length).foldl (fun (cs : Array Value) x => cs.setIfInBounds x.2 x.1) (pre ++ zz).toArray = (pre ++ l).toArray := by
    intro l
    induction l with
    | nil => intro pre zz hz; cases zz with
      | nil => rfl
      | cons _ _ => simp at hz
    | cons a l ih => intro pre zz hz; cases zz with
      | nil => simp at hz
      | cons b zz =>
        simp only [List.zipIdx_cons, List.foldl_cons]
        have e : (pre ++ b :: zz).toArray.setIfInBounds pre.length a = ((pre ++ [a]) ++ zz).toArray := by simp
        rw [e]
        have := ih (pre ++ [a]) zz (by simpa using hz)
        rw [List.length_append, List.length_singleton] at this
        rw [this]; simp
  have := hh y.toList [] z.toList (by simpa using h.symm)
  have e : y.size = y.zipIdx.size := by simp
  rw [e, ← Array.foldl_toList, Array.toList_zipIdx]
  simpa using this
theorem VC_size (u : Nat → Int) : (VC u).size = 16 := by simp [VC]
theorem fold_VC (a b c d e f g h i j k l m n o p : Value) (u : Nat → Int) : Array.foldl (fun cs x => cs.setIfInBounds x.snd x.fst) #[a, b, c, d, e, f, g, h, i, j, k, l, m, n, o, p] (VC u).zipIdx 0 16 = VC u := by
  have := fold_A #[a, b, c, d, e, f, g, h, i, j, k, l, m, n, o, p] (VC u) (by simp [VC])
  rwa [VC_size] at this
attribute [local go_sem] VC_size fold_VC
theorem part_of {W : World} {q N : Nat} {d' : Array Cn} {L : List Cn} (M : MC W q d') (hT : d'.toList.take N = L ∧ L.length = N) (k : Nat) (hk : k < N) (A : Option Addr) (hA : N - (k + 1) = 0 ∨ A = some ⟨q, (k + 1) * 16, none⟩) : PartC W A (N - (k + 1)) (L.drop (k + 1)) := by
  refine ⟨by rw [List.length_drop, hT.2], ?_⟩
  rcases hA with h | h
  · exact Or.inl h
  · refine Or.inr ⟨q, (k + 1) * 16, h, M.lt, fun j hj i hi => ?_⟩
    have hl : L.length ≤ d'.size := by rw [← hT.1, List.length_take]; simp; omega
    have hjj : k + 1 + j < L.length := by rw [hT.2]; omega
    have hb : k + 1 + j < d'.size := by omega
    have hkn : k + 1 + j < N := by omega
    have e : (L.drop (k + 1)).getD j c0 = d'[k + 1 + j]! := by
      rw [getElem!_pos d' (k + 1 + j) hb]
      have e1 : L[k + 1 + j]? = some (d'[k + 1 + j]'hb) := by
        rw [← hT.1, List.getElem?_take, if_pos hkn, Array.getElem?_toList, Array.getElem?_eq_getElem hb]
      simp only [List.getD, List.getElem?_drop, e1, Option.getD_some]
    rw [e, show (k + 1) * 16 + j * 16 + i = (k + 1 + j) * 16 + i by omega]
    exact (M.cellAt (k + 1 + j) i (by omega) hi).1
set_option maxRecDepth 100000 in
set_option maxHeartbeats 2000000 in
theorem heads_any (ao : Option Addr) (n cap : Nat) (X : List Sv) (w : World) (hS : VRow w ao n X) (hn : n ≤ 256) : Calls Try.prog 11 #[.slice ao n cap] w fun e w' =>
    ∃ (qo h : Nat) (Y : List Sv) (d : Array Cn), e = .returned (.tuple #[.slice (some ⟨qo, 0, none⟩) h h, .int .i64 0]) ∧ VRow w' (some ⟨qo, 0, none⟩) h Y ∧ Y.map Sv.Z = (hd (Lib.compactUpTo d d.size)).map (fun c : Cn => short c.1) ∧ d.toList.Perm (X.map cnOf) ∧ d.toList.Pairwise (fun x y => cmpC x y ≤ 0) ∧ Below w.heap.size w w' := by
  have HS := hide hS
  have HN := hide hn
  clear hS
  go_enter Try.func11, Try.ntmps11
  go_wp2_with fail
  refine (rising_any ao n cap X _ HS.out (by have := HN.out; omega)).mono ?_
  rintro e w1 ⟨q, d, rfl, m1, z1, p1, o1, g1, b1⟩
  have HP := hide (And.intro p1 o1)
  have HM1 := hide m1
  have HZ1 := hide z1
  have HG1 := hide g1
  have HB1 := hide b1
  clear m1 z1 p1 o1 g1 b1
  go_wp2_with fail
  refine (compact_any ⟨q, 0, none⟩ n n d _ HM1.out.mr HZ1.out (by have := HN.out; omega) (Nat.le_refl _) (by have := HN.out; omega)).mono ?_
  rintro e w3 ⟨N, d', rfl, M3, hN3, s3, t3, b3⟩
  rw [HZ1.out] at hN3 s3
  obtain ⟨L, hL⟩ : ∃ L, Lib.compactUpTo d d.size = L := ⟨_, rfl⟩
  rw [hL] at t3
  have HL := hide hL
  have HT : Hid (d'.toList.take N = L ∧ L.length = N) := ⟨t3, by rw [← t3, List.length_take]; simp; omega⟩
  have HM3 : Hid (MC w3 q d' ∧ d'.size = n) := ⟨M3.mc, s3⟩
  have HB3 : Hid (Below w.heap.size w w3) := HB1.out.trans (b3.mono HG1.out)
  have HNN := hide hN3
  clear M3 hN3 s3 t3 b3 HM1 HB1 hL
  go_wp2_with fail
  go_loopw [5, 6, 7, 16] (fun hv _ _ i wr => ∃ (k : Nat) (ho : Option Addr) (hc : Nat) (acc : List Cn), k ≤ N ∧ hv = .slice ho acc.length hc ∧ i = .int .i64 k ∧ Hid (acc ++ hd (L.drop k) = hd L ∧ acc.length ≤ k) ∧ Hid (OH w3 wr ho hc acc) ∧ Hid (Below w3.heap.size w3 wr)) (fun _ _ _ i _ => N - (intOf i).toNat)
  case atStart => exact ⟨0, none, 0, [], Nat.zero_le _, rfl, rfl, ⟨rfl, Nat.le_refl _⟩, ⟨World.ownsRow_nil _ _ _ _⟩, Below.refl _ _⟩
  case round =>
    obtain ⟨k, ho, hc, acc, hk, rfl, rfl, HA, HO, HW⟩ := hrel
    by_cases hlt : k < N
    · have hnn := HNN.out
      have hdz := HM3.out.2
      have M0 := HM3.out.1.below HW.out
      have ld := M0.load k (by omega)
      obtain ⟨c, hc'⟩ : ∃ c, d'[k]! = c := ⟨_, rfl⟩
      rw [hc'] at ld
      have HDK : Hid (L.drop k = c :: L.drop (k + 1)) := by
        show _ = _
        have hkl : k < L.length := by rw [HT.out.2]; exact hlt
        rw [List.drop_eq_getElem_cons hkl]
        congr 1
        have e1 : L[k]? = some d'[k]! := by
          rw [← HT.out.1, List.getElem?_take, if_pos hlt, Array.getElem?_toList, Array.getElem?_eq_getElem (by omega), getElem!_pos d' k (by omega)]
        rw [List.getElem?_eq_getElem hkl, hc'] at e1
        exact Option.some.inj e1
      have A1 := arr_new wr 42 (fun _ => 0)
      have st := run_st56 (f' := c.1) A1
      have HA2 := hide (A1.setRow (f' := c.1))
      have b2 := V.below_setRow (cs := VC c.1) (below_new wr (.cells (VC (fun _ => 0)) 42)) (Nat.le_refl _)
      have HM2 := hide (M0.below b2)
      replace HO := hide (HO.out.below b2)
      replace HW := hide (HW.out.trans (b2.mono HW.out.size))
      obtain ⟨bb, hbb⟩ : ∃ bb, (L.drop (k + 1)).any (bef c) = bb := ⟨_, rfl⟩
      have HBB := hide hbb
      have HHD : Hid (acc ++ (if bb = true then hd (L.drop (k + 1)) else c :: hd (L.drop (k + 1))) = hd L) := by
        show _ = _
        have := HA.out.1
        rw [HDK.out, hd, hbb] at this
        exact this
      obtain ⟨wk, hwk⟩ : ∃ wk, (wr.alloc (.cells (VC (fun _ => 0)) 42)).setRow wr.heap.size (VC c.1) = wk := ⟨_, rfl⟩
      rw [hwk] at HA2 HM2 HO HW st
      have la : ∀ d os, (ld56 (.pointer (some ⟨wr.heap.size, 0, none⟩))).run Try.prog (Sort.grow (redrawn wk d) os) = .ok (VA c.1) (Sort.grow (redrawn wk d) os) := fun d os => run_ld56 (HA2.out.below (below_regrown wk d os))
      obtain ⟨t, ht⟩ : ∃ t, k + 1 = t := ⟨_, rfl⟩
      have hwt : IntKind.i64.wrap ((k : Int) + 1) = (t : Int) := by rw [IntKind.wrap_i64]; omega
      have htN : t ≤ N := by omega
      have htn : t ≤ n := by omega
      have cB : ∀ (A : Option Addr), (N - t = 0 ∨ A = some ⟨q, t * 16, none⟩) → ∀ d os, Calls Try.prog 25 #[VA c.1, .slice A (N - t) (n - t)] (Sort.grow (redrawn wk d) os) fun e w'' => e = .returned (.bool bb) ∧ ∃ p : Regrown, w'' = Sort.grow (redrawn wk p.d) p.os := fun A hA d os => by
        rw [← ht] at hA
        have := before_any c A (N - (k + 1)) (n - (k + 1)) (L.drop (k + 1)) (Sort.grow (redrawn wk d) os) ((part_of HM2.out HT.out k hlt A hA).below (below_regrown wk d os)) (by omega)
        rw [HBB.out, ht] at this
        exact Calls.regrown_of this
      have HCB := hide cB
      have HTT := hide ht
      have HLT := hide hlt
      clear A1 b2 M0 hbb hc' cB ht
      by_cases hcap : n = t
      · have HN0 : Hid (N - t = 0) := by show _ = _; omega
        subst hcap
        have cC : ∀ d os, Calls Try.prog 25 #[VA c.1, .slice (some ⟨q, 0, none⟩) 0 0] (Sort.grow (redrawn wk d) os) fun e w'' => e = .returned (.bool bb) ∧ ∃ p : Regrown, w'' = Sort.grow (redrawn wk p.d) p.os := by
          have h := HCB.out (some ⟨q, 0, none⟩) (Or.inl HN0.out)
          rw [HN0.out, Nat.sub_self] at h
          exact h
        clear HCB
        go_wp2_with fail
        clear st ld
        refine wp_region_quiet_below (by kernel_rfl) (by kernel_rfl) ?_
        repeat (quiet_step ((go_at_call 25; exact cC _ _)))
        refine wpQuiet_nil ?_
        intro w5 hw'
        obtain ⟨⟨dq, osq⟩, hw''⟩ := hw'
        have b5 : Below wk.heap.size wk w5 := by rw [hw'']; exact below_regrown wk dq osq
        have HA5 := hide (HA2.out.below b5)
        have HO5 := hide (HO.out.below b5)
        have HW5 := hide (HW.out.trans (b5.mono HW.out.size))
        clear hw'' b5 cC la hwk HA2 HO HW HM2 hwt
        (try clear hcap)
        cases bb with
        | true =>
          have HN5 : Hid (acc ++ hd (L.drop (k + 1)) = hd L ∧ acc.length ≤ k + 1) := ⟨HHD.out, by have := HA.out.2; omega⟩
          go_wp2_with fail
          go_roundw
          case rel => exact ⟨k + 1, ho, hc, acc, by have := HLT.out; omega, rfl, by go_num, HN5, HO5, HW5⟩
          case measure => have := HLT.out; simp [intOf]; omega
        | false =>
          have HN5 : Hid ((acc ++ [c]) ++ hd (L.drop (k + 1)) = hd L ∧ (acc ++ [c]).length ≤ k + 1) := ⟨by have := HHD.out; rw [List.append_assoc]; exact this, by have := HA.out.2; simp; omega⟩
          have l5 := run_ld56 HA5.out
          have HO6 := hide (HO5.out.below (below_new w5 (.cells (VC c.1) 42)))
          have HW6 := hide (HW5.out.trans ((below_new w5 (.cells (VC c.1) 42)).mono HW5.out.size))
          have HC6 : Hid (CnAt (w5.alloc (.cells (VC c.1) 42)) ⟨w5.heap.size, 0, none⟩ c) := fun j hj => by
            rw [Addr.add_lit, Nat.zero_add]
            exact (arr_new w5 42 c.1).cell j hj
          have HLE : Hid (acc.length ≤ 1000) := by show _ ≤ _; have := HA.out.2; have := HN.out; omega
          go_wp2_with (at_builtin; refine appendC c HO6.out HW6.out ⟨w5.heap.size, 0, none⟩ 1 HC6.out HLE.out rfl (.tmp 28) (.tmp 30) rfl acc.length rfl rfl rfl ?_; intro ho2 hc2 w7 O7 B7; have HO7 := hide O7; have HW7 := hide B7; clear O7 B7)
          go_roundw
          case rel => exact ⟨k + 1, ho2, hc2, acc ++ [c], by have := HLT.out; omega, by simp, by go_num, HN5, HO7, HW7⟩
          case measure => have := HLT.out; simp [intOf]; omega
      · have cC := HCB.out (some ⟨q, t * 16, none⟩) (Or.inr rfl)
        clear HCB
        go_wp2_with fail
        clear st ld
        refine wp_region_quiet_below (by kernel_rfl) (by kernel_rfl) ?_
        repeat (quiet_step ((go_at_call 25; exact cC _ _)))
        refine wpQuiet_nil ?_
        intro w5 hw'
        obtain ⟨⟨dq, osq⟩, hw''⟩ := hw'
        have b5 : Below wk.heap.size wk w5 := by rw [hw'']; exact below_regrown wk dq osq
        have HA5 := hide (HA2.out.below b5)
        have HO5 := hide (HO.out.below b5)
        have HW5 := hide (HW.out.trans (b5.mono HW.out.size))
        clear hw'' b5 cC la hwk HA2 HO HW HM2 hwt
        (try clear hcap)
        cases bb with
        | true =>
          have HN5 : Hid (acc ++ hd (L.drop (k + 1)) = hd L ∧ acc.length ≤ k + 1) := ⟨HHD.out, by have := HA.out.2; omega⟩
          go_wp2_with fail
          go_roundw
          case rel => exact ⟨k + 1, ho, hc, acc, by have := HLT.out; omega, rfl, by go_num, HN5, HO5, HW5⟩
          case measure => have := HLT.out; simp [intOf]; omega
        | false =>
          have HN5 : Hid ((acc ++ [c]) ++ hd (L.drop (k + 1)) = hd L ∧ (acc ++ [c]).length ≤ k + 1) := ⟨by have := HHD.out; rw [List.append_assoc]; exact this, by have := HA.out.2; simp; omega⟩
          have l5 := run_ld56 HA5.out
          have HO6 := hide (HO5.out.below (below_new w5 (.cells (VC c.1) 42)))
          have HW6 := hide (HW5.out.trans ((below_new w5 (.cells (VC c.1) 42)).mono HW5.out.size))
          have HC6 : Hid (CnAt (w5.alloc (.cells (VC c.1) 42)) ⟨w5.heap.size, 0, none⟩ c) := fun j hj => by
            rw [Addr.add_lit, Nat.zero_add]
            exact (arr_new w5 42 c.1).cell j hj
          have HLE : Hid (acc.length ≤ 1000) := by show _ ≤ _; have := HA.out.2; have := HN.out; omega
          go_wp2_with (at_builtin; refine appendC c HO6.out HW6.out ⟨w5.heap.size, 0, none⟩ 1 HC6.out HLE.out rfl (.tmp 28) (.tmp 30) rfl acc.length rfl rfl rfl ?_; intro ho2 hc2 w7 O7 B7; have HO7 := hide O7; have HW7 := hide B7; clear O7 B7)
          go_roundw
          case rel => exact ⟨k + 1, ho2, hc2, acc ++ [c], by have := HLT.out; omega, by simp, by go_num, HN5, HO7, HW7⟩
          case measure => have := HLT.out; simp [intOf]; omega
    · obtain rfl : k = N := by omega
      have HE : Hid (acc = hd L) := by show _ = _; have := HA.out.1; rwa [List.drop_of_length_le (by rw [HT.out.2]; exact Nat.le_refl _), hd, List.append_nil] at this
      rcases HO.out.mc with ⟨rfl, rfl, rfl⟩ | ⟨g, rfl, Mg⟩
      · go_wp2_with fail
        refine (lists_nil _).mono ?_
        rintro e w8 ⟨qo, rfl, v8, b8⟩
        have HF : Hid (VRow w8 (some ⟨qo, 0, none⟩) 0 [] ∧ ([] : List Sv).map Sv.Z = (hd (Lib.compactUpTo d d.size)).map (fun c : Cn => short c.1) ∧ d.toList.Perm (X.map cnOf) ∧ d.toList.Pairwise (fun x y => cmpC x y ≤ 0) ∧ Below w.heap.size w w8) := ⟨v8, by rw [HL.out, ← HE.out]; rfl, HP.out.1, HP.out.2, HB3.out.trans ((HW.out.trans (b8.mono HW.out.size)).mono HB3.out.size)⟩
        clear v8 b8
        go_wp2_with fail
        go_ret2
        exact ⟨qo, 0, [], d, rfl, HF.out⟩
      · have HMg := hide Mg
        have HLE : Hid (acc.length ≤ 1099511627776) := by show _ ≤ _; have := HA.out.2; have := HNN.out; have := HN.out; omega
        clear Mg
        go_wp2_with fail
        refine (lists_any g acc.length hc acc.toArray _ HMg.out (by simp) HLE.out).mono ?_
        rintro e w8 ⟨qo, Y, rfl, v8, y8, b8⟩
        have HF : Hid (VRow w8 (some ⟨qo, 0, none⟩) acc.length Y ∧ Y.map Sv.Z = (hd (Lib.compactUpTo d d.size)).map (fun c : Cn => short c.1) ∧ d.toList.Perm (X.map cnOf) ∧ d.toList.Pairwise (fun x y => cmpC x y ≤ 0) ∧ Below w.heap.size w w8) := ⟨v8, by rw [y8, HL.out, ← HE.out], HP.out.1, HP.out.2, HB3.out.trans ((HW.out.trans (b8.mono HW.out.size)).mono HB3.out.size)⟩
        clear v8 y8 b8
        go_wp2_with fail
        go_ret2
        exact ⟨qo, acc.length, Y, d, rfl, HF.out⟩
end Go.Proofs.Ytmmgbcmcjakdoaa
