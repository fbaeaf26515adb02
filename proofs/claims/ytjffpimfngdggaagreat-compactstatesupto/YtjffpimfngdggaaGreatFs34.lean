/- BFo ODt BDs LSp BBx -/
import Derived.Test.YtjffpimfngdggaaGreatTk
import Derived.Test.YtjffpimfngdggaaGreatFs21
import Derived.Test.YtjffpimfngdggaaGreatFs31
import Derived.Test.YtjffpimfngdggaaGreatFs32
import Derived.Test.YtjffpimfngdggaaGreatFs33
import Derived.Test.YtjffpimfngdggaaGreatFs14
import Derived.Deep.CutRange
import Derived.Test.YtjffpimfngdggaaGreatFs20
import Derived.Test.YtjffpimfngdggaaGreatFs19
import Derived.Test.YtjffpimfngdggaaGreatFs28
set_option maxRecDepth 100000
set_option maxHeartbeats 3200000
namespace Go.Proofs.YtjffpimfngdggaaGreat
section
open Go.RowKit Go.Maps Go.Sort
attribute [local go_sem ↓] zr zq qd zZ
attribute [local go_sem] zI zU qi
theorem keyS2:Keyed Tryz.prog 9:=string_keyed Tryz.underlying9
theorem zeroPs (w:World):(zeroValue 151).run Tryz.prog w = .ok (HsV hs0) w:=by kernel_rfl
def MF (w W:World) (kk:Nat) (R:List Rc):Prop:=∃ f,MRo Tryz.prog 9 26 2 (w.heap.size+1) w W w.heap.size kk (fun s=>∃ r∈R,r.s=s) f (fun s=>pvs (ofS R s))
theorem yN (L:List Rc) (k:Nat) (h:k < L.length):L.take (k+1)=L.take k++[L.getD k rc0]:=by
 rw [List.take_succ_eq_append_getElem h];simp [List.getD,h]
theorem ze0 (R:List Rc) (r:Rc):(fun s=>∃ x∈R++[r],x.s=s)=fun s=>s=r.s∨∃ x∈R,x.s=s:=by
 funext s
 apply propext;constructor
 ·rintro ⟨x,hx,rfl⟩;rcases List.mem_append.1 hx with hx | hx
  ·exact .inr ⟨x,hx,rfl⟩
  ·obtain rfl:x=r:=by simpa using hx
   exact .inl rfl
 ·rintro (rfl | ⟨x,hx,rfl⟩)
  ·exact ⟨r,by simp,rfl⟩
  ·exact ⟨x,by simp [hx],rfl⟩
def TxS (w:World) (ao:Option Addr) (m:Nat) (T:List (List UInt8)):Prop:=
 T.length=m/\∀ t,t < m -> ∃ ad,ao=some ad/\w.cell? (ad.add t)=some (encStr (T.getD t []))
theorem TxS.below {w w':World} {ao:Option Addr} {m:Nat} {T:List (List UInt8)} (h:TxS w ao m T) (hb:Below w.heap.size w w'):TxS w' ao m T:=by
 refine ⟨h.1,fun t ht=>?_⟩;obtain ⟨ad,e,hc⟩:=h.2 t ht;exact ⟨ad,e,(hb.cell (World.block_lt_of_cell? _ _ hc)).trans hc⟩
theorem GivesSs.src {w w':World} {e:Ending} {T:List (List UInt8)} (h:GivesSs w w' e T):∃ ao c,e = .returned (.slice ao T.length c)/\TxS w' ao T.length T/\Below w.heap.size w w':=by
 obtain ⟨v,rfl,hr,hb⟩:=h;rcases hr.2 with ⟨h0,h00⟩ | ⟨g,cap,cur,hv,hbg,hgg,hnc,hcm,hcsz,htake⟩
 ·refine ⟨none,0,by rw [h0,h00],⟨rfl,fun t ht=>?_⟩,hb⟩;omega
 ·subst hv;refine ⟨some ⟨g,0,none⟩,cap,rfl,⟨rfl,fun t ht=>⟨_,rfl,?_⟩⟩,hb⟩;rw [Addr.add_lit,Nat.zero_add,hr.cellAt t (by omega)];simp [List.getD,ht]
theorem zjf:∀ a b:List UInt8,a < b -> Lib.compareBytes a b < 0
 | [],[],h=>absurd h (List.lt_irrefl _)
 | [],_ :: _,_=>by simp [Lib.compareBytes]
 | _ :: _,[],h=>absurd h (List.not_lt_nil _)
 | a :: x,b :: y,h=>by
  rcases List.cons_lt_cons_iff.1 h with h1 | ⟨rfl,h1⟩
  ·simp [Lib.compareBytes,h1]
  ·have h0:¬ a < a:=UInt8.lt_irrefl a;have:=zjf x y h1;simpa [Lib.compareBytes,h0] using this
theorem ze1 {ss:List (List UInt8)} (hnd:ss.Nodup):(ss.mergeSort leB).Pairwise (fun a b=>Lib.compareBytes a b < 0):=by
 have tr:∀ a b c:List UInt8,leB a b=true -> leB b c=true -> leB a c=true:=fun a b c h1 h2=>by simp only [leB,decide_eq_true_eq] at *;exact List.le_trans h1 h2
 have tt:∀ a b:List UInt8,(leB a b || leB b a)=true:=fun a b=>by simp only [leB,Bool.or_eq_true,decide_eq_true_eq];exact List.le_total a b
 have hs1:(ss.mergeSort leB).Pairwise (fun a b=>leB a b=true):=List.pairwise_mergeSort tr tt ss;have hnd2:(ss.mergeSort leB).Nodup:=(List.mergeSort_perm ss leB).nodup_iff.2 hnd;refine (hs1.and hnd2).imp fun {a b} h=>zjf a b ?_
 have h1:a <= b:=by simpa [leB] using h.1
 exact Decidable.byContradiction fun hn=>h.2 (List.le_antisymm h1 (List.not_lt.1 hn))
def FoA (w w':World) (x:Ending) (L:List Rc) (n:Nat):Prop:=(OkR L n/\∃ (h:Hs) (F:List Rc),x = .returned (.tuple #[HsV h,.int .i64 0])/\RcS w' h.o h.n h.c F/\Below w.heap.size w w'/\(∀ ad,h.o=some ad -> w.heap.size <= ad.block)/\FoldOf L F)∨(¬ OkR L n/\x = .returned (.tuple #[.slice none 0 0,.int .i64 1])/\Below w.heap.size w w')
theorem zgM (ao:Option Addr) (n cap:Nat) (L:List Rc) (w:World) (hS:RcS w ao n cap L) (hwt:∀ s,wt (ofS L s) <= 8796093022207) :
  Calls Tryz.prog 97 #[.slice ao n cap] w fun x w'=>FoA w w' x L n:=by
 have HS:=hide hS;have HL:Hid (L.length=n):=hS.len;have hn:=hS.big;have HW:=hide hwt;have hmm:=@run_makeMap Tryz.prog;clear hS hwt;go_enter Tryz.func97,Tryz.ntmps97;go_wp2_with fail;refine (xp ao n cap L _ HS.out).mono ?_;rintro x w0 ⟨z,rfl,hz,b0⟩;have HB0:=hide b0;have HS0:=hide (HS.out.below b0);clear b0;rcases hz with ⟨rfl,hO⟩ | ⟨rfl,hO⟩;rotate_left
 ·have HE:Hid (FoA w w0 (.returned (.tuple #[.slice none 0 0,.int .i64 1])) L n):=.inr ⟨hO,rfl,HB0.out⟩;clear hO hmm;go_wp2_with fail;go_ret2;exact HE.out
 ·have HO:=hide hO;obtain ⟨w1,hw1⟩:∃ w1,w0.alloc (.map #[] 0)=w1:=⟨_,rfl⟩;obtain ⟨b,hb⟩:∃ b,w0.heap.size=b:=⟨_,rfl⟩
  have HM0:Hid (MF w0 w1 0 []):=⟨fun _=>hs0,by
   have h:=MRo.start (P:=Tryz.prog) (kt:=9) (et:=26) (size:=2) w0;rw [hw1] at h
   have e:(fun s=>∃ r∈([]:List Rc),r.s=s)=fun _=>False:=by funext s;simp
   rw [e]
   exact h⟩
  have Hb:=hide hb;clear hO;go_wp2_with fail;clear hw1 hb;go_loopw [21] (fun i wr=>∃ k:Nat,k <= n/\i = .int .i64 (k:Int)/\Hid (MF w0 wr k (L.take k))) (fun i _=>n - (intOf i).toNat)
  case atStart=>exact ⟨0,Nat.zero_le _,rfl,HM0⟩
  case round =>
   obtain ⟨k,hk,rfl,HM⟩:=hrel
   rename World=>wr
   clear HM0;by_cases hlt:k < n
   ·have hlti:(k:Int) < (n:Int):=by omega
    obtain ⟨f,M⟩:=HM.out;obtain ⟨ad,hao,A0⟩:=(HS0.out.below M.below).at k hlt;subst hao;have hOk:=(HS0.out.below M.below).okAt k hlt;have HT:=hide (yN L k (by rw [HL.out];exact hlt));obtain ⟨r,Hr⟩:∃ r,Hid (L.getD k rc0=r):=⟨_,rfl⟩;rw [Hr.out] at A0 hOk HT;have hsk:=hOk.2;have hld:=zz A0;obtain ⟨g7,hg7⟩:∃ g7,wr.heap.size=g7:=⟨_,rfl⟩;obtain ⟨w7,hst,X7,B7,S7⟩:=madeRe wr (mkR r) g7 hg7;have M7:=(M.later B7).later (zf w7)
    have hnl:(f r.s).n <= 2900000000000:=by
     have h:=(M.rows r.s).1;rw [j8] at h;have h1:=zae (L.take k) r.s;have h2:=List.length_take_le k L;omega
    have hoff:(HsV (f r.s)).ownBlock≠some g7:=fun h=>by have:=((M.rows r.s).lt g7 h).2;omega
    have HL0:Hid (∀ W,Below w7.drew.heap.size w7.drew W -> (Instr.lookup 187 (.map (some b)) (.string r.s) false).run Tryz.prog W = .ok (HsV (f r.s)) W):=fun W hW=>by
     have:=(M7.later hW).look keyS2 Tryz.underlying9 Tryz.underlying187 (zeroPs W) r.s hsk;rwa [Hb.out] at this
    obtain ⟨g8,c8,w8,ha8,M8,k8⟩:=zi4 M7 r.s r.p hnl;obtain ⟨w9,hu9,M9,k9⟩:=M8.put keyS2 Tryz.underlying9 Tryz.underlying187 hsk (by unfold maxLen;omega);rw [Hb.out] at hu9 k9
    have hgb:g7≠b:=by have:=M.hb;rw [Hb.out] at this;omega
    have z8:w8.heap[g7]? = w7.heap[g7]?:=k8 g7 (show g7 < w7.heap.size by omega) hoff;have z9:w9.heap[g7]? = w7.heap[g7]?:=(k9 g7 (Array.getElem?_eq_some_iff.1 (z8.trans X7)).1 hgb).trans z8
    have HSt:Hid (∀ W:World,W.heap[g7]? = w7.heap[g7]? -> W.cell? ⟨g7,0,none⟩=some (.string r.s)/\(ldP (.pointer (some ⟨g7,1,none⟩))).run Tryz.prog W = .ok (.agg #[.slice r.p.vo r.p.vn r.p.vc,.slice r.p.co r.p.cn r.p.cc]) W):=fun W h=>by
     have X:ReBox W g7 (mkR r):=h.trans X7;exact ⟨X.sk,zj X.past⟩
    have HZ:Hid (w8.heap[g7]? = w7.heap[g7]? /\ w9.heap[g7]? = w7.heap[g7]?):=⟨z8,z9⟩;have HZA:Hid ((w7.drew.alloc (.cells #[.slice r.p.vo r.p.vn r.p.vc,.slice r.p.co r.p.cn r.p.cc] 26)).heap[g7]? = w7.heap[g7]?):=Below.heap_alloc w7.drew _ g7 (show g7 < w7.heap.size by omega);have l0:=HL0.out w7.drew (Below.refl _ _);have l1:=HL0.out _ (ze w7.drew (.cells #[.slice r.p.vo r.p.vn r.p.vc,.slice r.p.co r.p.cn r.p.cc] 26));have l2:(Instr.lookup 187 (.map (some b)) (.string r.s) false).run Tryz.prog (w7.alloc (.cells #[.slice r.p.vo r.p.vn r.p.vc,.slice r.p.co r.p.cn r.p.cc] 26)).drew = .ok (HsV (f r.s)) (w7.drew.alloc (.cells #[.slice r.p.vo r.p.vn r.p.vc,.slice r.p.co r.p.cn r.p.cc] 26)):=l1
    have HMb:Hid (MF w0 w9 (k+1) (L.take (k+1))):=by
     have hX:(fun s=>pvs (ofS (L.take (k+1)) s))=fun u=>if u=r.s then pvs (ofS (L.take k) r.s)++(PC r.p).toList else pvs (ofS (L.take k) u):=by
      funext s
      rw [HT.out,zgj];by_cases h:s=r.s
      ·subst h;simp
      ·simp [h]
     have h:=M9;rw [<- hX,<- ze0,<- HT.out] at h;exact ⟨_,h⟩
    have HA8:Hid ((Builtin.append_ #[151,151] 151 #[.slice (f r.s).o (f r.s).n (f r.s).c,.slice (some ⟨w7.heap.size,0,none⟩) 1 1]).run Tryz.prog (w7.drew.alloc (.cells #[.slice r.p.vo r.p.vn r.p.vc,.slice r.p.co r.p.cn r.p.cc] 26)) = .ok (.slice (some ⟨g8,0,none⟩) ((f r.s).n+1) c8) w8):=ha8;have Hlt:=hide hlt;clear A0 X7 B7 S7 M M7 M8 M9 k8 k9 z8 z9 ha8 hlt hk hOk;go_upto_region 8 with fail;clear hst hld;refine wp_region_held_drew (S:=fun W=>W.cell? ⟨g7,0,none⟩=some (.string r.s)/\(ldP (.pointer (some ⟨g7,1,none⟩))).run Tryz.prog W = .ok (.agg #[.slice r.p.vo r.p.vn r.p.vc,.slice r.p.co r.p.cn r.p.cc]) W) (by kernel_rfl) (HSt.out _ rfl) (fun hHeld=>?_);refine wU 0 ?_;refine wU 1 ?_;refine wU 2 ?_;refine wU 3 ?_;refine wU 4 ?_;refine wU 5 ?_;refine wU 7 ?_;refine wU 8 ?_;refine wpAnyH_ready (rs:=[6,9]) (by kernel_rfl) (by simp) ?_;refine AllReadyH.cons rfl (fun K hK=>?_) ?_
    ·go_simp;refine hK.out _ _ (HSt.out _ rfl) (fun hHeld=>?_);clear hK K;refine wpAnyH_ready (rs:=[9]) (by kernel_rfl) (by simp) (.cons rfl (fun K hK=>?_) .nil);go_simp;refine hK.out _ _ (HSt.out _ HZA.out) (fun hHeld=>?_);clear hK K;refine wpAnyH_ready (rs:=[10]) (by kernel_rfl) (by simp) (.cons rfl (fun K hK=>?_) .nil);refine xB (by rfl) (.tmp 31) (.tmp 34) (by rfl) (by rfl) (by rfl) HA8.out ?_;refine hK.out _ _ (HSt.out _ HZ.out.1) (fun hHeld=>?_);clear hK K;refine wpAnyH_ready (rs:=[11]) (by kernel_rfl) (by simp) (.cons rfl (fun K hK=>?_) .nil);go_simp;refine hK.out _ _ (HSt.out _ HZ.out.2) (fun hHeld=>?_);clear hK K;refine wpAnyH_done (by kernel_rfl) ?_ _;clear hHeld;clear l0 l1 l2 hu9;go_wp2_with fail;go_roundw
     case rel=>exact ⟨k+1,Hlt.out,by simp,HMb⟩
     case measure=>simp [intOf];have:=Hlt.out;omega
    ·refine AllReadyH.cons rfl (fun K hK=>?_) ?_;rotate_left
     ·exact AllReadyH.nil
     go_simp;refine hK.out _ _ (HSt.out _ HZA.out) (fun hHeld=>?_);clear hK K;refine wpAnyH_ready (rs:=[6]) (by kernel_rfl) (by simp) (.cons rfl (fun K hK=>?_) .nil);go_simp;refine hK.out _ _ (HSt.out _ HZA.out) (fun hHeld=>?_);clear hK K;refine wpAnyH_ready (rs:=[10]) (by kernel_rfl) (by simp) (.cons rfl (fun K hK=>?_) .nil);refine xB (by rfl) (.tmp 31) (.tmp 34) (by rfl) (by rfl) (by rfl) HA8.out ?_;refine hK.out _ _ (HSt.out _ HZ.out.1) (fun hHeld=>?_);clear hK K;refine wpAnyH_ready (rs:=[11]) (by kernel_rfl) (by simp) (.cons rfl (fun K hK=>?_) .nil);go_simp;refine hK.out _ _ (HSt.out _ HZ.out.2) (fun hHeld=>?_);clear hK K;refine wpAnyH_done (by kernel_rfl) ?_ _;clear hHeld;clear l0 l1 l2 hu9;go_wp2_with fail;go_roundw
     case rel=>exact ⟨k+1,Hlt.out,by simp,HMb⟩
     case measure=>simp [intOf];have:=Hlt.out;omega
   ·obtain rfl:k=n:=by omega
    have HE:Hid (MF w0 wr k L):=by
     have h:=HM.out;rw [List.take_of_length_le (by have:=HL.out;omega)] at h;exact h
    obtain ⟨f,M⟩:=HE.out
    have hsrc:∀ s,∀ p∈ofS L s,PSrc wr p:=fun s p hp=>by
     obtain ⟨r,hr,rfl⟩:=List.mem_map.1 hp;exact ((HS0.out.below M.below).ok r (List.mem_filter.1 hr).1).1
    have HP0:Hid (PRow wr (f nilF).o (f nilF).n (ofS L nilF)):=zb2 (M.rows nilF) (hsrc nilF)
    have hn0:(f nilF).n <= 8796093022207:=by
     have h:=(M.rows nilF).1;rw [j8] at h;have h1:=zae L nilF;have h2:=HL.out;omega
    have l0:(Instr.lookup 187 (.map (some b)) (.string ⟨#[]⟩) false).run Tryz.prog wr = .ok (.slice (f nilF).o (f nilF).n (f nilF).c) wr:=by
     have h:=M.look keyS2 Tryz.underlying9 Tryz.underlying187 (zeroPs wr) nilF (by decide);rwa [Hb.out] at h
    have HMM:=hide M;clear M hsrc hlt;go_wp2_with fail;clear l0;refine (xg (f nilF).o (f nilF).n (f nilF).c (ofS L nilF) _ HP0.out (HW.out nilF) hn0).mono ?_;rintro x w3 ⟨pa,rfl,Sa,Na,b3,Ca⟩;obtain ⟨g3,hg3⟩:∃ g3,w3.heap.size=g3:=⟨_,rfl⟩;obtain ⟨w4,hst4,X4,b4,s4⟩:=madeP w3 pa g3 hg3;replace hst4:(stP (.pointer (some ⟨g3,0,none⟩)) (PV pa)).run Tryz.prog (w3.alloc (.cells #[.slice none 0 0,.slice none 0 0] 26)) = .ok () w4:=hst4;have b34:=b3.trans (b4.mono b3.size);have HM4:=hide (HMM.out.later b34);have HA4:Hid (PBox w4 g3 pa/\PSrc w4 pa/\CanonOf (runsOf (ofS L nilF)) pa.P):=⟨X4,Sa.below b4,Ca⟩;clear Sa Na b3 b4 s4 X4 Ca b34 HMM HP0;go_wp2_with fail;clear hst4 hg3;refine (zgu (some b) _).mono ?_;rintro x w5 ⟨rfl,rfl⟩;obtain ⟨D,hD,hMp⟩:=HM4.out.map;rw [Hb.out] at hD;have hsz:=hD.size_le;have HD:Hid (w4.ownsMap Tryz.prog 9 RSl b k D):=hD
    have HZ:Hid (Maps.size D <= maxLen/\Maps.size D * 16 <= 140737488355328):=⟨by unfold maxLen;omega,by omega⟩;have HMp:=hide hMp;clear hD hMp hsz;go_wp2_with fail;refine (yG b k D RSl w4 HD.out HZ.out.1 HZ.out.2).mono ?_;rintro y w6 ⟨ss,hp,hg⟩;obtain ⟨a6,c6,rfl,T6,b6⟩:=hg.src;have HKs:=hide (keysS HD.out keyS2 Tryz.underlying9 HMp.out hp);obtain ⟨T,HTt⟩:∃ T,Hid (ss.mergeSort leB=T):=⟨_,rfl⟩;rw [HTt.out] at T6 ⊢;have b46:=(ze w4 (.cells #[.map (some b)] 187)).trans (b6.mono (ze w4 (.cells #[.map (some b)] 187)).size);have HT6:=hide T6;have HM6:=hide (HM4.out.later b46);have HA6:Hid (PBox w6 g3 pa/\PSrc w6 pa/\CanonOf (runsOf (ofS L nilF)) pa.P):=⟨HA4.out.1.below b46,HA4.out.2.1.below b46,HA4.out.2.2⟩;clear b6 b46 hg T6;obtain ⟨m,Hm⟩:∃ m,Hid (T.length=m):=⟨_,rfl⟩
    have Hmn:Hid (m <= 2199023255552):=by
     show _ <= _
     have e1:=((List.mergeSort_perm ss leB).trans hp).length_eq;rw [HTt.out,Hm.out] at e1
     have e2:(strKeys D).length=Maps.size D:=by
      obtain ⟨es,hD⟩:=HD.out.isMap;subst hD;simp [strKeys,Maps.size]
     have e3:=HD.out.size_le;omega
    have HTL:Hid (∀ t∈T,t.length <= maxLen):=fun t ht=>by
     refine strKeys_le HD.out Tryz.underlying9 _ (((List.mergeSort_perm ss leB).trans hp).mem_iff.1 ?_);rw [HTt.out];exact ht
    have HKT:Hid (∀ t,t∈T↔∃ r∈L,r.s=⟨t.toArray⟩):=fun t=>by
     rw [<- HTt.out,(List.mergeSort_perm ss leB).mem_iff];exact HKs.out.2 t
    have HTP:Hid (T.Pairwise (fun a b=>Lib.compareBytes a b < 0)):=by
     show List.Pairwise _ _
     rw [<- HTt.out];exact ze1 HKs.out.1
    rw [Hm.out] at HT6 ⊢;clear hp;go_wp2_with fail;go_loopw [9,44] (fun v i wr2=>∃ (j:Nat) (hh:Hs),j <= m/\v = .slice hh.o hh.n hh.c/\i = .int .i64 (j:Int)/\Hid (∃ F,OwnRc w6.heap.size w6 wr2 hh F/\FPre L (T.take j) F/\hh.n <= j)) (fun _ i _=>m - (intOf i).toNat)
    case atStart=>exact ⟨0,hs0,Nat.zero_le _,rfl,rfl,[],OwnRc.nil w6,FPre.start L,Nat.le_refl _⟩
    case round =>
     obtain ⟨j,hh,hj,rfl,rfl,HR⟩:=hrel
     rename World=>wr2
     obtain ⟨F,O,hFP,hhn⟩:=HR.out;have HFP:=hide hFP;have Hhn:=hide hhn;clear hFP hhn HR;by_cases hjl:j < m
     ·have hjli:(j:Int) < (m:Int):=by omega
      have hTl:=Hm.out
      have hjb:j < 2199023255552:=by have:=Hmn.out;omega
      obtain ⟨ad6,ha6,hc6⟩:=(HT6.out.below O.below).2 j hjl;subst ha6;obtain ⟨s,Hs⟩:∃ s:ByteArray,Hid (s=⟨(T.getD j []).toArray⟩):=⟨_,rfl⟩
      have hes:encStr (T.getD j []) = .string s:=by rw [Hs.out]
      rw [hes] at hc6
      have hmemT:T.getD j []∈T:=by rw [List.getD_eq_getElem?_getD,List.getElem?_eq_getElem (by omega)];exact List.getElem_mem _
      have hss:s.size <= maxLen:=by rw [Hs.out];have:=HTL.out _ hmemT;simpa [ByteArray.size] using this
      have HTs:Hid (T.take (j+1)=T.take j++[T.getD j []]):=by
       show _=_
       rw [List.take_succ_eq_append_getElem (by omega)];simp [List.getD,show j < T.length by omega]
      have Hjl:=hide hjl;have M2:=HM6.out.later O.below
      have hsrc:∀ p∈ofS L s,PSrc wr2 p:=fun p hp=>by
       obtain ⟨r,hr,-,rfl⟩:=zad.1 hp;exact ((HS0.out.below M2.below).ok r hr).1
      have HP2:Hid (PRow wr2 (f s).o (f s).n (ofS L s)):=zb2 (M2.rows s) hsrc
      have hn2:(f s).n <= 8796093022207:=by
       have h:=(M2.rows s).1;rw [j8] at h;have h1:=zae L s;have h2:=HL.out;omega
      have lk:(Instr.lookup 187 (.map (some b)) (.string s) false).run Tryz.prog wr2 = .ok (.slice (f s).o (f s).n (f s).c) wr2:=by
       have h:=M2.look keyS2 Tryz.underlying9 Tryz.underlying187 (zeroPs wr2) s hss;rwa [Hb.out] at h
      have HOo:=hide O;clear M2 hsrc hmemT hjl hj O hes;go_wp2_with fail;clear lk hc6;refine (xg (f s).o (f s).n (f s).c (ofS L s) _ HP2.out (HW.out s) hn2).mono ?_;rintro x w7 ⟨p1,rfl,S1,N1,b7,C1⟩;obtain ⟨g7,hg7⟩:∃ g7,w7.heap.size=g7:=⟨_,rfl⟩;obtain ⟨w8,hst8,X8,b8,s8⟩:=madeP w7 p1 g7 hg7;replace hst8:(stP (.pointer (some ⟨g7,0,none⟩)) (PV p1)).run Tryz.prog (w7.alloc (.cells #[.slice none 0 0,.slice none 0 0] 26)) = .ok () w8:=hst8;have b78:=b7.trans (b8.mono b7.size);have hrowlt:∀ g,(HsV hh).ownBlock=some g -> g < wr2.heap.size:=fun g hg=>(HOo.out.own.lt g hg).2;have hfar:∀ q:Pv,PNew wr2.heap.size q -> FarH hh q:=fun q hq g hg=>PFar.new hq (hrowlt g hg)
      have hg7l:wr2.heap.size <= g7:=by have:=b7.size;omega
      have HRW:Hid ((HsV hh).ownBlock≠some g7/\(∀ r∈F,PFar r.p g7)/\w6.heap.size <= g7):=⟨fun e=>by have:=hrowlt g7 e;omega,fun r hr=>PFar.old (HOo.out.ok r hr).1.1 hg7l,Nat.le_trans HOo.out.below.size hg7l⟩;have HO8:=hide (HOo.out.later b78);have HC1:Hid (CanonOf (runsOf (ofS L s)) p1.P):=C1;have HF1:=hide (hfar p1 N1);have HX8:Hid (PBox w8 g7 p1/\PSrc w8 p1):=⟨X8,S1.below b8⟩;have HA8:Hid (PBox w8 g3 pa/\PSrc w8 pa):=⟨(HA6.out.1.below HOo.out.below).below b78,(HA6.out.2.1.below HOo.out.below).below b78⟩;have Hg:Hid (wr2.heap.size <= g7/\g7 < w8.heap.size):=⟨hg7l,by omega⟩;clear S1 N1 b7 b8 b78 C1 X8 hrowlt hg7l s8 HP2;by_cases h0:s.size=0
      ·have e0:=K.jt s h0
       obtain rfl:s=nilF:=by obtain ⟨d⟩:=s;have:d=#[]:=Array.eq_empty_of_size_eq_zero h0;rw [this];rfl
       have HB9:Hid (PBox w8 g7 p1/\PSrc w8 p1/\FarH hh p1/\IsP (FoldM L nilF) p1.P):=⟨HX8.out.1,HX8.out.2,HF1.out,zgK HC1.out⟩;have HO9:=HO8
       have l9:(ldP (.pointer (some ⟨g7,0,none⟩))).run Tryz.prog w8 = .ok (PV p1) w8:=zj HB9.out.1.at
       go_wp2_with fail;clear l9;refine (jC p1 _ HB9.out.2.1).mono ?_;rintro x wa ⟨em,rfl,hem,ba⟩;have HOa:=hide (HO9.out.later ba);have HBa:Hid (PBox wa g7 p1/\PSrc wa p1/\FarH hh p1/\IsP (FoldM L nilF) p1.P):=⟨HB9.out.1.below ba,HB9.out.2.1.below ba,HB9.out.2.2.1,HB9.out.2.2.2⟩;clear ba HO9 HB9
       cases em with
       | true =>
        have HNx:Hid (FPre L (T.take (j+1)) F):=by
         show FPre _ _ _
         rw [HTs.out];refine HFP.out.skip _ (fun r hr n hm=>?_);rw [<- Hs.out] at hm;obtain ⟨C,hC,hI⟩:=HBa.out.2.2.2;exact hem.1 rfl r hr n ((zO hC r hr n).2 ((hI r hr n).2 hm))
        clear hem;go_wp2_with fail;go_roundw
        case rel=>exact ⟨j+1,hh,Hjl.out,rfl,by simp,⟨F,HOa.out,HNx.out,by have:=Hhn.out;omega⟩⟩
        case measure=>simp [intOf];have:=Hjl.out;omega
       | false =>
        have HNx:Hid (FPre L (T.take (j+1)) (F++[⟨nilF,p1⟩])):=by
         show FPre _ _ _
         rw [HTs.out];exact HFP.out.add _ ⟨nilF,p1⟩ Hs.out HBa.out.2.2.2 (fun h=>by have:=hem.2 h;cases this)
        obtain ⟨gb,cb,wb,hab,Ob,-⟩:=HOa.out.app ⟨nilF,p1⟩ ⟨HBa.out.2.1,hss⟩ HBa.out.2.2.1 (by have:=Hhn.out;have:=Hjl.out;have:=Hmn.out;omega)
        have la:(ldP (.pointer (some ⟨g7,0,none⟩))).run Tryz.prog wa = .ok (.agg #[.slice p1.vo p1.vn p1.vc,.slice p1.co p1.cn p1.cc]) wa:=zj HBa.out.1.at
        have HAb:Hid ((Builtin.append_ #[27,27] 27 #[.slice hh.o hh.n hh.c,.slice (some ⟨wa.heap.size,0,none⟩) 1 1]).run Tryz.prog (wa.alloc (.cells #[.string nilF,.slice p1.vo p1.vn p1.vc,.slice p1.co p1.cn p1.cc] 78)) = .ok (.slice (some ⟨gb,0,none⟩) (hh.n+1) cb) wb):=hab;have HOb:=hide Ob;clear hem hab Ob;go_wp2_with (at_builtin;refine xK rfl (.tmp 60) (.tmp 64) rfl rfl rfl HAb.out ?_);go_roundw
        case rel=>exact ⟨j+1,⟨some ⟨gb,0,none⟩,hh.n+1,cb⟩,Hjl.out,rfl,by simp,⟨_,HOb.out,HNx.out,by show hh.n+1 <= j+1;have:=Hhn.out;omega⟩⟩
        case measure=>simp [intOf];have:=Hjl.out;omega
      ·have e0:=K.j9 s h0;have hsn:s≠nilF:=fun e=>h0 (by rw [e];rfl)
       have l8:=zj HX8.out.1.at
       have l3:=zj HA8.out.1.at
       go_wp2_with fail;clear hst8 l8 l3;refine (jB p1 pa _ HX8.out.2 HA8.out.2).mono ?_;rintro x w9 ⟨p2,rfl,S2,N2,b9,hM⟩;have t9:=qV (p':=p2) (HX8.out.1.below b9);have O9:=(HO8.out.later b9).setOther g7 (PC p2) HRW.out.2.2 HRW.out.1 HRW.out.2.1;have P9:PSrc (w9.setRow g7 (PC p2)) p2:=xZ (g:=some g7) S2 (fun k e=>by obtain rfl:=Option.some.inj e;exact PFar.new N2 Hg.out.2) (fun q _ hq=>setRow_other _ _ _ _ (fun e=>hq (by rw [e])));have X9:PBox (w9.setRow g7 (PC p2)) g7 p2:=setRow_heap _ _ _ _ _ _ (HX8.out.1.below b9);obtain ⟨wz,hwz⟩:∃ wz,w9.setRow g7 (PC p2)=wz:=⟨_,rfl⟩;rw [hwz] at t9 O9 P9 X9;have HB9:Hid (PBox wz g7 p2/\PSrc wz p2/\FarH hh p2/\IsP (FoldM L s) p2.P):=⟨X9,P9,hfar p2 (N2.mono (by have:=Hg.out;omega)),zgJ hsn HC1.out HA6.out.2.2 hM⟩;have HO9:=hide O9;clear S2 N2 b9 hM O9 P9 X9 hwz hfar
       have l9:(ldP (.pointer (some ⟨g7,0,none⟩))).run Tryz.prog wz = .ok (PV p2) wz:=zj HB9.out.1.at
       go_wp2_with fail;clear l9;refine (jC p2 _ HB9.out.2.1).mono ?_;rintro x wa ⟨em,rfl,hem,ba⟩;have HOa:=hide (HO9.out.later ba);have HBa:Hid (PBox wa g7 p2/\PSrc wa p2/\FarH hh p2/\IsP (FoldM L s) p2.P):=⟨HB9.out.1.below ba,HB9.out.2.1.below ba,HB9.out.2.2.1,HB9.out.2.2.2⟩;clear ba HO9 HB9
       cases em with
       | true =>
        have HNx:Hid (FPre L (T.take (j+1)) F):=by
         show FPre _ _ _
         rw [HTs.out];refine HFP.out.skip _ (fun r hr n hm=>?_);rw [<- Hs.out] at hm;obtain ⟨C,hC,hI⟩:=HBa.out.2.2.2;exact hem.1 rfl r hr n ((zO hC r hr n).2 ((hI r hr n).2 hm))
        clear hem;go_wp2_with fail;go_roundw
        case rel=>exact ⟨j+1,hh,Hjl.out,rfl,by simp,⟨F,HOa.out,HNx.out,by have:=Hhn.out;omega⟩⟩
        case measure=>simp [intOf];have:=Hjl.out;omega
       | false =>
        have HNx:Hid (FPre L (T.take (j+1)) (F++[⟨s,p2⟩])):=by
         show FPre _ _ _
         rw [HTs.out];exact HFP.out.add _ ⟨s,p2⟩ Hs.out HBa.out.2.2.2 (fun h=>by have:=hem.2 h;cases this)
        obtain ⟨gb,cb,wb,hab,Ob,-⟩:=HOa.out.app ⟨s,p2⟩ ⟨HBa.out.2.1,hss⟩ HBa.out.2.2.1 (by have:=Hhn.out;have:=Hjl.out;have:=Hmn.out;omega)
        have la:(ldP (.pointer (some ⟨g7,0,none⟩))).run Tryz.prog wa = .ok (.agg #[.slice p2.vo p2.vn p2.vc,.slice p2.co p2.cn p2.cc]) wa:=zj HBa.out.1.at
        have HAb:Hid ((Builtin.append_ #[27,27] 27 #[.slice hh.o hh.n hh.c,.slice (some ⟨wa.heap.size,0,none⟩) 1 1]).run Tryz.prog (wa.alloc (.cells #[.string s,.slice p2.vo p2.vn p2.vc,.slice p2.co p2.cn p2.cc] 78)) = .ok (.slice (some ⟨gb,0,none⟩) (hh.n+1) cb) wb):=hab;have HOb:=hide Ob;clear hem hab Ob;go_wp2_with (at_builtin;refine xK rfl (.tmp 60) (.tmp 64) rfl rfl rfl HAb.out ?_);go_roundw
        case rel=>exact ⟨j+1,⟨some ⟨gb,0,none⟩,hh.n+1,cb⟩,Hjl.out,rfl,by simp,⟨_,HOb.out,HNx.out,by show hh.n+1 <= j+1;have:=Hhn.out;omega⟩⟩
        case measure=>simp [intOf];have:=Hjl.out;omega
     ·obtain rfl:j=m:=by omega
      have HFn:Hid (FoA w wr2 (.returned (.tuple #[.slice hh.o hh.n hh.c,.int .i64 0])) L k):=by
       have hT:T.take j=T:=List.take_of_length_le (by have:=Hm.out;omega);have hF:=HFP.out;rw [hT] at hF;have b06:Below w.heap.size w w6:=HB0.out.trans (HM6.out.below.mono HB0.out.size);refine .inl ⟨HO.out,hh,F,rfl,O.src (by have:=Hhn.out;have:=Hmn.out;omega),b06.trans (O.below.mono b06.size),fun ad e=>?_,hF.done HTP.out HKT.out⟩;have:=(O.own.lt ad.block (by show (Value.slice hh.o hh.n hh.c).ownBlock=some ad.block;rw [e];rfl)).1;exact Nat.le_trans b06.size this
      clear O;go_wp2_with fail;go_ret2;exact HFn.out
end
section
open Go.RowKit
attribute [local go_sem ↓] zr zq qh qg K.zy K.zx
attribute [local go_sem] zi zk
variable {w w' w2 W W' : World} {g : Nat}

def dotOf (e:K.En):Rn:=⟨e.rep,e.num⟩
def DtA (w w':World) (x:Ending) (L:List K.En):Prop:=Below w.heap.size w w'/\((K.chk L=0/\∃ p:Pv,x = .returned (.tuple #[PV p,.int .i64 0])/\PSrc w' p/\PNew w.heap.size p/\CanonOf (dotsG (L.map dotOf)) p.P)∨(¬ K.chk L=0/\x = .returned (.tuple #[PV pv0,.int .i64 1])))
theorem res2Pn {fn:Func} {p q:Tmp} {m:Pv} {v:Value} (h:fn.results=#[.cell p 26,.tmp q]) {tmps:Array Value} (hp:tmps.getD p undef = .pointer (some ⟨g,0,none⟩)) (hq:tmps.getD q undef=v) (A:PBox w g m) :
  (results fn tmps).run Tryz.prog w = .ok (.tuple #[PV m,v]) w:=by
 have hl:=bO A.at
 simp only [results,h];rw [Array.getD_eq_getD_getElem?] at hp hq;simp [hp,hq,asAddr,hl]
theorem zc7 (ao:Option Addr) (n cap:Nat) (L:List K.En) (w:World) (hS:K.ESrc w ao n cap L):Calls Tryz.prog 55 #[.slice ao n cap] w fun x w'=>DtA w w' x L:=by
 have b1:=ze w (.cells #[.slice none 0 0,.slice none 0 0] 26);have x1:PBox (w.alloc (.cells #[.slice none 0 0,.slice none 0 0] 26)) w.heap.size pv0:=zm w pv0;obtain ⟨w1,hw1⟩:∃ w1,w.alloc (.cells #[.slice none 0 0,.slice none 0 0] 26)=w1:=⟨_,rfl⟩;obtain ⟨g1,hg1⟩:∃ g1,w.heap.size=g1:=⟨_,rfl⟩;rw [hw1] at b1 x1;rw [hg1] at x1;have HX:Hid (PBox w1 g1 pv0/\K.ESrc w1 ao n cap L/\Below w.heap.size w w1/\w.heap.size=g1):=⟨x1,hS.below b1,b1,hg1⟩;have HL:Hid (L.length=n/\n <= 3518437208883):=⟨hS.1,hS.2.2.2.2⟩;have hnb:=HL.out.2;clear b1 x1 hS;go_enter Tryz.func55,Tryz.ntmps55;go_wp2_with fail;clear hw1 hg1;refine (K.qD ao n cap L _ HX.out.2.1).mono ?_;rintro x w2 ⟨rfl,b2⟩;have HB2:=hide (HX.out.2.2.1.trans (b2.mono HX.out.2.2.1.size));have HX2:Hid (PBox w2 g1 pv0/\K.ESrc w2 ao n cap L/\w.heap.size=g1):=⟨HX.out.1.below b2,HX.out.2.1.below b2,HX.out.2.2.2⟩
 clear b2 HX;rcases K.yz L with hc | hc;rotate_left
 ·have HE:Hid (DtA w (w2.setRow g1 (PC pv0)) (.returned (.tuple #[PV pv0,.int .i64 1])) L):=⟨zh HB2.out (by have:=HX2.out.2.2;omega),.inr ⟨by rw [hc];decide,rfl⟩⟩;have t6:(stP (.pointer (some ⟨g1,0,none⟩)) (.agg #[.slice none 0 0,.slice none 0 0])).run Tryz.prog w2 = .ok () (w2.setRow g1 (PC pv0)):=qV (p':=pv0) HX2.out.1;have HX0:Hid (PBox (w2.setRow g1 (PC pv0)) g1 pv0):=setRow_heap _ _ _ _ _ _ HX2.out.1;rw [hc];clear hc;go_wp2_with fail;refine bodyPost_ret (res2Pn rfl rfl rfl HX0.out) rfl ?_;exact HE.out
 ·rw [hc];have HC:=hide hc;clear hc;go_wp2_with fail;go_loopw [5,16] (fun v i wr=>∃ (k:Nat) (ap:Option Addr) (c:Nat),k <= n/\v = .slice ap k c/\i = .int .i64 (k:Int)/\Hid (OwnD w2.heap.size w2.heap.size w2 wr ap c ((L.take k).map dotOf))) (fun _ i _=>n - (intOf i).toNat)
  case atStart=>exact ⟨0,none,0,Nat.zero_le _,rfl,rfl,World.ownsRow_nil _ _ _ _,Below.refl _ _,Nat.le_refl _,Nat.le_refl _⟩
  case round =>
   obtain ⟨k,ap,c,hk,rfl,rfl,HO⟩:=hrel
   rename World=>wr
   obtain ⟨acc,Hacc⟩:∃ acc,Hid ((L.take k).map dotOf=acc):=⟨_,rfl⟩
   have Hal:Hid (acc.length=k):=by show _=_;rw [<- Hacc.out,List.length_map,List.length_take];have:=HL.out.1;omega
   rw [Hacc.out] at HO;by_cases hlt:k < n
   ·have hlti:(k:Int) < (n:Int):=by omega
    obtain ⟨ad,hao,A0⟩:=(HX2.out.2.1.below HO.out.below).at k hlt;subst hao;obtain ⟨e,He⟩:∃ e,Hid (L.getD k K.en0=e):=⟨_,rfl⟩;rw [He.out] at A0;have hld:=K.zN A0;have HT:=hide (K.jr L k (by rw [HL.out.1];exact hlt));rw [He.out] at HT
    have HN:Hid ((L.take (k+1)).map dotOf=acc++[dotOf e]):=by show _=_;rw [HT.out,List.map_append,Hacc.out];rfl
    obtain ⟨g7,hg7⟩:∃ g7,wr.heap.size=g7:=⟨_,rfl⟩;obtain ⟨w7,hst,X7,B7,-⟩:=K.made wr e g7 hg7;replace hst:(K.st28 (.pointer (some ⟨g7,0,none⟩)) (K.EV e)).run Tryz.prog (wr.alloc (.cells #[.int .i64 0,.int .i64 0,.string ⟨#[]⟩,.int .i64 0] 50)) = .ok () w7:=hst;have HO7:=hide (HO.out.later B7);have l7:(ldD (.pointer (some ⟨g7,0,none⟩))).run Tryz.prog w7 = .ok (.agg #[.int .i64 e.rep,.int .i64 e.num]) w7:=qm (zau X7);have Hlt:=hide hlt;clear A0 X7 B7 hlt;go_wp2_with (at_builtin;go_loud (refine (HO7.out.later (ze w7 _)).appendS [dotOf e] (some ⟨w7.heap.size,0,none⟩) 1 1 (zcO w7 [dotOf e] _ rfl 48 1 rfl (by omega)) (by have:=Hal.out;have:=Hlt.out;omega) rfl (.tmp 20) (.tmp 23) rfl k Hal.out rfl rfl ?_);intro ao8 c8 w8 O8;have HO8:=hide O8;clear O8);clear hst hg7 hld;go_roundw
    case rel=>exact ⟨k+1,ao8,c8,Hlt.out,rfl,by simp,by show OwnD _ _ _ _ _ _ _;rw [HN.out];exact HO8.out⟩
    case measure=>simp [intOf];have:=Hlt.out;omega
   ·have hlti:¬ (k:Int) < (n:Int):=by omega
    obtain rfl:k=n:=by omega
    have HAc:Hid (acc=L.map dotOf):=by show _=_;rw [<- Hacc.out,List.take_of_length_le (by have:=HL.out.1;omega)]
    obtain ⟨hsr,hnw⟩:=HO.out.src (by have:=Hal.out;omega)
    have hsr2:RSrc wr ap k c acc:=by have:=Hal.out;rw [this] at hsr;exact hsr
    have HC7:=hide (yj ap k c acc wr hsr2);have HBr:=wTr HB2 HO.out.below;have HXr:=hide (HX2.out.1.below HO.out.below);have HG:Hid (w.heap.size=g1/\g1 < wr.heap.size):=⟨HX2.out.2.2,HXr.out.lt⟩;clear hsr hnw hsr2;go_wp2_with fail;refine HC7.out.mono ?_;rintro x w8 ⟨p,rfl,S8,n8,b8,c8⟩;have X8:=HXr.out.below b8;have t8:=qV (p':=p) X8;have HX8:Hid (PBox (w8.setRow g1 (PC p)) g1 p):=setRow_heap _ _ _ _ _ _ X8
    have HE:Hid (DtA w (w8.setRow g1 (PC p)) (.returned (.tuple #[PV p,.int .i64 0])) L):=by
     have hb:=HBr.out.trans (b8.mono HBr.out.size);refine ⟨zh hb (by have:=HG.out;omega),.inl ⟨HC.out,p,rfl,jd S8 (fun ad h=>setRow_other _ _ _ _ (by have:=n8.1 ad h;have:=HG.out;omega)) (fun ad h=>setRow_other _ _ _ _ (by have:=n8.2 ad h;have:=HG.out;omega)),n8.mono (by have:=HG.out;omega),by rw [<- HAc.out];exact c8⟩⟩
    clear S8 n8 b8 c8 X8 HC7;go_wp2_with fail;refine bodyPost_ret (res2Pn rfl rfl rfl HX8.out) rfl ?_;exact HE.out
end
section
open Go.RowKit Go.Maps Go.Sort
attribute [local go_sem ↓] qh qg K.zy K.zx
attribute [local go_sem] K.zu K.zH
theorem keyS:Keyed Tryz.prog 9:=string_keyed Tryz.underlying9
theorem zeroDs (w:World):(zeroValue 32).run Tryz.prog w = .ok (HsV hs0) w:=by kernel_rfl
def dotsS (L:List K.En) (s:ByteArray):List Rn:=(L.filter (fun e=>decide (s.size=0) || decide (e.sku=s))).map dotOf
theorem vl (L:List K.En) (s:ByteArray):(dotsS L s).length <= L.length:=by unfold dotsS;rw [List.length_map];exact List.length_filter_le _ _
def nilB:ByteArray:=⟨#[]⟩
theorem zh5 {s:ByteArray} (h:s.size=0):s=nilB:=by
 obtain ⟨d⟩:=s;have:d=#[]:=Array.eq_empty_of_size_eq_zero h;rw [this];rfl
theorem zdP {L:List K.En} {e:K.En} (_:¬ e.sku.size=0) (s:ByteArray) :
  rcs (dotsS (L++[e]) s)=if s=nilB then rcs (dotsS L s)++(RC (dotOf e)).toList else if s=e.sku then rcs (dotsS L s)++(RC (dotOf e)).toList else rcs (dotsS L s):=by
 unfold dotsS;rw [List.filter_append,List.map_append,xy];by_cases h0:s=nilB
 ·subst h0
  have h:List.filter (fun e=>decide (nilB.size=0) || decide (e.sku=nilB)) [e]=[e]:=by simp only [show decide (nilB.size=0)=true from rfl,Bool.true_or,List.filter_cons,List.filter_nil,if_true]
  rw [if_pos rfl,h];simp [kq]
 ·have h1:¬ s.size=0:=fun h=>h0 (zh5 h);rw [if_neg h0];by_cases h2:s=e.sku
  ·subst h2;simp [h1,kq]
  ·have h3:¬ e.sku=s:=fun h=>h2 h.symm;simp [h1,h2,h3,rcs]
def MD (w W:World) (kk:Nat) (L:List K.En):Prop:=∃ K f,MRo Tryz.prog 9 48 2 (w.heap.size+1) w W w.heap.size kk K f (fun s=>rcs (dotsS L s))
theorem zhD {w W:World} {b B k:Nat} {K:ByteArray -> Prop} {f:ByteArray -> Hs} {X:ByteArray -> List Value} (M:MRo Tryz.prog 9 48 2 B w W b k K f X) (s:ByteArray) (d:Rn) (hn:(f s).n <= 8000000000000) :
  ∃ g c2 W2,(Builtin.append_ #[32,32] 32 #[HsV (f s),.slice (some ⟨W.heap.size,0,none⟩) 1 1]).run Tryz.prog (W.alloc (.cells (RC d) 48)) = .ok (.slice (some ⟨g,0,none⟩) ((f s).n+1) c2) W2/\MRm Tryz.prog 9 48 2 B w W2 b k K f X s ⟨some ⟨g,0,none⟩,(f s).n+1,c2⟩ (X s++(RC d).toList)/\∀ q,q < W.heap.size -> (HsV (f s)).ownBlock≠some q -> W2.heap[q]? = W.heap[q]?:=by
 obtain ⟨i0,hi,hz0,hz1,hz2⟩:=info_parts infoD
 obtain ⟨g,c2,W2,h1,h2,h3⟩:=(M.later (ze W (.cells (RC d) 48))).app s (ty:=32) Tryz.underlying32 hi hz0 hz1 hz2 (by simp [Value.cells]) (by decide) ⟨W.heap.size,0,none⟩ 1 (RC d).toList rfl (fun j u hj=>by
  rw [Addr.add_lit,Nat.zero_add,World.cell?_alloc_new]
  simpa using hj) (jY d) (by unfold maxLen;omega) (by omega)
 exact ⟨g,c2,W2,h1,h2,fun q hq hn=>(h3 q (by simp;omega) hn).trans (Below.heap_alloc W _ q hq)⟩
theorem MRo.len {w W:World} {b B k:Nat} {K0:ByteArray -> Prop} {f:ByteArray -> Hs} {L:List K.En} (M:MRo Tryz.prog 9 48 2 B w W b k K0 f (fun s=>rcs (dotsS L s))) (s:ByteArray):(f s).n=(dotsS L s).length:=by
 have h:=(M.rows s).1;rw [qu] at h;omega
theorem zdQ (ao:Option Addr) (n cap:Nat) (L:List K.En) (w:World) (hS:K.ESrc w ao n cap L) (hne:∀ e∈L,¬ e.sku.size=0) :
  Calls Tryz.prog 99 #[.slice ao n cap] w fun x w'=>∃ kk,x = .returned (.map (some w.heap.size))/\MD w w' kk L:=by
 have HS:=hide hS;have HL:Hid (L.length=n):=hS.1;have hn:=hS.2.2.2.2;have HNE:=hide hne;have hmm:=@run_makeMap Tryz.prog;obtain ⟨w1,hw1⟩:∃ w1,w.alloc (.map #[] 0)=w1:=⟨_,rfl⟩;obtain ⟨b,hb⟩:∃ b,w.heap.size=b:=⟨_,rfl⟩;have HM0:Hid (MD w w1 0 []):=⟨_,_,hw1 ▸ MRo.start w⟩;have Hb:=hide hb;clear hS hne;go_enter Tryz.func99,Tryz.ntmps99;go_wp2_with fail;clear hw1 hb;go_loopw [9] (fun i wr=>∃ k:Nat,k <= n/\i = .int .i64 (k:Int)/\Hid (MD w wr (2 * k) (L.take k))) (fun i _=>n - (intOf i).toNat)
 case atStart=>exact ⟨0,Nat.zero_le _,rfl,HM0⟩
 case round =>
  obtain ⟨k,hk,rfl,HM⟩:=hrel
  rename World=>wr
  clear HM0;by_cases hlt:k < n
  ·have hlti:(k:Int) < (n:Int):=by omega
   obtain ⟨K0,f,M⟩:=HM.out;obtain ⟨ad,hao,A0⟩:=(HS.out.below M.below).at k hlt;subst hao;obtain ⟨e,He⟩:∃ e,Hid (L.getD k K.en0=e):=⟨_,rfl⟩;have hsk:=HS.out.sku k hlt;have HT:=hide (K.jr L k (by rw [HL.out];exact hlt));have hee:¬ (L.getD k K.en0).sku.size=0:=HNE.out _ (by rw [List.getD_eq_getElem?_getD,List.getElem?_eq_getElem (by rw [HL.out];exact hlt)];exact List.getElem_mem _);rw [He.out] at A0 hsk HT hee;have HEE:=hide hee;have hld:=K.zN A0;obtain ⟨g7,hg7⟩:∃ g7,wr.heap.size=g7:=⟨_,rfl⟩;obtain ⟨w7,hst,X7,B7,S7⟩:=K.made wr e g7 hg7;replace hst:(K.st28 (.pointer (some ⟨g7,0,none⟩)) (K.EV e)).run Tryz.prog (wr.alloc (.cells #[.int .i64 0,.int .i64 0,.string ⟨#[]⟩,.int .i64 0] 50)) = .ok () w7:=hst;have M7:=(M.later B7).later (zf w7)
   have hnl:∀ s,(f s).n <= 8000000000000:=fun s=>by rw [M.len s];have h1:=vl (L.take k) s;have h2:=List.length_take_le k L;omega
   have hoff:∀ s,(HsV (f s)).ownBlock≠some g7:=fun s h=>by have:=((M.rows s).lt g7 h).2;omega
   have HL0:Hid (∀ W,Below w7.drew.heap.size w7.drew W -> (Instr.lookup 149 (.map (some b)) (.string e.sku) false).run Tryz.prog W = .ok (HsV (f e.sku)) W):=fun W hW=>by
    have:=(M7.later hW).look keyS Tryz.underlying9 Tryz.underlying149 (zeroDs W) e.sku hsk;rwa [Hb.out] at this
   obtain ⟨g8,c8,w8,ha8,M8,k8⟩:=zhD M7 e.sku (dotOf e) (hnl _);obtain ⟨w9,hu9,M9,k9⟩:=M8.put keyS Tryz.underlying9 Tryz.underlying149 hsk (by unfold maxLen;omega);rw [Hb.out] at hu9 k9
   have hgb:g7≠b:=by have:=M.hb;rw [Hb.out] at this;omega
   have z7:w7.drew.heap[g7]? = w7.heap[g7]?:=rfl;have z8:w8.heap[g7]? = w7.heap[g7]?:=k8 g7 (show g7 < w7.heap.size by omega) (hoff _);have z9:w9.heap[g7]? = w7.heap[g7]?:=(k9 g7 (Nat.lt_of_lt_of_le (show g7 < w7.heap.size by omega) (by have:=M8.hb.2.2;have:=(Array.getElem?_eq_some_iff.1 (z8.trans X7)).1;omega)) hgb).trans z8
   have HSt:Hid (∀ W:World,W.heap[g7]? = w7.heap[g7]? -> W.cell? ⟨g7,2,none⟩=some (.string e.sku)/\(ldD (.pointer (some ⟨g7,0,none⟩))).run Tryz.prog W = .ok (.agg #[.int .i64 e.rep,.int .i64 e.num]) W):=fun W h=>by
    have X:K.Box W g7 50 e:=h.trans X7;exact ⟨X.at.c2,qm (zau X)⟩
   have HZ:Hid (w8.heap[g7]? = w7.heap[g7]? /\ w9.heap[g7]? = w7.heap[g7]?):=⟨z8,z9⟩;have HZA:Hid ((w7.drew.alloc (.cells #[.int .i64 e.rep,.int .i64 e.num] 48)).heap[g7]? = w7.heap[g7]?):=Below.heap_alloc w7.drew _ g7 (show g7 < w7.heap.size by omega);have l0:=HL0.out w7.drew (Below.refl _ _);have l1:=HL0.out _ (ze w7.drew (.cells #[.int .i64 e.rep,.int .i64 e.num] 48));have l2:(Instr.lookup 149 (.map (some b)) (.string e.sku) false).run Tryz.prog (w7.alloc (.cells #[.int .i64 e.rep,.int .i64 e.num] 48)).drew = .ok (HsV (f e.sku)) (w7.drew.alloc (.cells #[.int .i64 e.rep,.int .i64 e.num] 48)):=l1
   obtain ⟨K1,f1,X1,M9',hX1⟩:∃ K1 f1 X1,MRo Tryz.prog 9 48 2 (w.heap.size+1) w w9 w.heap.size (2 * k+1) K1 f1 X1/\∀ s,X1 s=if s=e.sku then rcs (dotsS (L.take k) s)++(RC (dotOf e)).toList else rcs (dotsS (L.take k) s):=⟨_,_,_,M9,fun s=>by
    by_cases h:s=e.sku
    ·subst h;simp
    ·simp [h]⟩
   have hn1:(f1 nilB).n <= 8000000000000:=by
    have h:=(M9'.rows nilB).1;have h1:=vl (L.take k) nilB;have h2:=List.length_take_le k L;rw [hX1] at h
    split at h
    ·rw [List.length_append,qu] at h;have:(RC (dotOf e)).toList.length=2:=rfl;omega
    ·rw [qu] at h;omega
   have l3:=M9'.look keyS Tryz.underlying9 Tryz.underlying149 (zeroDs w9) nilB (by decide);rw [Hb.out] at l3;obtain ⟨ga,ca,wa,haa,Ma,ka⟩:=zhD M9' nilB (dotOf e) hn1;obtain ⟨wb,hub,Mb,kb⟩:=Ma.put keyS Tryz.underlying9 Tryz.underlying149 (by decide) (by unfold maxLen;omega);rw [Hb.out] at hub;have HL3:Hid ((Instr.lookup 149 (.map (some b)) (.string ⟨#[]⟩) false).run Tryz.prog w9 = .ok (.slice (f1 nilB).o (f1 nilB).n (f1 nilB).c) w9):=l3;have HUB:Hid ((Instr.mapUpdate 149 (.map (some b)) (.string ⟨#[]⟩) (.slice (some ⟨ga,0,none⟩) ((f1 nilB).n+1) ca)).run Tryz.prog wa = .ok () wb):=hub;have HAA:Hid ((Builtin.append_ #[32,32] 32 #[.slice (f1 nilB).o (f1 nilB).n (f1 nilB).c,.slice (some ⟨w9.heap.size,0,none⟩) 1 1]).run Tryz.prog (w9.alloc (.cells #[.int .i64 e.rep,.int .i64 e.num] 48)) = .ok (.slice (some ⟨ga,0,none⟩) ((f1 nilB).n+1) ca) wa):=haa
   have HMb:Hid (MD w wb (2 * (k+1)) (L.take (k+1))):=by
    have hX:(fun s=>rcs (dotsS (L.take (k+1)) s))=fun u=>if u=nilB then X1 nilB++(RC (dotOf e)).toList else X1 u:=by
     funext s
     rw [HT.out,zdP hee s,hX1 s,hX1 nilB];have h0:¬ nilB=e.sku:=fun h=>hee (by rw [<- h];rfl);by_cases h1:s=nilB
     ·subst h1;simp [h0]
     ·simp [h1]
    have h:=Mb;rw [<- hX] at h;exact ⟨_,_,h⟩
   have Hlt:=hide hlt;have HA8:Hid ((Builtin.append_ #[32,32] 32 #[.slice (f e.sku).o (f e.sku).n (f e.sku).c,.slice (some ⟨w7.heap.size,0,none⟩) 1 1]).run Tryz.prog (w7.drew.alloc (.cells #[.int .i64 e.rep,.int .i64 e.num] 48)) = .ok (.slice (some ⟨g8,0,none⟩) ((f e.sku).n+1) c8) w8):=ha8;clear A0 X7 B7 S7 M M7 M8 M9 M9' hX1 hn1 l3 haa Ma ka hub Mb kb k8 k9 z7 z8 z9 ha8 hlt hk;go_upto_region 5 with fail;clear hst hld;refine wp_region_held_drew (S:=fun W=>W.cell? ⟨g7,2,none⟩=some (.string e.sku)/\(ldD (.pointer (some ⟨g7,0,none⟩))).run Tryz.prog W = .ok (.agg #[.int .i64 e.rep,.int .i64 e.num]) W) (by kernel_rfl) (HSt.out _ rfl) (fun hHeld=>?_);refine wU 0 ?_;refine wU 1 ?_;refine wU 2 ?_;refine wU 3 ?_;refine wU 4 ?_;refine wU 5 ?_;refine wU 7 ?_;refine wU 8 ?_;refine wpAnyH_ready (rs:=[6,9]) (by kernel_rfl) (by simp) ?_;refine AllReadyH.cons rfl (fun K hK=>?_) ?_
   ·go_simp;refine hK.out _ _ (HSt.out _ rfl) (fun hHeld=>?_);clear hK K;refine wpAnyH_ready (rs:=[9]) (by kernel_rfl) (by simp) (.cons rfl (fun K hK=>?_) .nil);go_simp;refine hK.out _ _ (HSt.out _ HZA.out) (fun hHeld=>?_);clear hK K;refine wpAnyH_ready (rs:=[10]) (by kernel_rfl) (by simp) (.cons rfl (fun K hK=>?_) .nil);refine xB (by rfl) (.tmp 19) (.tmp 22) (by rfl) (by rfl) (by rfl) HA8.out ?_;refine hK.out _ _ (HSt.out _ HZ.out.1) (fun hHeld=>?_);clear hK K;refine wpAnyH_ready (rs:=[11]) (by kernel_rfl) (by simp) (.cons rfl (fun K hK=>?_) .nil);go_simp;refine hK.out _ _ (HSt.out _ HZ.out.2) (fun hHeld=>?_);clear hK K;refine wpAnyH_done (by kernel_rfl) ?_ _;clear hHeld;have l3:=HL3.out;have u3:=HUB.out;obtain ⟨-,d3⟩:=HSt.out w9 HZ.out.2;clear l0 l1 l2 hu9;go_wp2_with (at_builtin;refine xK rfl (.tmp 26) (.tmp 29) rfl rfl rfl HAA.out ?_)
    go_roundw
    case rel=>exact ⟨k+1,Hlt.out,by simp,HMb⟩
    case measure=>simp [intOf];have:=Hlt.out;omega
   ·refine AllReadyH.cons rfl (fun K hK=>?_) ?_;rotate_left
    ·exact AllReadyH.nil
    go_simp;refine hK.out _ _ (HSt.out _ HZA.out) (fun hHeld=>?_);clear hK K;refine wpAnyH_ready (rs:=[6]) (by kernel_rfl) (by simp) (.cons rfl (fun K hK=>?_) .nil);go_simp;refine hK.out _ _ (HSt.out _ HZA.out) (fun hHeld=>?_);clear hK K;refine wpAnyH_ready (rs:=[10]) (by kernel_rfl) (by simp) (.cons rfl (fun K hK=>?_) .nil);refine xB (by rfl) (.tmp 19) (.tmp 22) (by rfl) (by rfl) (by rfl) HA8.out ?_;refine hK.out _ _ (HSt.out _ HZ.out.1) (fun hHeld=>?_);clear hK K;refine wpAnyH_ready (rs:=[11]) (by kernel_rfl) (by simp) (.cons rfl (fun K hK=>?_) .nil);go_simp;refine hK.out _ _ (HSt.out _ HZ.out.2) (fun hHeld=>?_);clear hK K;refine wpAnyH_done (by kernel_rfl) ?_ _;clear hHeld;have l3:=HL3.out;have u3:=HUB.out;obtain ⟨-,d3⟩:=HSt.out w9 HZ.out.2;clear l0 l1 l2 hu9;go_wp2_with (at_builtin;refine xK rfl (.tmp 26) (.tmp 29) rfl rfl rfl HAA.out ?_)
    go_roundw
    case rel=>exact ⟨k+1,Hlt.out,by simp,HMb⟩
    case measure=>simp [intOf];have:=Hlt.out;omega
  ·obtain rfl:k=n:=by omega
   have HE:Hid (∃ kk,MD w wr kk L):=by
    have h:=HM.out;rw [List.take_of_length_le (by have:=HL.out;omega)] at h;exact ⟨_,h⟩
   go_wp2_with fail;go_ret;obtain ⟨kk,h⟩:=HE.out;exact ⟨kk,by rw [Hb.out];rfl,h⟩
end
end Go.Proofs.YtjffpimfngdggaaGreat
namespace Go.Proofs.YtjffpimfngdggaaGreat.K
open Go.RowKit

theorem zaC {R:List En} (ha:Asc R) (hc:∀ e∈R,ceE e=0):chk R=0:=by
 have key:okN R R.length=true:=by
  unfold okN;rw [List.all_eq_true];intro k hk;have hk':=List.mem_range.1 hk;unfold okAt;rw [Bool.and_eq_true];refine ⟨?_,?_⟩
  ·rw [beq_iff_eq];exact hc _ (zap R k hk')
  ·cases k with
   | zero=>rfl
   | succ j =>
    have h:=List.pairwise_iff_getElem.1 ha j (j+1) (by omega) hk' (by omega)
    have e1:R.getD j en0=R[j]:=by simp [List.getD,show j < R.length by omega]
    have e2:R.getD (j+1) en0=R[j+1]:=by simp [List.getD,hk']
    simp only [Nat.add_sub_cancel,e1,e2,h,Bool.or_true]
 unfold chk;rw [if_pos key]
theorem wH {R:List En} (h:chk R=0):Asc R:=by
 refine bs R (fun i hi=>?_);have:=yW R _ (zaB h) (i+1) hi;unfold okAt at this;rw [Bool.and_eq_true] at this;simpa using this.2
end Go.Proofs.YtjffpimfngdggaaGreat.K
namespace Go.Proofs.YtjffpimfngdggaaGreat
open Go.RowKit
theorem jJ {L:List K.En} (h:K.chk L=0):∀ e∈L,K.ceE e=0:=fun e he=>by
 obtain ⟨k,hk,rfl⟩:=List.getElem_of_mem he;have h1:=K.yW L _ (K.zaB h) k hk;unfold K.okAt at h1;rw [Bool.and_eq_true] at h1
 have e1:L.getD k K.en0=L[k]:=by simp [List.getD,List.getElem?_eq_getElem hk]
 rw [e1] at h1;simpa using h1.1
theorem zdf {e:K.En} (h:K.ceE e=0):okD (dotOf e)=true:=by
 unfold K.ceE at h;by_cases h1:K.isR e.rep=false
 ·rw [if_pos h1] at h;cases h
 ·rw [if_neg h1] at h;by_cases h2:e.num < 1∨1000000000 < e.num
  ·rw [if_pos h2] at h;cases h
  ·have h3:K.isR e.rep=true:=by simpa using h1
   unfold okD dotOf V.isR;unfold K.isR at h3;simp only [Bool.and_eq_true,decide_eq_true_eq] at h3 ⊢;exact ⟨h3,by omega,by omega⟩
theorem zfh {L:List K.En} (h:K.chk L=0) {x y:K.En} (hx:x∈L) (hy:y∈L) (e:dotOf x=dotOf y):x=y:=by
 apply Classical.byContradiction;intro hn;refine K.kB (K.wH h) (fun _=>Iff.rfl) ⟨x,hx,y,hy,?_,hn⟩;unfold dotOf at e;simp only [Rn.mk.injEq] at e;simp [K.sameDot,e.1,e.2]
theorem zhL {e:K.En} (h:K.ceE e=0):¬ e.sku.size=0:=by
 intro h0
 have hn:e.sku.data.toList=[]:=by
  apply List.eq_nil_of_length_eq_zero;rw [K.jH];exact h0
 unfold K.ceE at h;by_cases h1:K.isR e.rep=false
 ·rw [if_pos h1] at h;cases h
 ·rw [if_neg h1] at h;by_cases h2:e.num < 1∨1000000000 < e.num
  ·rw [if_pos h2] at h;cases h
  ·rw [if_neg h2,hn] at h
   have hg:K.good ([]:List UInt8)=false:=by decide
   simp [hg] at h
def BX (L:List K.En) (F:List Rc) (X:List Pv):Prop:=(∀ r:Nat,r < 16 -> ∀ m,(∃ p∈X,mem (runsAt p.P r) m)↔∃ f∈F,mem (dotsG (dotsS L f.s) r) m/\mem (runsAt f.p.P r) m)/\wt X <= F.length * (L.length+1)
theorem BX.nil (L:List K.En):BX L [] []:=⟨fun r _ m=>by simp,Nat.zero_le _⟩
theorem BX.snoc {L:List K.En} {F:List Rc} {X:List Pv} (h:BX L F X) {f:Rc} {D:Pst} {p:Pv} (hD:CanonOf (dotsG (dotsS L f.s)) D) (hm:∃ C:Nat -> List Rn,(∀ r,r < 16 -> MeetOf (runsAt D r) (runsAt f.p.P r) (C r))/\CanonOf C p.P):BX L (F++[f]) (X++[p]):=by
 obtain ⟨C,hC,hP⟩:=hm
 have key:∀ r:Nat,r < 16 -> ∀ m,mem (C r) m↔mem (dotsG (dotsS L f.s) r) m/\mem (runsAt f.p.P r) m:=fun r hr m=>by rw [(hC r hr).2 m,zO hD r hr m]
 refine ⟨fun r hr m=>?_,?_⟩
 ·constructor
  ·rintro ⟨q,hq,hm⟩;rcases List.mem_append.1 hq with hq | hq
   ·obtain ⟨g,hg,h1⟩:=(h.1 r hr m).1 ⟨q,hq,hm⟩;exact ⟨g,List.mem_append_left _ hg,h1⟩
   ·obtain rfl:q=p:=by simpa using hq
    rw [zO hP r hr m,key r hr m] at hm;exact ⟨f,by simp,hm⟩
  ·rintro ⟨g,hg,h1⟩;rcases List.mem_append.1 hg with hg | hg
   ·obtain ⟨q,hq,h2⟩:=(h.1 r hr m).2 ⟨g,hg,h1⟩;exact ⟨q,List.mem_append_left _ hq,h2⟩
   ·obtain rfl:g=f:=by simpa using hg
    exact ⟨p,by simp,by rw [zO hP r hr m,key r hr m];exact h1⟩
 ·have h1:p.P.cloud.length <= (dotsS L f.s).length:=zch hP _ (fun r hr n hn=>by
   obtain ⟨d,hd,-,e1,e2⟩:=(xq _ _ _).1 ((key r hr n).1 hn).1
   have:d=⟨(r:Int),n⟩:=by cases d;simp_all
   rw [<- this];exact hd)
  have h2:=vl L f.s;have h3:=h.2;rw [wL,List.length_append];simp only [wt,List.length_cons,List.length_nil];rw [Nat.add_mul];omega
theorem ziR {a b:ByteArray} (h:(a.toList == b.toList)=true):a=b:=by
 rw [beq_iff_eq,ByteArray.toList_eq,ByteArray.toList_eq] at h
 cases a;cases b
 simp at h;rw [h]
theorem zf1 (a:ByteArray):(a.toList == a.toList)=true:=by simp
theorem zeL {s:ByteArray} (h:s.size=0):s=nilF:=by
 obtain ⟨d⟩:=s;have:d=#[]:=Array.eq_empty_of_size_eq_zero h;rw [this];rfl
theorem zfi {e:K.En} (he:okD (dotOf e)=true) (r:Rc):covB r e=true↔(r.s=nilF∨r.s=e.sku)/\mem (runsAt r.p.P e.rep.toNat) e.num:=by
 unfold covB;rw [Bool.and_eq_true,qs,Bool.or_eq_true,decide_eq_true_eq]
 have h1:V.isR e.rep=true:=by
  unfold okD dotOf at he;simp only [Bool.and_eq_true] at he;exact he.1
 constructor
 ·rintro ⟨h2,h3⟩;refine ⟨h2.elim (fun h=>.inl (zeL h)) (fun h=>.inr (ziR h)),h3.2⟩
 ·rintro ⟨h2,h3⟩;refine ⟨h2.elim (fun h=>.inl (by rw [h];rfl)) (fun h=>.inr (by rw [h];exact zf1 _)),h1,h3⟩
theorem ze7 {L:List K.En} {R F:List Rc} (hc:K.chk L=0) (hF:FoldOf R F) {X:List Pv} (hX:BX L F X) {P:Pst} (hP:CanonOf (runsOf X) P):L.filter (pkB P false)=L.filter (freeB R):=by
 apply List.filter_congr;intro e he;have hd:=zdf (jJ hc e he);have hs:=zhL (jJ hc e he)
 have hR:V.isR e.rep=true:=by
  have h:=hd;unfold okD dotOf at h;simp only [Bool.and_eq_true] at h;exact h.1
 have hr:0 <= e.rep/\e.rep < 16:=by simpa [V.isR] using hR
 have hrn:e.rep.toNat < 16:=by omega
 have hdot:∀ s:ByteArray,mem (dotsG (dotsS L s) e.rep.toNat) e.num↔(s=nilF∨s=e.sku):=fun s=>by
  rw [xq];unfold dotsS;constructor
  ·rintro ⟨d,hd1,-,h1,h2⟩;obtain ⟨x,hx,rfl⟩:=List.mem_map.1 hd1;obtain ⟨hx1,hx2⟩:=List.mem_filter.1 hx
   have ed:dotOf x=dotOf e:=by
    unfold dotOf at h1 h2 ⊢;simp only at h1 h2;congr 1;omega
   have:=zfh hc hx1 he ed;subst this;rw [Bool.or_eq_true,decide_eq_true_eq,decide_eq_true_eq] at hx2;exact hx2.elim (fun h=>.inl (zeL h)) (fun h=>.inr h.symm)
  ·intro h;refine ⟨dotOf e,List.mem_map.2 ⟨e,List.mem_filter.2 ⟨he,?_⟩,rfl⟩,hd,by unfold dotOf;simp only;omega,rfl⟩;rw [Bool.or_eq_true,decide_eq_true_eq,decide_eq_true_eq];exact h.elim (fun h=>.inl (by rw [h];rfl)) (fun h=>.inr h.symm)
 have hin:inB P e=true↔∃ f∈F,(f.s=nilF∨f.s=e.sku)/\FoldM R f.s e.rep.toNat e.num:=by
  rw [qs];unfold dotIn;simp only [hR,true_and];rw [zO hP _ hrn,j7,hX.1 _ hrn];constructor
  ·rintro ⟨f,hf,h1,h2⟩;refine ⟨f,hf,(hdot f.s).1 h1,?_⟩;obtain ⟨C,hC,hI⟩:=(hF.2.1 f hf).2.1;exact (hI _ hrn _).1 ((zO hC _ hrn _).1 h2)
  ·rintro ⟨f,hf,h1,h2⟩;refine ⟨f,hf,(hdot f.s).2 h1,?_⟩;obtain ⟨C,hC,hI⟩:=(hF.2.1 f hf).2.1;exact (zO hC _ hrn _).2 ((hI _ hrn _).2 h2)
 have hin2:inB P e=true↔R.any (fun r=>covB r e)=true:=by
  rw [hin,List.any_eq_true];constructor
  ·rintro ⟨f,hf,h1,⟨x,hx,hxs,hm⟩,-⟩;exact ⟨x,hx,(zfi hd x).2 ⟨by rw [hxs];exact h1,hm⟩⟩
  ·rintro ⟨r,hr1,hcv⟩;obtain ⟨h1,h2⟩:=(zfi hd r).1 hcv
   have step:∀ s,(s=nilF∨s=e.sku) -> FoldM R s e.rep.toNat e.num -> ∃ f∈F,(f.s=nilF∨f.s=e.sku)/\FoldM R f.s e.rep.toNat e.num:=fun s hs1 hM=>by
    obtain ⟨x,hx,hxs,-⟩:=hM.1;apply Classical.byContradiction;intro hn;refine hF.2.2 s ⟨x,hx,hxs⟩ (fun f hf hfs=>hn ⟨f,hf,by rw [hfs];exact hs1,by rw [hfs];exact hM⟩) _ hrn _ hM
   by_cases hz:∃ x∈R,x.s=nilF/\mem (runsAt x.p.P e.rep.toNat) e.num
   ·exact step nilF (.inl rfl) ⟨hz,fun h=>absurd rfl h⟩
   ·rcases h1 with h1 | h1
    ·exact absurd ⟨r,hr1,h1,h2⟩ hz
    ·exact step e.sku (.inr rfl) ⟨⟨r,hr1,h1,h2⟩,fun _=>hz⟩
 unfold pkB freeB
 cases h1:inB P e <;> cases h2:R.any (fun r=>covB r e)
 ·rfl
 ·rw [h1,h2] at hin2;exact absurd (hin2.2 rfl) (by decide)
 ·rw [h1,h2] at hin2;exact absurd (hin2.1 rfl) (by decide)
 ·rfl
theorem zgG {L:List K.En} {R:List Rc} (hc:K.chk L=0) (hF:FoldOf R []):L.filter (freeB R)=L:=by
 have h:=ze7 hc hF (BX.nil L) (P:=pv0.P) ⟨fun _=>[],fun _ _=>⟨trivial,fun _=>Iff.rfl⟩,by decide⟩;rw [<- h];apply List.filter_eq_self.2;intro e _
 have:inB pv0.P e=false:=by
  cases hb:inB pv0.P e
  ·rfl
  ·rw [qs] at hb;unfold dotIn at hb;obtain ⟨h1,h2⟩:=hb;exact absurd h2 (by unfold runsAt pv0;simp [vecPart,cloudPart,V.at',mem,V.clamp])
 unfold pkB;rw [this];rfl
end Go.Proofs.YtjffpimfngdggaaGreat
