/- OOf ORh -/
import Derived.Test.YtjffpimfngdggaaGreatTk
import Derived.Test.YtjffpimfngdggaaGreatFs19
import Derived.Test.YtjffpimfngdggaaGreatFs18
import Derived.Test.YtjffpimfngdggaaGreatFs08
import Derived.Deep.RegionHeldLaw
import Derived.Deep.CutRange
set_option maxRecDepth 100000
set_option maxHeartbeats 8000000
namespace Go.Proofs.YtjffpimfngdggaaGreat
section
open Go.RowKit Go.Lib
attribute [local go_sem ↓] zr zq vU vS qh qg
attribute [local go_sem] jb xt zE zi qq zk
def okD (d:Rn):Bool:=V.isR d.lo && (decide (1 <= d.hi) && decide (d.hi <= 1000000000))
def dotsG (C:List Rn) (r:Nat):List Rn:=(C.filter (fun d=>okD d && decide (d.lo=(r:Int)))).map (fun d=>⟨d.hi,d.hi⟩)
theorem y9 (C:List Rn) (d:Rn) (r:Nat):dotsG (C++[d]) r=if (okD d && decide (d.lo=(r:Int)))=true then dotsG C r++[⟨d.hi,d.hi⟩] else dotsG C r:=by
 unfold dotsG;rw [List.filter_append];by_cases h:(okD d && decide (d.lo=(r:Int)))=true
 ·rw [if_pos h,List.filter_cons_of_pos (p:=fun d:Rn=>okD d && decide (d.lo=(r:Int))) h];simp
 ·rw [if_neg h,List.filter_cons_of_neg (p:=fun d:Rn=>okD d && decide (d.lo=(r:Int))) h];simp
theorem zbp (C:List Rn) (r:Nat):(dotsG C r).length <= C.length:=by unfold dotsG;rw [List.length_map];exact List.length_filter_le _ _
theorem xq (C:List Rn) (r:Nat) (n:Int):mem (dotsG C r) n↔∃ d∈C,okD d=true/\d.lo=(r:Int)/\d.hi=n:=by
 unfold mem dotsG;constructor
 ·rintro ⟨h1,h2,x,hx,h3,h4⟩;obtain ⟨d,hd,rfl⟩:=List.mem_map.1 hx;obtain ⟨hd1,hd2⟩:=List.mem_filter.1 hd;simp only [Bool.and_eq_true,decide_eq_true_eq] at hd2;simp only at h3 h4;exact ⟨d,hd1,hd2.1,hd2.2,by omega⟩
 ·rintro ⟨d,hd,h1,h2,rfl⟩;have h3:=h1;unfold okD at h3;simp only [Bool.and_eq_true,decide_eq_true_eq] at h3;exact ⟨h3.2.1,h3.2.2,⟨d.hi,d.hi⟩,List.mem_map.2 ⟨d,List.mem_filter.2 ⟨hd,by simp [h1,h2]⟩,rfl⟩,Int.le_refl _,Int.le_refl _⟩
theorem yB {G G':Nat -> List Rn} {P:Pst} (h:CanonOf G P) (e:∀ r,r < 16 -> ∀ n,mem (G r) n↔mem (G' r) n):CanonOf G' P:=by
 obtain ⟨N,hN,hP⟩:=h;exact ⟨N,fun r hr=>⟨(hN r hr).1,fun n=>((hN r hr).2 n).trans (e r hr n)⟩,hP⟩
theorem zg0 (d:Array Rn):(compactUpTo d d.size).Sublist d.toList:=by
 have h:(compactUpTo d d.size).Sublist ((List.range d.size).map (d[·]!)):=List.filter_sublist.map _;rwa [range_map_get] at h
theorem zhk (d:Array Rn) (i:Nat) (h:i < d.size):d[i]! = d[i]:=getElem!_pos d i h
theorem zg1 (d:Array Rn) (m:Nat):m <= d.size -> ∀ j,j < m -> d[j]! ∈ compactUpTo d m:=by
 induction m with
 | zero=>intro _ j hj;omega
 | succ m ih =>
  intro hm j hj;rw [compactUpTo_succ];by_cases e:j=m
  ·subst e;by_cases hk:keeps d j=true
   ·rw [if_pos hk];simp
   ·rw [if_neg hk,List.append_nil]
    have hk':¬ (j=0∨d[j]! ≠ d[j - 1]!):=by simpa [keeps] using hk
    have h0:¬ j=0:=fun h=>hk' (Or.inl h);have h1:d[j]! = d[j - 1]! := Classical.byContradiction fun h=>hk' (Or.inr h);rw [h1];exact ih (by omega) (j - 1) (by omega)
  ·exact List.mem_append_left _ (ih (by omega) j (by omega))
theorem zg2 (d:Array Rn) (x:Rn):x∈compactUpTo d d.size↔x∈d.toList:=by
 constructor
 ·exact fun h=>(zg0 d).mem h
 ·intro h;obtain ⟨i,hi,rfl⟩:=List.mem_iff_getElem.1 h
  have hi':i < d.size:=by simpa using hi
  have:=zg1 d d.size (Nat.le_refl _) i hi';rw [zhk d i hi'] at this;simpa using this
structure SI3 (B:Nat) (wb W:World) (F:Nat -> Sl) (G:Nat -> List Rn):Prop where
 s:Sets W B F
 o:OwnA (B+1) W F
 l:∀ r,r < 16 -> (F r).L=G r
 b:Below B wb W
 h:B+1 <= W.heap.size
theorem SI3.on {B:Nat} {wb W W':World} {F:Nat -> Sl} {G:Nat -> List Rn} (I:SI3 B wb W F G) (hb:Below W.heap.size W W'):SI3 B wb W' F G:=
 ⟨I.s.below hb,I.o.below hb,I.l,I.b.trans (hb.mono (by have:=I.h;omega)),Nat.le_trans I.h hb.size⟩
theorem SI3.congr {B:Nat} {wb W:World} {F:Nat -> Sl} {G G':Nat -> List Rn} (I:SI3 B wb W F G) (h:∀ r,r < 16 -> G r=G' r):SI3 B wb W F G':=
 ⟨I.s,I.o,fun r hr=>(I.l r hr).trans (h r hr),I.b,I.h⟩
theorem SI3.mid {B:Nat} {wb W w2:World} {F F':Nat -> Sl} {G:Nat -> List Rn} (I:SI3 B wb W F G) (h2:∀ q,q < W.heap.size -> Off F q -> w2.heap[q]? = W.heap[q]? /\ Off F' q):Sets w2 B F:=
 ((h2 _ (by have:=I.h;omega) (I.o.off _ (Or.inl (by omega)))).1).trans I.s
theorem SI3.push {B:Nat} {wb W w2:World} {F:Nat -> Sl} {G:Nat -> List Rn} (I:SI3 B wb W F G) (k:Nat) (_:k < 16) (e:Rn) (n cap2 g:Nat)
  (O2:OwnA (B+1) w2 (Fset F k ⟨some ⟨g,0,none⟩,n+1,cap2,(F k).L++[e]⟩)) (h2:∀ q,q < W.heap.size -> Off F q -> w2.heap[q]? = W.heap[q]? /\ Off (Fset F k ⟨some ⟨g,0,none⟩,n+1,cap2,(F k).L++[e]⟩) q) (h3:W.heap.size < w2.heap.size) (h4:∀ n0 w0,n0 <= B+1 -> Below n0 w0 W -> Below n0 w0 w2) (v:Value) (hv:v = .slice (some ⟨g,0,none⟩) (n+1) cap2) :
  SI3 B wb (w2.setCell ⟨B,k,none⟩ v) (Fset F k ⟨some ⟨g,0,none⟩,n+1,cap2,(F k).L++[e]⟩) (fun r=>if r=k then G r++[e] else G r):=by
 have hh:=I.h
 have other:∀ q,q≠B -> (w2.setCell ⟨B,k,none⟩ v).heap[q]? = w2.heap[q]?:=fun q hq=>by
  simp [World.setCell,Array.getElem?_modify,show ¬ B=q by omega]
 refine ⟨(I.mid h2).set k _ v hv,O2.kept (fun q hq hno=>other q (fun e=>hno ?_)),fun r hr=>?_,?_,?_⟩
 ·rw [e];exact O2.off _ (Or.inl (by omega))
 ·by_cases h:r=k
  ·subst h;rw [xG,if_pos rfl,<- I.l r hr]
  ·rw [qE _ _ _ _ h,if_neg h,<- I.l r hr]
 ·exact V.zV (h4 _ _ (by omega) I.b) (by simp)
 ·have:(w2.setCell ⟨B,k,none⟩ v).heap.size=w2.heap.size:=by simp [World.setCell]
  omega
theorem zdU (w:World):Calls Tryz.prog 151 #[.slice none 0 0] w fun e w'=>e = .returned (.slice none 0 0)/\w'=w:=by
 have hnil:(binOp .eql 32 (.slice none 0 0) (.slice none 0 0)).run Tryz.prog w = .ok (.bool true) w:=Lib.run_eql_slice_nil_nil w 0 0 Tryz.underlying32;go_enter Tryz.func151,Tryz.ntmps151;go_wp2_with fail;go_ret;exact ⟨rfl,rfl⟩
theorem sortD0 (ao:Option Addr) (cap:Nat) (w:World):Calls Tryz.prog 152 #[.slice ao 0 cap,.func (.func 153) #[] #[]] w fun e w'=>e = .returned (.tuple #[])/\w'=w:=AnyF.slices_SortFunc_none Tryz.sortD ao cap _ w
theorem zdW (ao:Option Addr) (n c:Nat) (D:List Rn) (w:World) (hS:RSrc w ao n c D) :
  Calls Tryz.prog 151 #[.slice ao n c] w fun e w'=>∃ ao c',e = .returned (.slice ao n c')/\OwnD w.heap.size w.heap.size w w' ao c' D:=by
 cases ao with
 | some ad=>exact zdV ad n c D w hS
 | none =>
  obtain ⟨rfl,rfl⟩:=hS.nil rfl;obtain rfl:D=[]:=List.eq_nil_of_length_eq_zero hS.len;refine (zdU w).mono ?_;rintro e w' ⟨rfl,rfl⟩;exact ⟨none,0,rfl,World.ownsRow_nil _ _ _ _,Below.refl _ _,Nat.le_refl _,Nat.le_refl _⟩
theorem yj (ao:Option Addr) (n c:Nat) (D:List Rn) (w:World) (hS:RSrc w ao n c D) :
  Calls Tryz.prog 101 #[.slice ao n c] w fun e w'=>GivesP w w' e (CanonOf (dotsG D)):=by
 have HB0:=hide (ze w (.cells (PC pv0) 26));have HP0:=hide (zm w pv0);have HS:=hide (hS.below HB0.out);have HD:Hid (D.length=n/\n <= 8796093022207):=⟨hS.len,hS.big⟩;clear hS;go_enter Tryz.func101,Tryz.ntmps101;go_wp2_with fail;refine (zdW ao n c D _ HS.out).mono ?_;rintro e w2 ⟨ao2,c2,rfl,O2⟩;have HO2:=hide O2.below;have hW2:=O2.below.size
 have HW2:Hid (w.heap.size+1 <= w2.heap.size):=by show _ <= _;simpa using hW2
 clear HS hW2;by_cases hn0:n=0
 ·subst hn0;obtain rfl:D=[]:=List.eq_nil_of_length_eq_zero HD.out.1;have HB2:=wTr HB0 HO2.out;have HP2:=hide (HP0.out.below HO2.out);clear O2;go_wp2_with fail;refine (sortD0 ao2 c2 _).mono ?_;rintro e w3 ⟨rfl,rfl⟩
  rename World=>w3
  obtain ⟨B,hB⟩:∃ B,w3.heap.size=B:=⟨_,rfl⟩;have hI0:SI3 w3.heap.size w3 (w3.alloc (.cells (SA fun _=>sl0) 136)) (fun _=>sl0) (dotsG []):=⟨jw w3 _,OwnA.nil _ _,fun r _=>rfl,ze w3 _,by simp⟩;obtain ⟨w4,hw4⟩:∃ w4,w3.alloc (.cells (SA fun _=>sl0) 136)=w4:=⟨_,rfl⟩;rw [hw4,hB] at hI0;have HI:=hide hI0;have HBw:Hid (w3.heap.size=B):=hB;clear hI0;go_wp2_with (go_at_call 154;refine (zbr _ 0 c2 _ (by omega)).mono ?_;rintro e w5 ⟨rfl,rfl⟩);clear hw4 hB;go_loopw [14] (fun i wr=>i = .int .i64 0/\wr=w5) (fun _ _=>0)
  case atStart=>exact ⟨rfl,rfl⟩
  case round =>
   obtain ⟨rfl,hwe⟩:=hrel;subst hwe
   rename World=>w4
   have l9:=wX HI.out.s;have HSR:Hid (∀ r,r < 16 -> RSrc w4 ((fun _=>sl0) r:Sl).ao ((fun _=>sl0) r:Sl).n ((fun _=>sl0) r:Sl).cap ((fun _=>sl0) r:Sl).L):=fun r hr=>HI.out.o.src HI.out.h hr (by simp [sl0]);have b36:=hide HI.out.b;go_wp2_with fail;refine (qU (fun _=>sl0) _ HSR.out).mono ?_;rintro e w8 ⟨p,rfl,S2,n2,b2,c2'⟩
   have b38:Below w3.heap.size w3 w8:=by rw [HBw.out];exact b36.out.trans (b2.mono (by have:=HI.out.h;omega))
   obtain ⟨s1,e1,e2,e3,e4⟩:=qt (w:=w) (HP2.out.below b38) S2 (n2.mono (by have:=HI.out.h;have:=HBw.out;have:=HW2.out;omega)) (HB2.out.trans (b38.mono HB2.out.size)) (Nat.le_refl _);have HE1:=hide e1;have HE2:Hid (GivesP w (w8.setRow w.heap.size (PC p)) (.returned (PV p)) (CanonOf (dotsG []))):=⟨p,rfl,e2,e3,e4,c2'⟩;clear S2 n2 b2 c2' e1 e2 e3 e4 l9 b38;go_wp2_with fail;exact bodyPost_ret (v:=PV p) (resP Tryz.results101 rfl HE1.out) rfl HE2.out
 ·obtain ⟨ad2,rfl⟩:∃ ad2,ao2=some ad2:=by
   cases ao2 with
   | some x=>exact ⟨x,rfl⟩
   | none=>have h1:=(O2.src (by have:=HD.out;omega)).1.nil rfl;have h2:=HD.out;omega
  obtain ⟨M2,hb2,hc2,hm2⟩:=O2.mr;have HM2:=hide M2;have HBL:=hide hb2;have HC2:Hid (n <= c2/\c2 <= maxLen):=⟨by have:=HD.out;omega,hm2⟩;clear O2 M2 hb2 hc2 hm2;go_wp2_with fail;refine (zeh ad2 c2 n D.toArray _ HM2.out (by simpa using HD.out.1) HD.out.2).mono ?_;rintro e w3 ⟨rfl,d',hp,hs,M3,b3⟩
  have hbl:w.heap.size+1 <= ad2.block:=by have:=HBL.out;simpa using this
  have HB3:=hide (HB0.out.trans ((HO2.out.trans (b3.mono HBL.out)).mono HB0.out.size));have HP3:=hide (HP0.out.below (HO2.out.trans (b3.mono HBL.out)));have HM3:=hide M3;have Hbl:=hide hbl
  have HMem:Hid (∀ x,x∈compactUpTo d' d'.size↔x∈D):=fun x=>by rw [zg2];have:=hp.mem_iff (a:=x);simpa using this
  obtain ⟨B,hB⟩:∃ B,w3.heap.size=B:=⟨_,rfl⟩;have hX4:=jw w3 (fun _=>sl0);have b34:=ze w3 (.cells (SA fun _=>sl0) 136);have s4:=World.size_alloc w3 (.cells (SA fun _=>sl0) 136);obtain ⟨w4,hw4⟩:∃ w4,w3.alloc (.cells (SA fun _=>sl0) 136)=w4:=⟨_,rfl⟩;rw [hw4] at hX4 b34 s4;have M4:=M3.on b34;have HC:=hide (ky ad2 c2 n d' w4 M4 hs HD.out.2 HC2.out.1 (by have:=HC2.out.2;unfold maxLen at this;omega));have H4:Hid (Sets w4 B (fun _=>sl0)/\Below w3.heap.size w3 w4/\w4.heap.size=B+1/\ad2.block < B/\w3.heap.size=B):=⟨hB ▸ hX4,b34,by rw [s4,hB],by have:=M3.lt;omega,hB⟩;clear hp M3 b3 HM2 HBL HO2 HP0 HB0 hbl hX4 b34 s4 M4;go_wp2_with fail;clear hw4 hB;refine HC.out.mono ?_;rintro e w5 ⟨m,d5,rfl,M5,hm5,hs5,ht5,K5⟩;obtain ⟨C,hCd⟩:∃ C,d5.toList.take m=C:=⟨_,rfl⟩
  have HCm:Hid (C.length=m/\m <= 8796093022207/\∀ x,x∈C↔x∈D):=by
   refine ⟨?_,by have:=HD.out.2;omega,fun x=>?_⟩
   ·rw [<- hCd,List.length_take];simp;omega
   ·rw [<- hCd,ht5];exact HMem.out x
  have HAt:Hid (∀ t,t < m -> RnAt w5 (ad2.add (t * 2)) (C.getD t rn0)):=fun t ht=>by
   have A:=M5.at t (by omega)
   have e:C.getD t rn0=d5[t]! := by
    rw [<- hCd,List.getD_eq_getElem?_getD,List.getElem?_take,if_pos ht,Array.getElem?_toList,Array.getElem?_eq_getElem (by omega),getElem!_pos d5 t (by omega)];rfl
   rw [e];exact A
  have HI0:Hid (SI3 B w5 w5 (fun _=>sl0) (dotsG (C.take 0))):=by
   have h1:=H4.out;have hk:=K5.size;exact ⟨(K5.block B (by omega) (by omega)).trans h1.1,OwnA.nil _ _,fun r _=>rfl,Below.refl _ _,by omega⟩
  have HK5:=hide K5;have hmb:m <= 8796093022207:=HCm.out.2.1;clear M5 hm5 hs5 ht5 hCd K5 HC;go_wp2_with fail;go_loopw [14] (fun i wr=>∃ (k:Nat) (F:Nat -> Sl),k <= m/\i = .int .i64 (k:Int)/\Hid (SI3 B w5 wr F (dotsG (C.take k)))) (fun i _=>m - (intOf i).toNat)
  case atStart=>exact ⟨0,_,Nat.zero_le _,rfl,HI0⟩
  case round =>
   obtain ⟨k,F,hk,rfl,HI⟩:=hrel
   rename World=>w6
   clear HI0;by_cases hlt:k < m
   ·have hlti:(k:Int) < (m:Int):=by omega
    obtain ⟨dd,hdd⟩:∃ dd,C.getD k rn0=dd:=⟨_,rfl⟩;have A5:=HAt.out k hlt;rw [hdd] at A5
    have hlb:(ad2.add (k * 2)).block < B:=by rw [zs];exact H4.out.2.2.2.1
    have A0:RnAt w6 (ad2.add (k * 2)) dd:=⟨(HI.out.b.cell hlb).trans A5.c0,(HI.out.b.cell (by rw [zs];exact hlb)).trans A5.c1⟩;have hld:=qm A0
    have HT:Hid (C.take (k+1)=C.take k++[dd]):=by
     show _=_
     rw [List.take_add_one,<- hdd,List.getD_eq_getElem?_getD,List.getElem?_eq_getElem (by have:=HCm.out.1;omega)];rfl
    obtain ⟨g7,hg7⟩:∃ g7,w6.heap.size=g7:=⟨_,rfl⟩;obtain ⟨w7,hst,XD,b7,z7⟩:=madeD w6 dd g7 hg7;replace hst:(stD (.pointer (some ⟨g7,0,none⟩)) (RV dd)).run Tryz.prog (w6.alloc (.cells #[.int .i64 0,.int .i64 0] 48)) = .ok () w7:=hst
    have l7:=qm XD.at
    have HX7:=hide XD;have HI7:=hide (HI.out.on b7)
    have HOC:Hid (Off F g7):=by rw [<- hg7];exact HI.out.o.off w6.heap.size (Or.inr (Nat.le_refl _))
    have HLT:Hid (B+1 <= g7):=by rw [<- hg7];exact HI.out.h
    have HKm:Hid (k+1 <= m):=hlt;clear A5 A0 XD b7 z7 HI hlt hk hlb hdd;go_wp2_with fail;clear hst hg7 hld;refine (yZ dd _).mono ?_;rintro e w8 ⟨rfl,b8⟩;have HI8:=hide (HI7.out.on b8);have HX8:=hide (HX7.out.below b8);obtain ⟨bb,hbb⟩:∃ bb,(V.isR dd.lo && (decide (1 <= dd.hi) && decide (dd.hi <= 1000000000)))=bb:=⟨_,rfl⟩;have Hbb:Hid (okD dd=bb):=hbb;rw [hbb];clear b8 HI7 HX7 l7 hbb
    cases bb with
    | false =>
     have HG:Hid (SI3 B w5 w8 F (dotsG (C.take (k+1)))):=HI8.out.congr (fun r _=>by rw [HT.out,y9,Hbb.out];simp);go_wp2_with fail;go_roundw
     case rel=>exact ⟨k+1,F,HKm.out,by simp,HG.out⟩
     case measure=>simp [intOf];have:=HKm.out;omega
    | true =>
     obtain ⟨y,num,rfl,hy,hn1⟩:∃ (y:Nat) (num:Int),dd=⟨(y:Int),num⟩/\y < 16/\True:=by
      have h:=Hbb.out;unfold okD at h;simp only [Bool.and_eq_true,V.isR,decide_eq_true_eq] at h;obtain ⟨lo,hi⟩:=dd;exact ⟨lo.toNat,hi,by simp only at h;congr 1;omega,by simp only at h;omega,trivial⟩
     have HG:Hid (∀ r,(if r=y then dotsG (C.take k) r++[⟨num,num⟩] else dotsG (C.take k) r)=dotsG (C.take (k+1)) r):=fun r=>by
      rw [HT.out,y9,Hbb.out];by_cases h:r=y
      ·subst h;simp
      ·rw [if_neg h,if_neg (by simp;omega)]
     have HGL:=hide HX8.out.lt;have m0:=HX8.out.at.c0;have m1:w8.cell? ⟨g7,1,none⟩=some (.int .i64 num):=HX8.out.at.c1;dsimp only at m0
     have HLN:Hid ((F y).n < 8796093022207):=by
      have h:=HI8.out.o.len hy;rw [HI8.out.l y hy] at h;have h2:=zbp (C.take k) y;rw [List.length_take] at h2
      show _ < _
      have:=HKm.out;omega
     have c1:=HI8.out.s.cell y hy;obtain ⟨sa,sn,sc,hf⟩:∃ sa sn sc,(F y).ao=sa/\(F y).n=sn/\(F y).cap=sc:=⟨_,_,_,rfl,rfl,rfl⟩;rw [hf.1,hf.2.1,hf.2.2] at c1;have c1n:=((ze w8 (.cells #[.int .i64 num,.int .i64 num] 182)).cell (World.block_lt_of_cell? _ _ c1)).trans c1;have c1d:=((ze w8.drew (.cells #[.int .i64 num,.int .i64 num] 182)).cell (p:=⟨B,y,none⟩) (World.block_lt_of_cell? _ _ c1)).trans c1;have HF:=hide hf
     have y0:(0:Int) <= (y:Int):=by omega
     have y1:(y:Int) < 16:=by omega
     have HSW:Hid (∀ W:World,W.heap[g7]? = w8.heap[g7]? -> W.cell? ⟨g7,0,none⟩=some (.int .i64 (y:Int))/\W.cell? ⟨g7,1,none⟩=some (.int .i64 num)):=fun W e1 =>
      ⟨(World.cell?_of_block e1).trans m0,(World.cell?_of_block e1).trans m1⟩
     clear hf hn1;go_wp2_with fail;refine wp_region_held_drew (S:=fun W=>W.cell? ⟨g7,0,none⟩=some (.int .i64 (y:Int))/\W.cell? ⟨g7,1,none⟩=some (.int .i64 num)) (by kernel_rfl) (HSW.out _ rfl) (fun hHeld=>?_);refine wU 0 ?_;refine wU 1 ?_;refine wU 2 ?_;refine wU 3 ?_;refine wU 4 ?_;refine wU 6 ?_;refine wU 7 ?_;refine wU 8 ?_;refine wU 9 ?_;refine wU 10 ?_;refine wpAnyH_ready (rs:=[5,11]) (by kernel_rfl) (by simp) ?_;refine AllReadyH.cons rfl (fun K hK=>?_) ?_
     ·go_simp;refine hK.out _ _ (HSW.out _ rfl) (fun hHeld=>?_);clear hK K;refine wpAnyH_ready (rs:=[11]) (by kernel_rfl) (by simp) (.cons rfl (fun K hK=>?_) .nil);go_simp;refine hK.out _ _ (HSW.out _ (Below.heap_alloc _ _ _ HGL.out)) (fun hHeld=>?_);clear hK K;refine wpAnyH_ready (rs:=[12]) (by kernel_rfl) (by simp) (.cons rfl (fun K hK=>?_) .nil);refine HI8.out.o.step HI8.out.h y hy ⟨num,num⟩ _ (by rfl) HLN.out (by rfl) (.tmp 25) (.tmp 31) (by rfl) sa sn sc HF.out (by rfl) _ (by rfl) (by rfl) ?_;intro g6 c6 w9 O6 h2 h3 h4;have d1:=(HI8.out.mid h2).cell y hy;have d2:=(HI8.out.mid h2).frozen y;have HP:=hide (HI8.out.push y hy ⟨num,num⟩ sn c6 g6 O6 h2 h3 h4 _ rfl);have HK2:=hide (kX (B:=B) (k:=y) (v:=.slice (some ⟨g6,0,none⟩) (sn+1) c6) h2 HGL.out HOC.out (by have:=HLT.out;omega)).1;refine hK.out _ _ (HSW.out _ (h2 _ HGL.out HOC.out).1) (fun hHeld=>?_)
      clear hK K;refine wU 13 ?_;refine wpAnyH_ready (rs:=[14]) (by kernel_rfl) (by simp) (.cons rfl (fun K hK=>?_) .nil);go_simp;refine hK.out _ _ (HSW.out _ HK2.out) (fun hHeld=>?_);clear hK K;refine wpAnyH_done (by kernel_rfl) ?_ _;clear hHeld O6 h2 h3 h4;go_wp2_with fail;go_roundw
      case rel=>exact ⟨k+1,_,HKm.out,by simp,HP.out.congr (fun r hr=>HG.out r)⟩
      case measure=>simp [intOf];have:=HKm.out;omega
     ·refine AllReadyH.cons rfl (fun K hK=>?_) ?_;rotate_left
      ·exact AllReadyH.nil
      go_simp;refine hK.out _ _ (HSW.out _ (Below.heap_alloc _ _ _ HGL.out)) (fun hHeld=>?_);clear hK K;refine wpAnyH_ready (rs:=[5]) (by kernel_rfl) (by simp) (.cons rfl (fun K hK=>?_) .nil);go_simp;refine hK.out _ _ (HSW.out _ (Below.heap_alloc _ _ _ HGL.out)) (fun hHeld=>?_);clear hK K;refine wpAnyH_ready (rs:=[12]) (by kernel_rfl) (by simp) (.cons rfl (fun K hK=>?_) .nil);refine HI8.out.o.step HI8.out.h y hy ⟨num,num⟩ _ (by rfl) HLN.out (by rfl) (.tmp 25) (.tmp 31) (by rfl) sa sn sc HF.out (by rfl) _ (by rfl) (by rfl) ?_;intro g6 c6 w9 O6 h2 h3 h4;have d1:=(HI8.out.mid h2).cell y hy;have d2:=(HI8.out.mid h2).frozen y;have HP:=hide (HI8.out.push y hy ⟨num,num⟩ sn c6 g6 O6 h2 h3 h4 _ rfl);have HK2:=hide (kX (B:=B) (k:=y) (v:=.slice (some ⟨g6,0,none⟩) (sn+1) c6) h2 HGL.out HOC.out (by have:=HLT.out;omega)).1;refine hK.out _ _ (HSW.out _ (h2 _ HGL.out HOC.out).1) (fun hHeld=>?_)
      clear hK K;refine wU 13 ?_;refine wpAnyH_ready (rs:=[14]) (by kernel_rfl) (by simp) (.cons rfl (fun K hK=>?_) .nil);go_simp;refine hK.out _ _ (HSW.out _ HK2.out) (fun hHeld=>?_);clear hK K;refine wpAnyH_done (by kernel_rfl) ?_ _;clear hHeld O6 h2 h3 h4;go_wp2_with fail;go_roundw
      case rel=>exact ⟨k+1,_,HKm.out,by simp,HP.out.congr (fun r hr=>HG.out r)⟩
      case measure=>simp [intOf];have:=HKm.out;omega
   ·have hlti:¬ (k:Int) < (m:Int):=by omega
    obtain rfl:k=m:=by omega
    have l9:=wX HI.out.s
    have HSR:Hid (∀ r,r < 16 -> RSrc w6 (F r).ao (F r).n (F r).cap (F r).L):=fun r hr=>HI.out.o.src HI.out.h hr (by
     have h:=HI.out.o.len hr;rw [HI.out.l r hr] at h;have h2:=zbp (C.take k) r;rw [List.length_take] at h2
     omega)
    have HFL:Hid (∀ r,r < 16 -> (F r).L=dotsG C r):=fun r hr=>by rw [HI.out.l r hr,List.take_of_length_le (by have:=HCm.out.1;omega)]
    have b56:=hide HI.out.b;have Hh:=hide HI.out.h;go_wp2_with fail;refine (qU F _ HSR.out).mono ?_;rintro e w8 ⟨p,rfl,S2,n2,b2,c2'⟩;have h4:=H4.out;have b68:Below B w5 w8:=b56.out.trans (b2.mono (by have:=Hh.out;omega));have b48:Below (w.heap.size+1) w4 w8:=(Kd.below (Below.refl _ _) HK5.out (by have:=Hbl.out;omega) (by have:=Hbl.out;omega)).trans (b68.mono (by have:=Hbl.out;omega));have b38:Below (w.heap.size+1) w3 w8:=(h4.2.1.mono (by have:=Hbl.out;omega)).trans b48;obtain ⟨s1,e1,e2,e3,e4⟩:=qt (w:=w) ((b38.block w.heap.size (by omega)).trans HP3.out) S2 (n2.mono (by have:=Hh.out;have:=Hbl.out;omega)) (HB3.out.trans (b38.mono (by omega))) (Nat.le_refl _);have HE1:=hide e1
    have HE2:Hid (GivesP w (w8.setRow w.heap.size (PC p)) (.returned (PV p)) (CanonOf (dotsG D))):=⟨p,rfl,e2,e3,e4,yB (c2'.congr HFL.out) (fun r _ n=>by
     rw [xq,xq];have hm:=HCm.out.2.2;constructor
     ·rintro ⟨d,hd,h⟩;exact ⟨d,(hm d).1 hd,h⟩
     ·rintro ⟨d,hd,h⟩;exact ⟨d,(hm d).2 hd,h⟩)⟩
    clear S2 n2 b2 c2' e1 e2 e3 e4 l9 b38 b48 b68 h4;go_wp2_with fail;exact bodyPost_ret (v:=PV p) (resP Tryz.results101 rfl HE1.out) rfl HE2.out
end
section
open Go.RowKit
attribute [local go_sem ↓] zr zq qh qg ji jG
attribute [local go_sem] zi zk jj qJ xw
variable {w w' w2 W W' : World} {g : Nat}

theorem jM (d:Rn) (w:World):Calls Tryz.prog 45 #[RV d] w fun e w'=>e = .returned (.bool (okD d))/\Below w.heap.size w w':=by
 have HB:=hide (ze w (.cells (RC d) 48))
 have A0:=(qe w 48 d).at
 have c0:=A0.c0;have c1:(w.alloc (.cells (RC d) 48)).cell? ⟨w.heap.size,1,none⟩=some (.int .i64 d.hi):=A0.c1;clear A0;obtain ⟨lo,hi⟩:=d;dsimp only at c0 c1 ⊢;by_cases h1:0 <= lo
 ·by_cases h2:lo < 16
  ·by_cases h3:1 <= hi
   ·have HF:Hid (okD ⟨lo,hi⟩=decide (hi <= 1000000000)):=by show _=_;unfold okD V.isR;simp [h1,h2,h3]
    go_enter Tryz.func45,Tryz.ntmps45;go_wp2_with fail;go_ret;exact ⟨zt HF.out.symm,HB.out⟩
   ·have HF:Hid (okD ⟨lo,hi⟩=false):=by show _=_;unfold okD V.isR;simp [h3]
    go_enter Tryz.func45,Tryz.ntmps45;go_wp2_with fail;go_ret;exact ⟨zt HF.out.symm,HB.out⟩
  ·have HF:Hid (okD ⟨lo,hi⟩=false):=by show _=_;unfold okD V.isR;simp [h2]
   go_enter Tryz.func45,Tryz.ntmps45;go_wp2_with fail;go_ret;exact ⟨zt HF.out.symm,HB.out⟩
 ·have HF:Hid (okD ⟨lo,hi⟩=false):=by show _=_;unfold okD V.isR;simp [h1]
  go_enter Tryz.func45,Tryz.ntmps45;go_wp2_with fail;go_ret;exact ⟨zt HF.out.symm,HB.out⟩
theorem zfP {ao:Option Addr} {m c:Nat} {Z:List Int} (h:V.Src W ao m c Z) (k:Nat) (hk:k < m):∃ ad,ao=some ad/\W.cell? (ad.add k)=some (.int .i64 (Z.getD k 0)):=by
 cases ao with
 | none=>have:=(h.2.1 rfl).1;omega
 | some ad=>exact ⟨ad,rfl,h.2.2 ad rfl k hk⟩
theorem xN (d:Rn) (c:Sn):inSp d c=true↔c.rep=d.lo/\c.lo <= d.hi/\d.hi <= c.hi:=by unfold inSp;simp
theorem vH (p:Pv) (d:Rn) (w:World) (hS:PSrc w p):Calls Tryz.prog 79 #[PV p,RV d] w fun e w'=>GivB w w' e (dotIn p.P d):=by
 have b1:=ze w (.cells (PC p) 26);have x1:=zm w p;have s1:=World.size_alloc w (.cells (PC p) 26);obtain ⟨w1,hw1⟩:∃ w1,w.alloc (.cells (PC p) 26)=w1:=⟨_,rfl⟩;obtain ⟨g1,hg1⟩:∃ g1,w.heap.size=g1:=⟨_,rfl⟩;rw [hw1] at b1 x1 s1;rw [hg1] at x1 s1;have b2:=ze w1 (.cells (RC d) 48);have x2:=qe w1 48 d;obtain ⟨w2,hw2⟩:∃ w2,w1.alloc (.cells (RC d) 48)=w2:=⟨_,rfl⟩;rw [hw2] at b2 x2;rw [s1] at x2;obtain ⟨g2,hg2⟩:∃ g2,g1+1=g2:=⟨_,rfl⟩;rw [hg2] at x2;have b12:=b1.trans (b2.mono b1.size);have HX:Hid (PBox w2 g1 p/\Box w2 g2 48 d/\PSrc w2 p/\Below w.heap.size w w2):=⟨x1.below b2,x2,hS.below b12,b12⟩
 have ld:=qm x2.at
 clear b1 b2 b12 x1 x2 hS;go_enter Tryz.func79,Tryz.ntmps79;go_wp2_with fail;clear hw1 hw2 s1 hg1 ld;refine (jM d _).mono ?_;rintro e w3 ⟨rfl,b3⟩;have HX3:Hid (PBox w3 g1 p/\Box w3 g2 48 d/\PSrc w3 p/\Below w.heap.size w w3):=⟨HX.out.1.below b3,HX.out.2.1.below b3,HX.out.2.2.1.below b3,HX.out.2.2.2.trans (b3.mono HX.out.2.2.2.size)⟩;obtain ⟨bb,hbb⟩:∃ bb,okD d=bb:=⟨_,rfl⟩;rw [hbb];clear b3 HX hg2
 cases bb with
 | false =>
  have HF:Hid (GivB w w3 (.returned (.bool false)) (dotIn p.P d)):=⟨false,rfl,BIf.no (fun h=>by
   rw [qX] at h
   have:okD d=true:=by unfold okD V.isR;simp [h.1,h.2.1,h.2.2.1,h.2.2.2.1]
   rw [hbb] at this
   cases this),HX3.out.2.2.2⟩
  clear hbb;go_wp2_with fail;go_ret;exact HF.out
 | true =>
  obtain ⟨y,num,rfl,hy,hn1,hn2⟩:∃ (y:Nat) (num:Int),d=⟨(y:Int),num⟩/\y < 16/\1 <= num/\num <= 1000000000:=by
   have h:=hbb;unfold okD at h;simp only [Bool.and_eq_true,V.isR,decide_eq_true_eq] at h;obtain ⟨lo,hi⟩:=d;exact ⟨lo.toNat,hi,by simp only at h;congr 1;omega,by simp only at h;omega,h.2.1,h.2.2⟩
  clear hbb
  have HIff:Hid (dotIn p.P ⟨(y:Int),num⟩↔(num <= p.P.vec.getD y 0∨∃ c,c∈p.P.cloud/\inSp ⟨(y:Int),num⟩ c=true)):=by
   show _↔_
   rw [qX];simp only [Int.toNat_natCast,xN];constructor
   ·rintro ⟨-,-,-,-,h⟩;exact h
   ·intro h;exact ⟨by omega,by omega,hn1,hn2,h⟩
  have HSt:Hid (∀ W,Below w3.heap.size w3 W -> W.cell? ⟨g1,0,none⟩=some (.slice p.vo p.vn p.vc)/\W.cell? ⟨g2,0,none⟩=some (.int .i64 (y:Int))/\W.cell? ⟨g2,1,none⟩=some (.int .i64 num)):=fun W hW =>
   ⟨(HX3.out.1.below hW).nums.1,(HX3.out.2.1.below hW).at.c0,(HX3.out.2.1.below hW).at.c1⟩
  have hvl:p.P.vec.length=p.vn:=HX3.out.2.2.1.vec.1;have HLo:Hid (∀ W,Below w3.heap.size w3 W -> ¬ num <= p.P.vec.getD y 0 -> True):=fun _ _ _=>trivial;have hcb:p.cn <= 5864062014805:=HX3.out.2.2.1.cloud.big;by_cases hyv:y < p.vn
  ·have hyi:(y:Int) < (p.vn:Int):=by omega
   obtain ⟨ad,hvo,q0⟩:=zfP HX3.out.2.2.1.vec y hyv;obtain ⟨tv,htv⟩:∃ tv,p.P.vec.getD y 0=tv:=⟨_,rfl⟩;rw [htv] at q0;have HSv:Hid (∀ W,Below w3.heap.size w3 W -> W.cell? ⟨g1,0,none⟩=some (.slice (some ad) p.vn p.vc)/\W.cell? ⟨g2,0,none⟩=some (.int .i64 (y:Int))/\W.cell? ⟨g2,1,none⟩=some (.int .i64 num)/\W.cell? (ad.add y)=some (.int .i64 tv)):=fun W hW=>⟨by rw [<- hvo];exact (HSt.out W hW).1,(HSt.out W hW).2.1,(HSt.out W hW).2.2,(hW.cell (World.block_lt_of_cell? _ _ q0)).trans q0⟩;have Htv:=hide htv;clear q0 htv hvo;go_upto_region 3 with fail;refine wp_region_held_drew (S:=fun W=>W.cell? ⟨g1,0,none⟩=some (.slice (some ad) p.vn p.vc)/\W.cell? ⟨g2,0,none⟩=some (.int .i64 (y:Int))/\W.cell? ⟨g2,1,none⟩=some (.int .i64 num)/\W.cell? (ad.add y)=some (.int .i64 tv)) (by kernel_rfl) (HSv.out _ (zf w3)) (fun hHeld=>?_)
   refine wU 0 ?_;refine wU 1 ?_;refine wU 2 ?_;refine wU 3 ?_;refine wU 4 ?_;refine wU 5 ?_;refine wU 6 ?_;refine wU 7 ?_;refine wU 8 ?_;refine wU 9 ?_;refine wU 10 ?_;refine wU 11 ?_;refine wU 12 ?_;refine wU 13 ?_;refine wU 14 ?_;refine wU 15 ?_;refine wU 16 ?_;refine wpAnyH_done (by kernel_rfl) ?_ _;clear hHeld;by_cases hnt:num <= tv
   ·have HF:Hid (GivB w w3.drew (.returned (.bool true)) (dotIn p.P ⟨(y:Int),num⟩)):=⟨true,rfl,BIf.yes (HIff.out.2 (.inl (by rw [Htv.out];exact hnt))),HX3.out.2.2.2.trans ((zf w3).mono HX3.out.2.2.2.size)⟩;go_wp2_with fail;go_ret;exact HF.out
   ·have Hnv:Hid (¬ num <= p.P.vec.getD y 0):=by rw [Htv.out];exact hnt
    have b4:Below w3.heap.size w3 w3.drew:=zf w3;obtain ⟨w4,hw4⟩:∃ w4,w3.drew=w4:=⟨_,rfl⟩;rw [hw4] at b4 ⊢;clear hw4 HSv;clear hvl;have HX4:Hid (PBox w4 g1 p/\Box w4 g2 48 ⟨(y:Int),num⟩/\PSrc w4 p/\Below w.heap.size w w4):=⟨HX3.out.1.below b4,HX3.out.2.1.below b4,HX3.out.2.2.1.below b4,HX3.out.2.2.2.trans (b4.mono HX3.out.2.2.2.size)⟩;clear b4 HX3 HSt HLo;go_wp2_with fail;go_loopw [5] (fun i wr=>∃ k:Nat,k <= p.cn/\i = .int .i64 (k:Int)/\Hid (Below w4.heap.size w4 wr/\∀ j,j < k -> inSp ⟨(y:Int),num⟩ (p.P.cloud.getD j sn0)=false)) (fun i _=>p.cn - (intOf i).toNat)
    case atStart=>exact ⟨0,Nat.zero_le _,rfl,Below.refl _ _,fun j hj=>by omega⟩
    case round =>
     obtain ⟨k,hk,rfl,HI⟩:=hrel
     rename World=>wr
     have d1:=(HX4.out.1.below HI.out.1).nums.2;by_cases hlt:k < p.cn
     ·have hlti:(k:Int) < (p.cn:Int):=by omega
      obtain ⟨ad,hco,A5⟩:=(HX4.out.2.2.1.below HI.out.1).cloud.at k hlt;rw [hco] at d1;obtain ⟨s,hs⟩:∃ s,p.P.cloud.getD k sn0=s:=⟨_,rfl⟩;rw [hs] at A5;have l5:=ql A5;obtain ⟨g6,hg6⟩:∃ g6,wr.heap.size=g6:=⟨_,rfl⟩;obtain ⟨w6,hst6,X6,b6,-⟩:=madeS wr s g6 hg6;have X2:=(HX4.out.2.1.below HI.out.1).below b6;have e0:=X2.at.c0;have e1:w6.cell? ⟨g2,1,none⟩=some (.int .i64 num):=X2.at.c1;dsimp only at e0
      obtain ⟨f0,f1,f2⟩:=X6.at
      have HB6:=hide (HI.out.1.trans (b6.mono HI.out.1.size));have Hs:=hide hs
      have HMem:Hid (s∈p.P.cloud):=by
       rw [<- hs,List.getD_eq_getElem?_getD,List.getElem?_eq_getElem (by rw [HX4.out.2.2.1.cloud.len];exact hlt)];exact List.getElem_mem _
      have HBw:=hide (HX4.out.2.2.2.trans (HB6.out.mono HX4.out.2.2.2.size));have HYes:Hid (inSp ⟨(y:Int),num⟩ s=true -> GivB w w6 (.returned (.bool true)) (dotIn p.P ⟨(y:Int),num⟩)):=fun h=>⟨true,rfl,BIf.yes (HIff.out.2 (.inr ⟨s,HMem.out,h⟩)),HBw.out⟩
      have HNo:Hid (inSp ⟨(y:Int),num⟩ s=false -> ∀ j,j < k+1 -> inSp ⟨(y:Int),num⟩ (p.P.cloud.getD j sn0)=false):=fun h j hj=>by
       by_cases e:j=k
       ·rw [e,Hs.out];exact h
       ·exact HI.out.2 j (by omega)
      obtain ⟨rp,lo,hi⟩:=s;dsimp only at f0 f1 f2;have Hlt:=hide hlt;clear A5 X6 b6 X2 hs hlt hk hco;by_cases h1:rp=(y:Int)
      ·have h1b:(rp == (y:Int))=true:=by simpa using h1
       by_cases h2:lo <= num
       ·by_cases h3:num <= hi
        ·have HE:=hide (HYes.out (by rw [xN];exact ⟨h1,h2,h3⟩));clear h1;go_wp2_with fail;clear hst6 hg6;go_ret;exact HE.out
        ·have HE:=hide (HNo.out (by rw [<- Bool.not_eq_true,xN];rintro ⟨-,-,h⟩;exact h3 h));clear h1;go_wp2_with fail;clear hst6 hg6;go_roundw
         case rel=>exact ⟨k+1,Hlt.out,by simp,HB6.out,HE.out⟩
         case measure=>simp [intOf];have:=Hlt.out;omega
       ·have HE:=hide (HNo.out (by rw [<- Bool.not_eq_true,xN];rintro ⟨-,h,-⟩;exact h2 h));clear h1;go_wp2_with fail;clear hst6 hg6;go_roundw
        case rel=>exact ⟨k+1,Hlt.out,by simp,HB6.out,HE.out⟩
        case measure=>simp [intOf];have:=Hlt.out;omega
      ·have h1b:(rp == (y:Int))=false:=by simpa using h1
       have HE:=hide (HNo.out (by rw [<- Bool.not_eq_true,xN];rintro ⟨h,-,-⟩;exact h1 h));clear h1;go_wp2_with fail;clear hst6 hg6;go_roundw
       case rel=>exact ⟨k+1,Hlt.out,by simp,HB6.out,HE.out⟩
       case measure=>simp [intOf];have:=Hlt.out;omega
     ·have hlti:¬ (k:Int) < (p.cn:Int):=by omega
      have HF:Hid (GivB w wr (.returned (.bool false)) (dotIn p.P ⟨(y:Int),num⟩)):=⟨false,rfl,BIf.no (fun h=>by
       rcases HIff.out.1 h with h | ⟨c,hc,h⟩
       ·have:=Hnv.out;omega
       ·obtain ⟨j,hj,rfl⟩:=List.getElem_of_mem hc;have h2:=HI.out.2 j (by rw [HX4.out.2.2.1.cloud.len] at hj;omega);rw [List.getD_eq_getElem?_getD,List.getElem?_eq_getElem hj] at h2;simp only [Option.getD_some] at h2;rw [h2] at h
        cases h),HX4.out.2.2.2.trans (HI.out.1.mono HX4.out.2.2.2.size)⟩
      go_wp2_with fail;go_ret;exact HF.out
  ·have hyi:¬ (y:Int) < (p.vn:Int):=by omega
   go_upto_region 3 with fail;refine wp_region_held_drew (S:=fun W=>W.cell? ⟨g1,0,none⟩=some (.slice p.vo p.vn p.vc)/\W.cell? ⟨g2,0,none⟩=some (.int .i64 (y:Int))/\W.cell? ⟨g2,1,none⟩=some (.int .i64 num)) (by kernel_rfl) (HSt.out _ (zf w3)) (fun hHeld=>?_);refine wU 0 ?_;refine wU 1 ?_;refine wU 2 ?_;refine wU 3 ?_;refine wU 4 ?_;refine wU 5 ?_;refine wU 6 ?_;refine wV 7 ?_;refine wV 8 ?_;refine wV 9 ?_;refine wV 10 ?_;refine wV 11 ?_;refine wV 12 ?_;refine wV 13 ?_;refine wV 14 ?_;refine wV 15 ?_;refine wU 16 ?_;refine wpAnyH_done (by kernel_rfl) ?_ _;clear hHeld
   have Hnv:Hid (¬ num <= p.P.vec.getD y 0):=by
    rw [List.getD_eq_getElem?_getD,List.getElem?_eq_none (by omega)];simp only [Option.getD_none]
    show ¬ _
    omega
   have b4:Below w3.heap.size w3 w3.drew:=zf w3;obtain ⟨w4,hw4⟩:∃ w4,w3.drew=w4:=⟨_,rfl⟩;rw [hw4] at b4 ⊢;clear hw4;clear hvl;have HX4:Hid (PBox w4 g1 p/\Box w4 g2 48 ⟨(y:Int),num⟩/\PSrc w4 p/\Below w.heap.size w w4):=⟨HX3.out.1.below b4,HX3.out.2.1.below b4,HX3.out.2.2.1.below b4,HX3.out.2.2.2.trans (b4.mono HX3.out.2.2.2.size)⟩;clear b4 HX3 HSt HLo;go_wp2_with fail;go_loopw [5] (fun i wr=>∃ k:Nat,k <= p.cn/\i = .int .i64 (k:Int)/\Hid (Below w4.heap.size w4 wr/\∀ j,j < k -> inSp ⟨(y:Int),num⟩ (p.P.cloud.getD j sn0)=false)) (fun i _=>p.cn - (intOf i).toNat)
   case atStart=>exact ⟨0,Nat.zero_le _,rfl,Below.refl _ _,fun j hj=>by omega⟩
   case round =>
    obtain ⟨k,hk,rfl,HI⟩:=hrel
    rename World=>wr
    have d1:=(HX4.out.1.below HI.out.1).nums.2;by_cases hlt:k < p.cn
    ·have hlti:(k:Int) < (p.cn:Int):=by omega
     obtain ⟨ad,hco,A5⟩:=(HX4.out.2.2.1.below HI.out.1).cloud.at k hlt;rw [hco] at d1;obtain ⟨s,hs⟩:∃ s,p.P.cloud.getD k sn0=s:=⟨_,rfl⟩;rw [hs] at A5;have l5:=ql A5;obtain ⟨g6,hg6⟩:∃ g6,wr.heap.size=g6:=⟨_,rfl⟩;obtain ⟨w6,hst6,X6,b6,-⟩:=madeS wr s g6 hg6;have X2:=(HX4.out.2.1.below HI.out.1).below b6;have e0:=X2.at.c0;have e1:w6.cell? ⟨g2,1,none⟩=some (.int .i64 num):=X2.at.c1;dsimp only at e0
     obtain ⟨f0,f1,f2⟩:=X6.at
     have HB6:=hide (HI.out.1.trans (b6.mono HI.out.1.size));have Hs:=hide hs
     have HMem:Hid (s∈p.P.cloud):=by
      rw [<- hs,List.getD_eq_getElem?_getD,List.getElem?_eq_getElem (by rw [HX4.out.2.2.1.cloud.len];exact hlt)];exact List.getElem_mem _
     have HBw:=hide (HX4.out.2.2.2.trans (HB6.out.mono HX4.out.2.2.2.size));have HYes:Hid (inSp ⟨(y:Int),num⟩ s=true -> GivB w w6 (.returned (.bool true)) (dotIn p.P ⟨(y:Int),num⟩)):=fun h=>⟨true,rfl,BIf.yes (HIff.out.2 (.inr ⟨s,HMem.out,h⟩)),HBw.out⟩
     have HNo:Hid (inSp ⟨(y:Int),num⟩ s=false -> ∀ j,j < k+1 -> inSp ⟨(y:Int),num⟩ (p.P.cloud.getD j sn0)=false):=fun h j hj=>by
      by_cases e:j=k
      ·rw [e,Hs.out];exact h
      ·exact HI.out.2 j (by omega)
     obtain ⟨rp,lo,hi⟩:=s;dsimp only at f0 f1 f2;have Hlt:=hide hlt;clear A5 X6 b6 X2 hs hlt hk hco;by_cases h1:rp=(y:Int)
     ·have h1b:(rp == (y:Int))=true:=by simpa using h1
      by_cases h2:lo <= num
      ·by_cases h3:num <= hi
       ·have HE:=hide (HYes.out (by rw [xN];exact ⟨h1,h2,h3⟩));clear h1;go_wp2_with fail;clear hst6 hg6;go_ret;exact HE.out
       ·have HE:=hide (HNo.out (by rw [<- Bool.not_eq_true,xN];rintro ⟨-,-,h⟩;exact h3 h));clear h1;go_wp2_with fail;clear hst6 hg6;go_roundw
        case rel=>exact ⟨k+1,Hlt.out,by simp,HB6.out,HE.out⟩
        case measure=>simp [intOf];have:=Hlt.out;omega
      ·have HE:=hide (HNo.out (by rw [<- Bool.not_eq_true,xN];rintro ⟨-,h,-⟩;exact h2 h));clear h1;go_wp2_with fail;clear hst6 hg6;go_roundw
       case rel=>exact ⟨k+1,Hlt.out,by simp,HB6.out,HE.out⟩
       case measure=>simp [intOf];have:=Hlt.out;omega
     ·have h1b:(rp == (y:Int))=false:=by simpa using h1
      have HE:=hide (HNo.out (by rw [<- Bool.not_eq_true,xN];rintro ⟨h,-,-⟩;exact h1 h));clear h1;go_wp2_with fail;clear hst6 hg6;go_roundw
      case rel=>exact ⟨k+1,Hlt.out,by simp,HB6.out,HE.out⟩
      case measure=>simp [intOf];have:=Hlt.out;omega
    ·have hlti:¬ (k:Int) < (p.cn:Int):=by omega
     have HF:Hid (GivB w wr (.returned (.bool false)) (dotIn p.P ⟨(y:Int),num⟩)):=⟨false,rfl,BIf.no (fun h=>by
      rcases HIff.out.1 h with h | ⟨c,hc,h⟩
      ·have:=Hnv.out;omega
      ·obtain ⟨j,hj,rfl⟩:=List.getElem_of_mem hc;have h2:=HI.out.2 j (by rw [HX4.out.2.2.1.cloud.len] at hj;omega);rw [List.getD_eq_getElem?_getD,List.getElem?_eq_getElem hj] at h2;simp only [Option.getD_some] at h2;rw [h2] at h
       cases h),HX4.out.2.2.2.trans (HI.out.1.mono HX4.out.2.2.2.size)⟩
     go_wp2_with fail;go_ret;exact HF.out
end
end Go.Proofs.YtjffpimfngdggaaGreat
