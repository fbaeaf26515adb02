/- QRy QRv QCp QRc -/
import Derived.Test.YtaphmhbmhcahaaaGreatTk
import Derived.Test.YtaphmhbmhcahaaaGreatSj07
import Derived.Test.YtaphmhbmhcahaaaGreatSj10
import Derived.Test.YtaphmhbmhcahaaaGreatSj08
import Derived.Deep.CutRange
set_option maxRecDepth 100000
set_option maxHeartbeats 4000000
namespace Go.Proofs.YtaphmhbmhcahaaaGreat
section
open Go.RowKit
attribute [local go_sem ↓] ldP_eq stP_eq ldJ_eq stJ_eq
attribute [local go_sem] zeros_JA cells_JAv zero_PC cells_PV fold_PC PC_size fold_PC1
def szn (N:Nat -> List Rn):Nat -> Int
 | 0=>0
 | k+1=>szn N k+sz (N k)
theorem szn_bd {N:Nat -> List Rn}:∀ k,(∀ r,r < k -> form 1 (N r)) -> 0 <= szn N k/\szn N k <= k * 1000000000
 | 0,_=>by simp [szn]
 | k+1,h=>by
  have h1:=szn_bd k (fun r hr=>h r (by omega));have h2:=sz_top (h k (by omega));simp only [szn];omega
theorem sz_next (R:List Rn) (t:Nat) (h:t < R.length):sz (R.take (t+1))=sz (R.take t)+((R.getD t rn0).hi - (R.getD t rn0).lo+1):=by
 rw [rn_take R t h,sz_append,sz_cons];simp [sz]
theorem refSize_any (a:Pv) (w:World) (hS:PSrc w a):Calls Tryz.prog 141 #[PV a] w fun e w'=>∃ N:Nat -> List Rn,(∀ r,r < 16 -> NormOf (runsAt a.P r) (N r))/\e = .returned (.int .i64 (szn N 16))/\Below w.heap.size w w':=by
 have b1:=below_new w (.cells (PC a) 26);have HX:=hide (pbox_new w a);have HBK:=hide b1;have HS:=hide (hS.below b1);clear b1 hS
 have l1:=run_ldP HX.out.at
 go_enter Tryz.func141,Tryz.ntmps141;go_wp2_with fail;refine (one_any a _ HS.out).mono ?_;rintro e w2 ⟨T,N,rfl,hT,b4⟩;have HT:=hide hT;have HB4:=wTr HBK b4;have b5:=below_new w2 (.cells (JA fun _=>si0) 149);have hst:=run_stJ (F':=T) (isets_new w2 149 (fun _=>si0));have HZ:=hide (ISets.setRow (F':=T) (isets_new w2 149 (fun _=>si0)));have HB6:Hid (Below w2.heap.size w2 ((w2.alloc (.cells (JA fun _=>si0) 149)).setRow w2.heap.size (JA T))):=below_setRow b5 (Nat.le_refl _);clear hT b4 b5 l1;go_wp2_with fail;clear hst;obtain ⟨w5,hw5⟩:∃ w5,(w2.alloc (.cells (JA fun _=>si0) 149)).setRow w2.heap.size (JA T)=w5:=⟨_,rfl⟩;rw [hw5] at HZ HB6 ⊢;clear hw5;go_loopw [4,5] (fun vn vr wr=>∃ (y:Nat) (z:Int),y <= 16/\vn = .int .i64 z/\vr = .int .i64 y/\Hid (z=szn N y/\Below w5.heap.size w5 wr)) (fun _ i _=>16 - (intOf i).toNat)
 case atStart=>exact ⟨0,0,Nat.zero_le _,rfl,rfl,rfl,Below.refl _ _⟩
 case round =>
  obtain ⟨y,z,hy16,rfl,rfl,HI⟩:=hrel
  rename World=>w6
  have y0:(0:Int) <= (y:Int):=by omega
  by_cases hy:y < 16
  ·have y1:(y:Int) < 16:=by omega
   have HF:=hide (HT.out y hy).2.2.1;have HSR:=hide ((HT.out y hy).1.below HB6.out);obtain ⟨sa,sn,sc,hf⟩:∃ sa sn sc,(T y).ao=sa/\(T y).n=sn/\(T y).cap=sc:=⟨_,_,_,rfl,rfl,rfl⟩;rw [hf.1,hf.2.1,hf.2.2] at HSR;have HTY:=hide hf;clear hf
   have HSN:Hid (sn=2 * (N y).length):=by have:=HSR.out.1;rw [tn_length] at this;show _=_;omega
   have hsmall:=form_small (Int.le_refl _) HF.out
   have hsb:sn <= 1000000002:=by have:=HSN.out;omega
   have HSB:=hide (And.intro (szn_bd (N:=N) y (fun r hr=>(HT.out r (by omega)).2.2.1)) (sz_top HF.out));go_wp2_with fail;go_loopw [4,6] (fun vn vk wr=>∃ (t kk:Nat) (z:Int),t <= (N y).length/\kk=2 * t/\vn = .int .i64 z/\vk = .int .i64 kk/\Hid (z=szn N y+sz ((N y).take t)/\Below w5.heap.size w5 wr)) (fun _ i _=>sn - (intOf i).toNat)
   case atStart=>exact ⟨0,0,z,Nat.zero_le _,rfl,rfl,rfl,by rw [HI.out.1];simp [sz],HI.out.2⟩
   case round =>
    obtain ⟨t,kk,z,ht,hkk,rfl,rfl,HI⟩:=hrel
    rename World=>w6
    have HKK:=hide hkk;clear hkk;have c0:=(HZ.out.below HI.out.2).cell y hy;rw [HTY.out.1,HTY.out.2.1,HTY.out.2.2] at c0;obtain ⟨k1,hk1e⟩:∃ k1:Nat,kk+1=k1:=⟨_,rfl⟩
    have hkw:IntKind.i64.wrap ((kk:Int)+1)=(k1:Int):=by have:=HKK.out;rw [IntKind.wrap_i64];omega
    by_cases hlt:t < (N y).length
    ·have hk1:k1 < sn:=by have:=HKK.out;have:=HSN.out;omega
     have hk0:kk < sn:=by omega
     obtain ⟨da,hda,qa⟩:=isrc_at (HSR.out.below HI.out.2) kk hk0;obtain ⟨db,hdb,qb⟩:=isrc_at (HSR.out.below HI.out.2) k1 hk1;have hdd:db=da:=Option.some.inj (hdb.symm.trans hda);rw [hdd] at qb;clear hdb hdd;subst hda;obtain ⟨tl1,tl2⟩:=tn_lo (N y) t hlt;rw [<- HKK.out] at tl1 tl2;rw [hk1e] at tl2;rw [tl1] at qa;rw [tl2] at qb;have hfg:=form_gt HF.out t hlt;have hnx:=sz_next (N y) t hlt;have htk:=sz_take (N y) 1 t HF.out;have htk2:=sz_take (N y) 1 (t+1) HF.out;obtain ⟨x,Hx⟩:∃ x,Hid ((N y).getD t rn0=x):=⟨_,rfl⟩;rw [Hx.out] at qa qb hfg hnx;obtain ⟨lo,hlo⟩:∃ lo,x.lo=lo:=⟨_,rfl⟩;obtain ⟨h1,hh1⟩:∃ h1,x.hi+1=h1:=⟨_,rfl⟩;rw [hlo] at qa;rw [hh1] at qb
     have hzb:0 <= z/\z <= 17000000000/\1 <= lo/\lo < h1/\h1 <= 1000000001:=by have:=HSB.out;have:=HI.out.1;omega
     have HZN:Hid (z+(h1 - lo)=szn N y+sz ((N y).take (t+1))):=by show _=_;have:=HI.out.1;omega
     have HIB:=hide HI.out.2;clear hlo hh1 db tl1 tl2 hfg hnx htk htk2 HI Hx;obtain ⟨hz0,hz1,hl0,hl1,hh2⟩:=hzb
     have hw1:IntKind.i64.wrap (h1 - lo)=h1 - lo:=by rw [IntKind.wrap_i64];omega
     have hw2:IntKind.i64.wrap (z+(h1 - lo))=z+(h1 - lo):=by rw [IntKind.wrap_i64];omega
     have r0:=cell_regrown c0;have r1:=cell_regrown qa;have r2:=cell_regrown qb;have HK1:=hide hk1e;clear hk1e;go_wp2_with fail;refine wp_region_quiet_below (by kernel_rfl) (by kernel_rfl) ?_
     repeat (with_reducible (refine wpQuiet_step ?_);intro K hK;go_simp;(try rw [if_neg (by unfold undef;simp)]);first | (with_reducible (refine hK _ ?_);clear hK K) | (apply Exists.intro;refine ⟨fun _=>?_,hK _ ?_⟩;(fail);clear hK K))
     with_reducible (refine wpQuiet_nil ?_)
     intro w7 hw';obtain ⟨⟨dq,osq⟩,hw''⟩:=hw'
     have bw7:Below w6.heap.size w6 w7:=by rw [hw''];exact below_regrown w6 dq osq
     clear hw'' dq osq r0 r1 r2;go_wp2_with fail;go_roundw
     case rel=>exact ⟨t+1,kk+2,z+(h1 - lo),by omega,by have:=HKK.out;omega,by go_num,by go_num,HZN.out,HIB.out.trans (bw7.mono HIB.out.size)⟩
     case measure=>(have:=HK1.out;simp [intOf];omega)
    ·obtain rfl:t=(N y).length:=by omega
     have hk1:¬ (k1:Int) < (sn:Int):=by have:=HKK.out;have:=HSN.out;omega
     have HN2:Hid (z=szn N (y+1)):=by have:=HI.out.1;rw [List.take_length] at this;exact this
     have HIB:=hide HI.out.2;clear hk1e HI;go_wp2_with fail;go_roundw
     case rel=>exact ⟨y+1,z,by omega,rfl,by go_num,HN2.out,HIB.out⟩
     case measure=>simp [intOf];omega
  ·obtain rfl:y=16:=by omega
   have HFin:Hid (∃ M:Nat -> List Rn,(∀ r,r < 16 -> NormOf (runsAt a.P r) (M r))/\(Ending.returned (.int .i64 z):Ending) = .returned (.int .i64 (szn M 16))/\Below w.heap.size w w6):=⟨N,fun r hr=>(HT.out r hr).2.2,by rw [HI.out.1],HB4.out.trans ((HB6.out.trans (HI.out.2.mono HB6.out.size)).mono HB4.out.size)⟩;clear HI;go_wp2_with fail;go_ret;exact HFin.out
end
section
open Go.RowKit
attribute [local go_sem ↓] ldP_eq stP_eq ldJ_eq stJ_eq
attribute [local go_sem] zeros_JA cells_JAv zero_PC cells_PV fold_PC PC_size fold_PC1
theorem szn_sumZ (N:Nat -> List Rn):∀ k,szn N k=sumZ N k
 | 0=>rfl
 | k+1=>by simp only [szn,sumZ,szn_sumZ N k]
theorem refEmpty_any (a:Pv) (w:World) (hS:PSrc w a):Calls Tryz.prog 96 #[PV a] w fun e w'=>∃ b,e = .returned (.bool b)/\(b=true↔∀ r,r < 16 -> ∀ n,¬ mem (runsAt a.P r) n)/\Below w.heap.size w w':=by
 have b1:=below_new w (.cells (PC a) 26)
 have l1:=run_ldP (pbox_new w a).at
 have HBK:=hide b1;have HS:=hide (hS.below b1);clear b1 hS;go_enter Tryz.func96,Tryz.ntmps96;go_wp2_with fail;refine (refSize_any a _ HS.out).mono ?_;rintro e w2 ⟨N,hN,rfl,b2⟩;have hz:SizeP (runsAt a.P) (szn N 16):=⟨N,hN,szn_sumZ N 16⟩;have HFin:Hid (∃ b,(Ending.returned (.bool (szn N 16 == 0)):Ending) = .returned (.bool b)/\(b=true↔∀ r,r < 16 -> ∀ n,¬ mem (runsAt a.P r) n)/\Below w.heap.size w w2):=⟨_,rfl,by rw [<- hz.zero];simp,HBK.out.trans (b2.mono HBK.out.size)⟩;clear hz hN b2 l1;generalize szn N 16=z at *;go_wp2_with fail;go_ret;exact HFin.out
end
section

theorem cmpI_zero {a b:Int}:cmpI a b=0↔a=b:=cmpI_tot.eq a b
theorem lex_at:∀ (r:Nat) (x y:List Int),(∀ k,0 <= x.getD k 0) -> (∀ k,0 <= y.getD k 0) -> (∀ k,k < r -> x.getD k 0=y.getD k 0) -> x.getD r 0≠y.getD r 0 -> lex cmpI x y=cmpI (x.getD r 0) (y.getD r 0)
 | r,[],[],_,_,_,h=>by simp at h
 | r,[],b :: t,_,hy,_,h=>by
  have:=hy r;simp only [List.getD_nil] at h ⊢;rw [lex,cmpI,if_pos (by omega)]
 | r,a :: s,[],hx,_,_,h=>by
  have:=hx r;simp only [List.getD_nil] at h ⊢;rw [lex,cmpI,if_neg (by omega),if_pos (by omega)]
 | 0,a :: s,b :: t,_,_,_,h=>by
  simp only [List.getD_cons_zero] at h ⊢;rw [lex,if_neg (fun e=>h (cmpI_zero.1 e))]
 | r+1,a :: s,b :: t,hx,hy,he,h=>by
  have h0:=he 0 (by omega);simp only [List.getD_cons_zero] at h0;simp only [List.getD_cons_succ] at h ⊢;rw [lex,if_pos (cmpI_zero.2 h0)];exact lex_at r s t (fun k=>by have:=hx (k+1);rwa [List.getD_cons_succ] at this) (fun k=>by have:=hy (k+1);rwa [List.getD_cons_succ] at this) (fun k hk=>by have:=he (k+1) (by omega);rwa [List.getD_cons_succ,List.getD_cons_succ] at this) h
theorem same_short {f g:Nat -> Int} (h:∀ k,k < 16 -> (V.short f).getD k 0=(V.short g).getD k 0):V.short f=V.short g:=
 short_congr fun r hr=>by rw [<- V.short_getD f r hr,<- V.short_getD g r hr,h r hr]
theorem canon_nums {G:Nat -> List Rn} {P:Pst} (h:CanonOf G P):∃ f:Nat -> Int,P.vec=V.short f/\∀ k,0 <= P.vec.getD k 0:=by
 obtain ⟨N,hN,rfl⟩:=h;refine ⟨fun r=>leadOf (N r),rfl,fun k=>?_⟩
 show 0 <= (V.short (fun r=>leadOf (N r))).getD k 0
 by_cases hk:k < 16
 ·rw [V.short_getD _ k hk];exact (leadOf_bd (hN k hk).1).1
 ·have:=V.top_le (fun r=>leadOf (N r));rw [List.getD,List.getElem?_eq_none (by rw [V.short_length];omega)];simp
theorem lex3_at {A B:List Sn} {i:Nat} (h:A.take i=B.take i) (h1:i < A.length) (h2:i < B.length) (hne:A.getD i sn0≠B.getD i sn0):lex cmp3 A B=cmp3 (A.getD i sn0) (B.getD i sn0):=by
 rw [lex_drop cmp3_tot A B i h (by omega) (by omega),List.drop_eq_getElem_cons h1,List.drop_eq_getElem_cons h2]
 have e1:A.getD i sn0=A[i]:=by simp [List.getD,h1]
 have e2:B.getD i sn0=B[i]:=by simp [List.getD,h2]
 rw [e1,e2] at hne;rw [e1,e2,lex,if_neg (fun e=>hne ((cmp3_tot.eq _ _).1 e))]
theorem take_snocQ {A B:List Sn} {i:Nat} (h:A.take i=B.take i) (h1:i < A.length) (h2:i < B.length) (he:A.getD i sn0=B.getD i sn0):A.take (i+1)=B.take (i+1):=by
 have e1:A.getD i sn0=A[i]:=by simp [List.getD,h1]
 have e2:B.getD i sn0=B[i]:=by simp [List.getD,h2]
 rw [List.take_succ_eq_append_getElem h1,List.take_succ_eq_append_getElem h2,h,<- e1,<- e2,he]
theorem lex3_end {A B:List Sn} {i:Nat} (h:A.take i=B.take i) (h1:i <= A.length) (h2:i <= B.length) (hi:¬ (i < A.length/\i < B.length)):lex cmp3 A B=cmpI (A.length:Int) (B.length:Int):=by
 rw [lex_drop cmp3_tot A B i h h1 h2];unfold cmpI;rcases Nat.lt_trichotomy A.length B.length with g | g | g
 ·have:i=A.length:=by omega
  subst this;rw [List.drop_length,List.drop_eq_getElem_cons g,lex,if_pos (by omega)]
 ·have:i=A.length:=by omega
  subst this;rw [List.drop_length,g,List.drop_length,lex,if_neg (by omega),if_neg (by omega)]
 ·have:i=B.length:=by omega
  subst this;rw [List.drop_length,List.drop_eq_getElem_cons g,lex,if_neg (by omega),if_pos (by omega)]
end
section
open Go.RowKit
attribute [local go_sem ↓] ldP_eq stP_eq ldS_eq stS_eq
attribute [local go_sem] zero_PC cells_PV fold_PC PC_size fold_PC1 zero_SC cells_SV fold_SC SC_size
theorem less_any (x y:Int) (w:World):Calls Tryz.prog 143 #[.int .i64 x,.int .i64 y] w fun e w'=>e = .returned (.int .i64 (cmpI x y))/\w'=w:=by
 unfold cmpI;go_enter Tryz.func143,Tryz.ntmps143;by_cases h1:x < y
 ·rw [if_pos h1];go_wp2;go_ret;exact ⟨rfl,rfl⟩
 ·rw [if_neg h1];by_cases h2:y < x
  ·rw [if_pos h2];go_wp2;go_ret;exact ⟨rfl,rfl⟩
  ·rw [if_neg h2];go_wp2;go_ret;exact ⟨rfl,rfl⟩
theorem one_below (wr:World):Below wr.heap.size wr (wr.drew.alloc (.cells (SC sn0) 122)):=(below_drew1 wr).trans (below_new wr.drew _)
theorem two_below (wr:World):Below wr.heap.size wr ((wr.alloc (.cells (SC sn0) 122)).alloc (.cells (SC sn0) 122)).drew:=(one_below wr).trans ((below_new _ _).mono (one_below wr).size)
theorem two_boxes (wr:World) (x y:Sn) (g h:Nat) (hg:(g=wr.heap.size/\h=wr.heap.size+1)∨(g=wr.heap.size+1/\h=wr.heap.size)) :
  (stS (.pointer (some ⟨g,0,none⟩)) (SV x)).run Tryz.prog ((wr.alloc (.cells (SC sn0) 122)).alloc (.cells (SC sn0) 122)).drew = .ok () (((wr.alloc (.cells (SC sn0) 122)).alloc (.cells (SC sn0) 122)).drew.setRow g (SC x)) /\
  (stS (.pointer (some ⟨h,0,none⟩)) (SV y)).run Tryz.prog (((wr.alloc (.cells (SC sn0) 122)).alloc (.cells (SC sn0) 122)).drew.setRow g (SC x)) = .ok () ((((wr.alloc (.cells (SC sn0) 122)).alloc (.cells (SC sn0) 122)).drew.setRow g (SC x)).setRow h (SC y)) /\
  Hid (Below wr.heap.size wr (((wr.alloc (.cells (SC sn0) 122)).alloc (.cells (SC sn0) 122)).drew.setRow g (SC x))) /\
  Hid (Below wr.heap.size wr ((((wr.alloc (.cells (SC sn0) 122)).alloc (.cells (SC sn0) 122)).drew.setRow g (SC x)).setRow h (SC y))) /\
  Hid (SBox ((((wr.alloc (.cells (SC sn0) 122)).alloc (.cells (SC sn0) 122)).drew.setRow g (SC x)).setRow h (SC y)) g x/\SBox ((((wr.alloc (.cells (SC sn0) 122)).alloc (.cells (SC sn0) 122)).drew.setRow g (SC x)).setRow h (SC y)) h y/\Below wr.heap.size wr ((((wr.alloc (.cells (SC sn0) 122)).alloc (.cells (SC sn0) 122)).drew.setRow g (SC x)).setRow h (SC y))):=by
 have s1:=sbox_new wr sn0
 have s2:SBox ((wr.alloc (.cells (SC sn0) 122)).alloc (.cells (SC sn0) 122)).drew (wr.heap.size+1) sn0:=by
  have:=sbox_new (wr.alloc (.cells (SC sn0) 122)) sn0;rw [World.size_alloc] at this;exact this
 have s1':SBox ((wr.alloc (.cells (SC sn0) 122)).alloc (.cells (SC sn0) 122)).drew wr.heap.size sn0:=by
  have h:=s1.below (below_new (wr.alloc (.cells (SC sn0) 122)) (.cells (SC sn0) 122));exact h
 have hb:=two_below wr;generalize ((wr.alloc (.cells (SC sn0) 122)).alloc (.cells (SC sn0) 122)).drew=V at s2 s1' hb ⊢
 have hB:SBox V g sn0/\SBox V h sn0/\g≠h/\wr.heap.size <= g/\wr.heap.size <= h:=by
  rcases hg with ⟨rfl,rfl⟩ | ⟨rfl,rfl⟩
  ·exact ⟨s1',s2,by omega,by omega,by omega⟩
  ·exact ⟨s2,s1',by omega,by omega,by omega⟩
 obtain ⟨k1,k2,hne,l1,l2⟩:=hB;have k2':SBox (V.setRow g (SC x)) h sn0:=(setRow_other _ _ _ _ (Ne.symm hne)).trans k2;have k1':SBox (V.setRow g (SC x)) g x:=setRow_heap _ _ _ _ _ _ k1;have b1:=below_setRow (cs:=SC x) hb l1;have b2:=below_setRow (cs:=SC y) b1 l2;exact ⟨run_stS k1,run_stS k2',b1,b2,(setRow_other _ _ _ _ hne).trans k1',setRow_heap _ _ _ _ _ _ k2',b2⟩
theorem cmpP_vec {P Q:Pst} {k:Nat} (z1:∀ k,0 <= P.vec.getD k 0) (z2:∀ k,0 <= Q.vec.getD k 0) (he:∀ j,j < k -> P.vec.getD j 0=Q.vec.getD j 0) (hne:P.vec.getD k 0≠Q.vec.getD k 0):cmpI (P.vec.getD k 0) (Q.vec.getD k 0)=cmpP P Q:=by
 unfold cmpP;rw [lex_at k _ _ z1 z2 he hne,if_neg (fun e=>hne (cmpI_zero.1 e))]
theorem cmpP_cloud {P Q:Pst} (h:P.vec=Q.vec):cmpP P Q=lex cmp3 P.cloud Q.cloud:=by
 unfold cmpP;rw [h,if_pos ((cmpI_tot.lex.eq _ _).2 rfl)]
theorem cmp3_rep {x y:Sn} (h:¬ x.rep=y.rep):cmp3 x y=cmpI x.rep y.rep:=by unfold cmp3;rw [if_neg (fun e=>h (cmpI_zero.1 e))]
theorem cmp3_lo {x y:Sn} (h:x.rep=y.rep) (h1:¬ x.lo=y.lo):cmp3 x y=cmpI x.lo y.lo:=by unfold cmp3;rw [if_pos (cmpI_zero.2 h),if_neg (fun e=>h1 (cmpI_zero.1 e))]
theorem cmp3_hi {x y:Sn} (h:x.rep=y.rep) (h1:x.lo=y.lo):cmp3 x y=cmpI x.hi y.hi:=by unfold cmp3;rw [if_pos (cmpI_zero.2 h),if_pos (cmpI_zero.2 h1)]
theorem getD_at {Z:List Int} {k:Nat} (h:¬ k < Z.length):Z.getD k 0=0:=by simp [List.getD,h]
def CmpV (P Q:Pst) (z:Int):Prop:=∃ X Y,CanonOf (runsAt P) X/\CanonOf (runsAt Q) Y/\z=cmpP X Y
theorem refCompare_any (a b:Pv) (w:World) (hA:PSrc w a) (hB:PSrc w b):Calls Tryz.prog 102 #[PV a,PV b] w fun e w'=>∃ k,e = .returned (.int .i64 k)/\CmpV a.P b.P k/\Below w.heap.size w w':=by
 have b1:=below_new w (.cells (PC a) 26);have b2:=below_new (w.alloc (.cells (PC a) 26)) (.cells (PC b) 26);have p2:=pbox_new (w.alloc (.cells (PC a) 26)) b;simp only [World.size_alloc] at p2;have HX1:=hide ((pbox_new w a).below b2);have HX2:=hide p2;have HBK:=hide (b1.trans (b2.mono b1.size));have HA:=hide (hA.below HBK.out);have HB:=hide hB;clear hA hB b1 b2 p2;obtain ⟨wk,hwk⟩:∃ wk,(w.alloc (.cells (PC a) 26)).alloc (.cells (PC b) 26)=wk:=⟨_,rfl⟩
 have HWZ:Hid (wk.heap.size=w.heap.size+1+1):=by show _=_;rw [<- hwk];simp
 rw [hwk] at HX1 HX2 HBK HA
 have l1:=run_ldP HX1.out.at
 obtain ⟨G,hG⟩:∃ G,w.heap.size=G:=⟨_,rfl⟩;rw [hG] at HX1 HX2 HWZ l1;have HG:=hide hG;go_enter Tryz.func102,Tryz.ntmps102;go_wp2_with fail;clear hwk;refine (refNorm_any a _ HA.out).mono ?_;rintro e w1 ⟨p,rfl,S1,n1,b1,C1⟩;have x1:=HX1.out.below b1;have s1:=run_stP (p':=p) x1;have HY1:Hid (PBox (w1.setRow G (PC p)) G p):=setRow_heap _ _ _ _ _ _ x1;have HY2:Hid (PBox (w1.setRow G (PC p)) (G+1) b):=(setRow_other _ _ _ _ (by omega)).trans (HX2.out.below b1)
 have HPN:Hid (∀ ad,(p.vo=some ad∨p.co=some ad) -> G+2 <= ad.block):=fun ad e=>by
  have:=HWZ.out;rcases e with e | e
  ·have:=n1.1 ad e;omega
  ·have:=n1.2 ad e;omega
 have HS1:Hid (PSrc (w1.setRow G (PC p)) p):=psrc_off S1 (fun ad e=>setRow_other _ _ _ _ (by have:=HPN.out ad (Or.inl e);omega)) (fun ad e=>setRow_other _ _ _ _ (by have:=HPN.out ad (Or.inr e);omega));have HB1:Hid (Below G w (w1.setRow G (PC p))):=below_setRow ((hG ▸ HBK.out).trans (b1.mono (by have:=HWZ.out;omega))) (Nat.le_refl _);have HBB:Hid (PSrc (w1.setRow G (PC p)) b):=HB.out.below (by rw [HG.out];exact HB1.out);have HC1:=hide C1
 have HZ1:Hid (G+2 <= (w1.setRow G (PC p)).heap.size):=by show _ <= _;have:=HWZ.out;have:=b1.size;simp [World.setRow];omega
 have l2:=run_ldP HY2.out.at
 clear S1 n1 b1 C1 x1 hG;go_wp2_with fail;clear s1 l1 l2;generalize w1.setRow G (PC p)=v1 at *;refine (refNorm_any b _ HBB.out).mono ?_;rintro e w2 ⟨q,rfl,S2,n2,b2,C2⟩;have x2:=HY2.out.below b2;have s2:=run_stP (p':=q) x2;have HQ2:Hid (PBox (w2.setRow (G+1) (PC q)) (G+1) q):=setRow_heap _ _ _ _ _ _ x2;have HQ1:Hid (PBox (w2.setRow (G+1) (PC q)) G p):=(setRow_other _ _ _ _ (by omega)).trans (HY1.out.below b2);have HP1:Hid (PSrc (w2.setRow (G+1) (PC q)) p):=psrc_off (HS1.out.below b2) (fun ad e=>setRow_other _ _ _ _ (by have:=HPN.out ad (Or.inl e);omega)) (fun ad e=>setRow_other _ _ _ _ (by have:=HPN.out ad (Or.inr e);omega));have HP2:Hid (PSrc (w2.setRow (G+1) (PC q)) q):=psrc_off S2 (fun ad e=>setRow_other _ _ _ _ (by have:=n2.1 ad e;have:=HZ1.out;omega)) (fun ad e=>setRow_other _ _ _ _ (by have:=n2.2 ad e;have:=HZ1.out;omega))
 have HBW:Hid (Below G w (w2.setRow (G+1) (PC q))):=below_setRow (HB1.out.trans (b2.mono (by have:=HZ1.out;omega))) (by omega);have HC2:=hide C2;clear S2 n2 b2 C2 x2 HBB HY1 HY2 HS1 HB1 HX1 HX2 HBK HA HB HWZ HPN HZ1;go_wp2_with fail;clear s2;generalize w2.setRow (G+1) (PC q)=W at *;obtain ⟨f1,e1,z1⟩:=canon_nums HC1.out;obtain ⟨f2,e2,z2⟩:=canon_nums HC2.out;have HPL:=hide (And.intro (And.intro e1 z1) (And.intro e2 z2));have HCM:Hid (∀ z,z=cmpP p.P q.P -> CmpV a.P b.P z):=fun z hz=>⟨p.P,q.P,HC1.out,HC2.out,hz⟩
 have HBF:Hid (Below w.heap.size w W):=by rw [HG.out];exact HBW.out
 clear e1 z1 e2 z2 HC1 HC2 HBW;go_loopw [5,6,7] (fun i _ _ wr=>∃ k:Nat,k <= 16/\i = .int .i64 k/\Hid (∀ j,j < k -> p.P.vec.getD j 0=q.P.vec.getD j 0)/\W=wr) (fun i _ _ _=>16 - (intOf i).toNat)
 case atStart=>exact ⟨0,by omega,rfl,fun j hj=>absurd hj (by omega),rfl⟩
 case round =>
  obtain ⟨k,hk,rfl,HE,hwr⟩:=hrel;subst hwr;obtain ⟨va,ca⟩:=HQ1.out.nums;obtain ⟨vb,cb⟩:=HQ2.out.nums;by_cases hlt:k < 16
  ·by_cases h1:k < p.vn
   ·obtain ⟨ada,ea,ha⟩:=isrc_at HP1.out.vec k h1;rw [ea] at va;obtain ⟨u,hu⟩:∃ u,p.P.vec.getD k 0=u:=⟨_,rfl⟩;rw [hu] at ha;by_cases h2:k < q.vn
    ·obtain ⟨adb,eb,hb⟩:=isrc_at HP2.out.vec k h2;rw [eb] at vb;obtain ⟨v,hv⟩:∃ v,q.P.vec.getD k 0=v:=⟨_,rfl⟩;rw [hv] at hb
     have HVE:Hid (p.P.vec.getD k 0=u/\q.P.vec.getD k 0=v):=by show _=_/\_=_;exact ⟨hu,hv⟩
     clear hu;clear hv;by_cases hne:(u:Int)=v
     ·go_wp2_with fail;go_roundw
      case rel=>exact ⟨k+1,by omega,by go_num,fun j hj=>by
       by_cases hjk:j=k
       ·subst hjk;rw [HVE.out.1,HVE.out.2];exact hne
       ·exact HE.out j (by omega),by first | trivial | rfl⟩
      case measure=>simp [intOf];omega
     ·have HR:Hid (cmpI (u:Int) v=cmpP p.P q.P):=by
       show _=_
       have:=cmpP_vec HPL.out.1.2 HPL.out.2.2 HE.out (by rw [HVE.out.1,HVE.out.2];exact hne);rwa [HVE.out.1,HVE.out.2] at this
      have hne':((u:Int) != v)=true:=by simpa using hne
      go_wp2_with fail;refine (less_any _ _ _).mono ?_;rintro e wz ⟨rfl,rfl⟩;generalize cmpI (u:Int) v=z at *;go_wp2_with fail;go_ret;exact ⟨z,rfl,HCM.out z HR.out,HBF.out⟩
    ·have HVE:Hid (p.P.vec.getD k 0=u/\q.P.vec.getD k 0=0):=by show _=_/\_=_;exact ⟨hu,getD_at (by rw [HP2.out.vec.1];exact h2)⟩
     clear hu;by_cases hne:(u:Int)=0
     ·go_wp2_with fail;go_roundw
      case rel=>exact ⟨k+1,by omega,by go_num,fun j hj=>by
       by_cases hjk:j=k
       ·subst hjk;rw [HVE.out.1,HVE.out.2];exact hne
       ·exact HE.out j (by omega),by first | trivial | rfl⟩
      case measure=>simp [intOf];omega
     ·have HR:Hid (cmpI (u:Int) 0=cmpP p.P q.P):=by
       show _=_
       have:=cmpP_vec HPL.out.1.2 HPL.out.2.2 HE.out (by rw [HVE.out.1,HVE.out.2];exact hne);rwa [HVE.out.1,HVE.out.2] at this
      have hne':((u:Int) != 0)=true:=by simpa using hne
      go_wp2_with fail;refine (less_any _ _ _).mono ?_;rintro e wz ⟨rfl,rfl⟩;generalize cmpI (u:Int) 0=z at *;go_wp2_with fail;go_ret;exact ⟨z,rfl,HCM.out z HR.out,HBF.out⟩
   ·by_cases h2:k < q.vn
    ·obtain ⟨adb,eb,hb⟩:=isrc_at HP2.out.vec k h2;rw [eb] at vb;obtain ⟨v,hv⟩:∃ v,q.P.vec.getD k 0=v:=⟨_,rfl⟩;rw [hv] at hb
     have HVE:Hid (p.P.vec.getD k 0=0/\q.P.vec.getD k 0=v):=by show _=_/\_=_;exact ⟨getD_at (by rw [HP1.out.vec.1];exact h1),hv⟩
     clear hv;by_cases hne:(0:Int)=v
     ·go_wp2_with fail;go_roundw
      case rel=>exact ⟨k+1,by omega,by go_num,fun j hj=>by
       by_cases hjk:j=k
       ·subst hjk;rw [HVE.out.1,HVE.out.2];exact hne
       ·exact HE.out j (by omega),by first | trivial | rfl⟩
      case measure=>simp [intOf];omega
     ·have HR:Hid (cmpI (0:Int) v=cmpP p.P q.P):=by
       show _=_
       have:=cmpP_vec HPL.out.1.2 HPL.out.2.2 HE.out (by rw [HVE.out.1,HVE.out.2];exact hne);rwa [HVE.out.1,HVE.out.2] at this
      have hne':((0:Int) != v)=true:=by simpa using hne
      go_wp2_with fail;refine (less_any _ _ _).mono ?_;rintro e wz ⟨rfl,rfl⟩;generalize cmpI (0:Int) v=z at *;go_wp2_with fail;go_ret;exact ⟨z,rfl,HCM.out z HR.out,HBF.out⟩
    ·have HVE:Hid (p.P.vec.getD k 0=0/\q.P.vec.getD k 0=0):=by show _=_/\_=_;exact ⟨getD_at (by rw [HP1.out.vec.1];exact h1),getD_at (by rw [HP2.out.vec.1];exact h2)⟩
     go_wp2_with fail;go_roundw
     case rel=>exact ⟨k+1,by omega,by go_num,fun j hj=>by
      by_cases hjk:j=k
      ·subst hjk;rw [HVE.out.1,HVE.out.2]
      ·exact HE.out j (by omega),by first | trivial | rfl⟩
     case measure=>simp [intOf];omega
  ·obtain rfl:k=16:=by omega
   have HVV:Hid (cmpP p.P q.P=lex cmp3 p.P.cloud q.P.cloud):=by
    refine cmpP_cloud ?_;rw [HPL.out.1.1,HPL.out.2.1];exact same_short (fun j hj=>by rw [<- HPL.out.1.1,<- HPL.out.2.1];exact HE.out j hj)
   have HLN:Hid (p.P.cloud.length=p.cn/\q.P.cloud.length=q.cn):=⟨HP1.out.cloud.len,HP2.out.cloud.len⟩;have hbp:=HP1.out.cloud.big;clear va vb ca cb hlt hk HE;go_wp2_with fail;go_loopw [8,9,10] (fun i _ _ wr=>∃ k:Nat,k <= p.cn/\k <= q.cn/\i = .int .i64 k/\Hid (p.P.cloud.take k=q.P.cloud.take k)/\Hid (Below W.heap.size W wr)) (fun i _ _ _=>p.cn - (intOf i).toNat)
   case atStart=>exact ⟨0,by omega,by omega,rfl,rfl,Below.refl _ _⟩
   case round =>
    obtain ⟨k,hk1,hk2,rfl,HT,HBL⟩:=hrel;obtain ⟨-,ca⟩:=(HQ1.out.below HBL.out).nums;obtain ⟨-,cb⟩:=(HQ2.out.below HBL.out).nums;by_cases h1:k < p.cn
    ·by_cases h2:k < q.cn
     ·obtain ⟨ada,ea,A0⟩:=(HP1.out.cloud.below HBL.out).at k h1;obtain ⟨adb,eb,B0⟩:=(HP2.out.cloud.below HBL.out).at k h2;have bq:=HQ1.out.below HBL.out;have bq2:=HQ2.out.below HBL.out;rw [ea] at ca;rw [eb] at cb;obtain ⟨x,hx⟩:∃ x,p.P.cloud.getD k sn0=x:=⟨_,rfl⟩;obtain ⟨y,hy⟩:∃ y,q.P.cloud.getD k sn0=y:=⟨_,rfl⟩;rw [hx] at A0;rw [hy] at B0;have HXY:=hide (And.intro hx hy);obtain ⟨n1,hn1⟩:∃ n1,p.cn=n1:=⟨_,rfl⟩;obtain ⟨n2,hn2⟩:∃ n2,q.cn=n2:=⟨_,rfl⟩;obtain ⟨c1,hc1⟩:∃ c1,p.cc=c1:=⟨_,rfl⟩;obtain ⟨c2,hc2⟩:∃ c2,q.cc=c2:=⟨_,rfl⟩;rw [hn1] at ca h1 hk1 HLN hbp;rw [hn2] at cb h2 hk2 HLN;rw [hc1] at ca;rw [hc2] at cb
      have HSW:Hid (∀ W':World,Below wr.heap.size wr W' -> W'.cell? ⟨G,1,none⟩=some (.slice (some ada) n1 c1)/\W'.cell? ⟨G+1,1,none⟩=some (.slice (some adb) n2 c2)/\(ldS (.pointer (some (ada.add (k * 3))))).run Tryz.prog W' = .ok (SV x) W'/\(ldS (.pointer (some (adb.add (k * 3))))).run Tryz.prog W' = .ok (SV y) W'):=
       fun W' h=>⟨(h.cell (World.block_lt_of_cell? _ _ ca)).trans ca,(h.cell (World.block_lt_of_cell? _ _ cb)).trans cb,run_ldS (A0.on h),run_ldS (B0.on h)⟩
      clear A0 B0 bq bq2 hx hy;go_upto_region 16 with fail
      go_cut [9,10] from 59 to 68 (fun s t wx=>∃ g h,s = .pointer (some ⟨g,0,none⟩)/\t = .pointer (some ⟨h,0,none⟩)/\Hid (SBox wx g x/\SBox wx h y/\Below wr.heap.size wr wx))
      case first =>
       as_aux_lemma =>
        clear ca cb;go_wp2_with fail;refine wp_region_held_drew (S:=fun W=>W.cell? ⟨G,1,none⟩=some (.slice (some ada) n1 c1)/\W.cell? ⟨G+1,1,none⟩=some (.slice (some adb) n2 c2)/\(ldS (.pointer (some (ada.add (k * 3))))).run Tryz.prog W = .ok (SV x) W/\(ldS (.pointer (some (adb.add (k * 3))))).run Tryz.prog W = .ok (SV y) W) (by kernel_rfl) (HSW.out _ (below_drew1 _)) (fun hHeld=>?_);refine wU 0 ?_;refine wU 1 ?_;refine wU 2 ?_;refine wU 3 ?_;refine wU 4 ?_;refine wU 5 ?_;refine wU 6 ?_;refine wU 7 ?_;refine wU 8 ?_;refine wU 9 ?_;refine wpAnyH_ready (rs:=[10,11]) (by kernel_rfl) (by simp) ?_;refine AllReadyH.cons rfl (fun K hK=>?_) (AllReadyH.cons rfl (fun K hK=>?_) AllReadyH.nil)
        ·go_simp;refine hK.out _ _ (HSW.out _ (one_below wr)) (fun hHeld=>?_);clear hK K;refine wpAnyH_ready (rs:=[11]) (by kernel_rfl) (by simp) (.cons rfl (fun K hK=>?_) .nil);go_simp;refine hK.out _ _ (HSW.out _ (two_below wr)) (fun hHeld=>?_);clear hK K;obtain ⟨X9,X10,HS1,HS2,HFin⟩:=two_boxes wr x y (wr.heap.size) (wr.heap.size+1) (Or.inl ⟨rfl,rfl⟩);refine wpAnyH_ready (rs:=[12]) (by kernel_rfl) (by simp) (.cons rfl (fun K hK=>?_) .nil);go_simp;refine hK.out _ _ (HSW.out _ HS1.out) (fun hHeld=>?_);clear hK K X9;refine wpAnyH_ready (rs:=[13]) (by kernel_rfl) (by simp) (.cons rfl (fun K hK=>?_) .nil);go_simp;refine hK.out _ _ (HSW.out _ HS2.out) (fun hHeld=>?_);clear hK K X10;refine wpAnyH_done (by kernel_rfl) ?_ _;clear hHeld;go_wp2_with fail;go_meet;exact ⟨wr.heap.size,wr.heap.size+1,rfl,rfl,HFin⟩
        ·go_simp;refine hK.out _ _ (HSW.out _ (one_below wr)) (fun hHeld=>?_);clear hK K;refine wpAnyH_ready (rs:=[10]) (by kernel_rfl) (by simp) (.cons rfl (fun K hK=>?_) .nil);go_simp;refine hK.out _ _ (HSW.out _ (two_below wr)) (fun hHeld=>?_);clear hK K;obtain ⟨X9,X10,HS1,HS2,HFin⟩:=two_boxes wr x y (wr.heap.size+1) (wr.heap.size) (Or.inr ⟨rfl,rfl⟩);refine wpAnyH_ready (rs:=[12]) (by kernel_rfl) (by simp) (.cons rfl (fun K hK=>?_) .nil);go_simp;refine hK.out _ _ (HSW.out _ HS1.out) (fun hHeld=>?_);clear hK K X9;refine wpAnyH_ready (rs:=[13]) (by kernel_rfl) (by simp) (.cons rfl (fun K hK=>?_) .nil);go_simp;refine hK.out _ _ (HSW.out _ HS2.out) (fun hHeld=>?_);clear hK K X10;refine wpAnyH_done (by kernel_rfl) ?_ _;clear hHeld;go_wp2_with fail;go_meet;exact ⟨wr.heap.size+1,wr.heap.size,rfl,rfl,HFin⟩
      case rest =>
       obtain ⟨g,h,rfl,rfl,HBX⟩:=hcut
       obtain ⟨x0,x1,x2⟩:=HBX.out.1.at
       obtain ⟨y0,y1,y2⟩:=HBX.out.2.1.at
       have HBE:Hid (Below w.heap.size w wc):=HBF.out.trans ((HBL.out.trans (HBX.out.2.2.mono HBL.out.size)).mono HBF.out.size);have HBL2:Hid (Below W.heap.size W wc):=HBL.out.trans (HBX.out.2.2.mono HBL.out.size)
       have HDF:Hid (∀ z,x≠y -> z=cmp3 x y -> CmpV a.P b.P z):=fun z hne hz=>HCM.out z (by
        rw [HVV.out,lex3_at HT.out (by rw [HLN.out.1];exact h1) (by rw [HLN.out.2];exact h2) (by rw [HXY.out.1,HXY.out.2];exact hne),HXY.out.1,HXY.out.2,hz])
       by_cases r0:x.rep=y.rep
       ·by_cases r1:x.lo=y.lo
        ·by_cases r2:x.hi=y.hi
         ·have hxy:x=y:=sn_eq r0 r1 r2;have HTN:Hid (p.P.cloud.take (k+1)=q.P.cloud.take (k+1)):=take_snocQ HT.out (by rw [HLN.out.1];exact h1) (by rw [HLN.out.2];exact h2) (by rw [HXY.out.1,HXY.out.2];exact hxy);rw [r0] at x0;rw [r1] at x1;rw [r2] at x2;go_wp2_with fail;go_roundw
          case rel=>exact ⟨k+1,by omega,by omega,by go_num,HTN,HBL2⟩
          case measure=>simp [intOf];omega
         ·rw [r0] at x0;rw [r1] at x1
          have hne':(x.hi != y.hi)=true:=by simpa using r2
          have HR:Hid (CmpV a.P b.P (cmpI x.hi y.hi)):=HDF.out _ (fun e=>r2 (by rw [e])) (cmp3_hi r0 r1).symm;go_wp2_with fail;refine (less_any _ _ _).mono ?_;rintro e wz ⟨rfl,rfl⟩;generalize cmpI x.hi y.hi=z at *;go_wp2_with fail;go_ret;exact ⟨z,rfl,HR.out,HBE.out⟩
        ·rw [r0] at x0
         have hne':(x.lo != y.lo)=true:=by simpa using r1
         have HR:Hid (CmpV a.P b.P (cmpI x.lo y.lo)):=HDF.out _ (fun e=>r1 (by rw [e])) (cmp3_lo r0 r1).symm;go_wp2_with fail;refine (less_any _ _ _).mono ?_;rintro e wz ⟨rfl,rfl⟩;generalize cmpI x.lo y.lo=z at *;go_wp2_with fail;go_ret;exact ⟨z,rfl,HR.out,HBE.out⟩
       ·have hne':(x.rep != y.rep)=true:=by simpa using r0
        have HR:Hid (CmpV a.P b.P (cmpI x.rep y.rep)):=HDF.out _ (fun e=>r0 (by rw [e])) (cmp3_rep r0).symm;go_wp2_with fail;refine (less_any _ _ _).mono ?_;rintro e wz ⟨rfl,rfl⟩;generalize cmpI x.rep y.rep=z at *;go_wp2_with fail;go_ret;exact ⟨z,rfl,HR.out,HBE.out⟩
     ·have HR:Hid (CmpV a.P b.P (cmpI (p.cn:Int) (q.cn:Int))):=HCM.out _ (by rw [HVV.out,lex3_end HT.out (by rw [HLN.out.1];exact hk1) (by rw [HLN.out.2];exact hk2) (by rw [HLN.out.1,HLN.out.2];omega),HLN.out.1,HLN.out.2]);have HBE:Hid (Below w.heap.size w wr):=HBF.out.trans (HBL.out.mono HBF.out.size);go_wp2_with fail;refine (less_any _ _ _).mono ?_;rintro e wz ⟨rfl,rfl⟩;generalize cmpI (p.cn:Int) (q.cn:Int)=z at *;go_wp2_with fail;go_ret;exact ⟨z,rfl,HR.out,HBE.out⟩
    ·have HR:Hid (CmpV a.P b.P (cmpI (p.cn:Int) (q.cn:Int))):=HCM.out _ (by rw [HVV.out,lex3_end HT.out (by rw [HLN.out.1];exact hk1) (by rw [HLN.out.2];exact hk2) (by rw [HLN.out.1,HLN.out.2];omega),HLN.out.1,HLN.out.2]);have HBE:Hid (Below w.heap.size w wr):=HBF.out.trans (HBL.out.mono HBF.out.size);go_wp2_with fail;refine (less_any _ _ _).mono ?_;rintro e wz ⟨rfl,rfl⟩;generalize cmpI (p.cn:Int) (q.cn:Int)=z at *;go_wp2_with fail;go_ret;exact ⟨z,rfl,HR.out,HBE.out⟩
end
end Go.Proofs.YtaphmhbmhcahaaaGreat
