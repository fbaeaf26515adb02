/- QRy QRv QCp -/
import Derived.Test.YtjffpimfngdggaaGreatTk
import Derived.Test.YtjffpimfngdggaaGreatFe09
import Derived.Test.YtjffpimfngdggaaGreatFe13
import Derived.Test.YtjffpimfngdggaaGreatFe10
set_option maxRecDepth 100000
set_option maxHeartbeats 1000000
namespace Go.Proofs.YtjffpimfngdggaaGreat
section
open Go.RowKit
attribute [local go_sem ↓] zq zp kN kz
attribute [local go_sem] xF qT zE zi qm zj qJ
def szn (N:Nat -> List Rn):Nat -> Int
 | 0=>0
 | k+1=>szn N k+sz (N k)
theorem zhn {N:Nat -> List Rn}:∀ k,(∀ r,r < k -> form 1 (N r)) -> 0 <= szn N k/\szn N k <= k * 1000000000
 | 0,_=>by simp [szn]
 | k+1,h=>by
  have h1:=zhn k (fun r hr=>h r (by omega));have h2:=zho (h k (by omega));simp only [szn];omega
theorem zhP (R:List Rn) (t:Nat) (h:t < R.length):sz (R.take (t+1))=sz (R.take t)+((R.getD t rn0).hi - (R.getD t rn0).lo+1):=by
 rw [zbR R t h,zaM,zd4];simp [sz]
theorem zbT (a:Pv) (w:World) (hS:am w a):Calls Tryz.prog 50 #[PV a] w fun e w'=>∃ N:Nat -> List Rn,(∀ r,r < 16 -> aT (ae a.P r) (N r))/\e = .returned (.int .i64 (szn N 16))/\Below w.heap.size w w':=by
 have b1:=ze w (.cells (PC a) 26);have HX:=hide (zr w a);have aq:=hide b1;have HS:=hide (hS.below b1);clear b1 hS
 have l1:=zl HX.out.at
 go_enter Tryz.func50,Tryz.ntmps50;go_wp2_with fail;refine (zeu a _ HS.out).mono ?_;rintro e w2 ⟨T,N,rfl,hT,b4⟩;have HT:=hide hT;have aQ:=wTr aq b4;have b5:=ze w2 (.cells (JA fun _=>si0) 141);have a8:=zbH (F':=T) (xA w2 141 (fun _=>si0));have HZ:=hide (aS.setRow (F':=T) (xA w2 141 (fun _=>si0)));have fQ:Hid (Below w2.heap.size w2 ((w2.alloc (.cells (JA fun _=>si0) 141)).setRow w2.heap.size (JA T))):=zh b5 (Nat.le_refl _);clear hT b4 b5 l1;go_wp2_with fail;clear a8;obtain ⟨w5,pe⟩:∃ w5,(w2.alloc (.cells (JA fun _=>si0) 141)).setRow w2.heap.size (JA T)=w5:=⟨_,rfl⟩;rw [pe] at HZ fQ ⊢;clear pe;go_loopw [4,5] (fun vn vr wr=>∃ (y:Nat) (z:Int),y <= 16/\vn = .int .i64 z/\vr = .int .i64 y/\Hid (z=szn N y/\Below w5.heap.size w5 wr)) (fun _ i _=>16 - (intOf i).toNat)
 case atStart=>exact ⟨0,0,Nat.zero_le _,rfl,rfl,rfl,Below.refl _ _⟩
 case round =>
  obtain ⟨y,z,AY,rfl,rfl,HI⟩:=hrel
  rename World=>w6
  have y0:(0:Int) <= (y:Int):=by omega
  by_cases hy:y < 16
  ·have y1:(y:Int) < 16:=by omega
   have HF:=hide (HT.out y hy).2.2.1;have nz:=hide ((HT.out y hy).1.below fQ.out);obtain ⟨sa,sn,sc,hf⟩:∃ sa sn sc,(T y).ao=sa/\(T y).n=sn/\(T y).cap=sc:=⟨_,_,_,rfl,rfl,rfl⟩;rw [hf.1,hf.2.1,hf.2.2] at nz;have AF:=hide hf;clear hf
   have uZ:Hid (sn=2 * (N y).length):=by have:=nz.out.1;rw [wG] at this;show _=_;omega
   have Ac:=xt (Int.le_refl _) HF.out
   have ti:sn <= 1000000002:=by have:=uZ.out;omega
   have gf:=hide (And.intro (zhn (N:=N) y (fun r hr=>(HT.out r (by omega)).2.2.1)) (zho HF.out));go_wp2_with fail;go_loopw [4,6] (fun vn vk wr=>∃ (t kk:Nat) (z:Int),t <= (N y).length/\kk=2 * t/\vn = .int .i64 z/\vk = .int .i64 kk/\Hid (z=szn N y+sz ((N y).take t)/\Below w5.heap.size w5 wr)) (fun _ i _=>sn - (intOf i).toNat)
   case atStart=>exact ⟨0,0,z,Nat.zero_le _,rfl,rfl,rfl,by rw [HI.out.1];simp [sz],HI.out.2⟩
   case round =>
    obtain ⟨t,kk,z,ht,nh,rfl,rfl,HI⟩:=hrel
    rename World=>w6
    have oO:=hide nh;clear nh;have c0:=(HZ.out.below HI.out.2).cell y hy;rw [AF.out.1,AF.out.2.1,AF.out.2.2] at c0;obtain ⟨k1,li⟩:∃ k1:Nat,kk+1=k1:=⟨_,rfl⟩
    have Kn:IntKind.i64.wrap ((kk:Int)+1)=(k1:Int):=by have:=oO.out;rw [IntKind.wrap_i64];omega
    by_cases ak:t < (N y).length
    ·have gY:k1 < sn:=by have:=oO.out;have:=uZ.out;omega
     have gK:kk < sn:=by omega
     obtain ⟨da,tz,qa⟩:=qF (nz.out.below HI.out.2) kk gK;obtain ⟨db,ol,qb⟩:=qF (nz.out.below HI.out.2) k1 gY;have tj:db=da:=Option.some.inj (ol.symm.trans tz);rw [tj] at qb;clear ol tj;subst tz;obtain ⟨tl1,tl2⟩:=zhO (N y) t ak;rw [<- oO.out] at tl1 tl2;rw [li] at tl2;rw [tl1] at qa;rw [tl2] at qb;have CT:=zam HF.out t ak;have Dn:=zhP (N y) t ak;have u4:=bs (N y) 1 t HF.out;have Gv:=bs (N y) 1 (t+1) HF.out;obtain ⟨x,Hx⟩:∃ x,Hid ((N y).getD t rn0=x):=⟨_,rfl⟩;rw [Hx.out] at qa qb CT Dn;obtain ⟨lo,sv⟩:∃ lo,x.lo=lo:=⟨_,rfl⟩;obtain ⟨h1,DH⟩:∃ h1,x.hi+1=h1:=⟨_,rfl⟩;rw [sv] at qa;rw [DH] at qb
     have Cr:0 <= z/\z <= 17000000000/\1 <= lo/\lo < h1/\h1 <= 1000000001:=by have:=gf.out;have:=HI.out.1;omega
     have Md:Hid (z+(h1 - lo)=szn N y+sz ((N y).take (t+1))):=by show _=_;have:=HI.out.1;omega
     have Fi:=hide HI.out.2;clear sv DH db tl1 tl2 CT Dn u4 Gv HI Hx;obtain ⟨dg,dn,N5,NF,NR⟩:=Cr
     have cR:IntKind.i64.wrap (h1 - lo)=h1 - lo:=by rw [IntKind.wrap_i64];omega
     have fi:IntKind.i64.wrap (z+(h1 - lo))=z+(h1 - lo):=by rw [IntKind.wrap_i64];omega
     have r0:=cell_regrown c0;have r1:=cell_regrown qa;have r2:=cell_regrown qb;have Dv:=hide li;clear li;go_wp2_with fail;refine wp_region_quiet_below (by kernel_rfl) (by kernel_rfl) ?_
     repeat (with_reducible (refine wpQuiet_step ?_);intro K hK;go_simp;(try rw [if_neg (by unfold undef;simp)]);first | (with_reducible (refine hK _ ?_);clear hK K) | (apply Exists.intro;refine ⟨fun _=>?_,hK _ ?_⟩;(fail);clear hK K))
     with_reducible (refine wpQuiet_nil ?_)
     intro w7 hw';obtain ⟨⟨dq,osq⟩,hw''⟩:=hw'
     have bw7:Below w6.heap.size w6 w7:=by rw [hw''];exact below_regrown w6 dq osq
     clear hw'' dq osq r0 r1 r2;go_wp2_with fail;go_roundw
     case rel=>exact ⟨t+1,kk+2,z+(h1 - lo),by omega,by have:=oO.out;omega,by go_num,by go_num,Md.out,Fi.out.trans (bw7.mono Fi.out.size)⟩
     case measure=>(have:=Dv.out;simp [intOf];omega)
    ·obtain rfl:t=(N y).length:=by omega
     have gY:¬ (k1:Int) < (sn:Int):=by have:=oO.out;have:=uZ.out;omega
     have r9:Hid (z=szn N (y+1)):=by have:=HI.out.1;rw [List.take_length] at this;exact this
     have Fi:=hide HI.out.2;clear li HI;go_wp2_with fail;go_roundw
     case rel=>exact ⟨y+1,z,by omega,rfl,by go_num,r9.out,Fi.out⟩
     case measure=>simp [intOf];omega
  ·obtain rfl:y=16:=by omega
   have gz:Hid (∃ M:Nat -> List Rn,(∀ r,r < 16 -> aT (ae a.P r) (M r))/\(Ending.returned (.int .i64 z):Ending) = .returned (.int .i64 (szn M 16))/\Below w.heap.size w w6):=⟨N,fun r hr=>(HT.out r hr).2.2,by rw [HI.out.1],aQ.out.trans ((fQ.out.trans (HI.out.2.mono fQ.out.size)).mono aQ.out.size)⟩;clear HI;go_wp2_with fail;go_ret;exact gz.out
end
section
open Go.RowKit
attribute [local go_sem ↓] zq zp kN kz
attribute [local go_sem] xF qT zE zi qm zj qJ
theorem zcq (N:Nat -> List Rn):∀ k,szn N k=eK N k
 | 0=>rfl
 | k+1=>by simp only [szn,eK,zcq N k]
theorem vK (a:Pv) (w:World) (hS:am w a):Calls Tryz.prog 133 #[PV a] w fun e w'=>∃ b,e = .returned (.bool b)/\(b=true↔∀ r,r < 16 -> ∀ n,¬ mem (ae a.P r) n)/\Below w.heap.size w w':=by
 have b1:=ze w (.cells (PC a) 26)
 have l1:=zl (zr w a).at
 have aq:=hide b1;have HS:=hide (hS.below b1);clear b1 hS;go_enter Tryz.func133,Tryz.ntmps133;go_wp2_with fail;refine (zbT a _ HS.out).mono ?_;rintro e w2 ⟨N,hN,rfl,b2⟩;have hz:lG (ae a.P) (szn N 16):=⟨N,hN,zcq N 16⟩;have gz:Hid (∃ b,(Ending.returned (.bool (szn N 16 == 0)):Ending) = .returned (.bool b)/\(b=true↔∀ r,r < 16 -> ∀ n,¬ mem (ae a.P r) n)/\Below w.heap.size w w2):=⟨_,rfl,by rw [<- hz.zero];simp,aq.out.trans (b2.mono aq.out.size)⟩;clear hz hN b2 l1;generalize szn N 16=z at *;go_wp2_with fail;go_ret;exact gz.out
end
section

theorem xC {a b:Int}:au a b=0↔a=b:=xi.eq a b
theorem zhx:∀ (r:Nat) (x y:List Int),(∀ k,0 <= x.getD k 0) -> (∀ k,0 <= y.getD k 0) -> (∀ k,k < r -> x.getD k 0=y.getD k 0) -> x.getD r 0≠y.getD r 0 -> lex au x y=au (x.getD r 0) (y.getD r 0)
 | r,[],[],_,_,_,h=>by simp at h
 | r,[],b :: t,_,hy,_,h=>by
  have:=hy r;simp only [List.getD_nil] at h ⊢;rw [lex,au,if_pos (by omega)]
 | r,a :: s,[],hx,_,_,h=>by
  have:=hx r;simp only [List.getD_nil] at h ⊢;rw [lex,au,if_neg (by omega),if_pos (by omega)]
 | 0,a :: s,b :: t,_,_,_,h=>by
  simp only [List.getD_cons_zero] at h ⊢;rw [lex,if_neg (fun e=>h (xC.1 e))]
 | r+1,a :: s,b :: t,hx,hy,he,h=>by
  have h0:=he 0 (by omega);simp only [List.getD_cons_zero] at h0;simp only [List.getD_cons_succ] at h ⊢;rw [lex,if_pos (xC.2 h0)];exact zhx r s t (fun k=>by have:=hx (k+1);rwa [List.getD_cons_succ] at this) (fun k=>by have:=hy (k+1);rwa [List.getD_cons_succ] at this) (fun k hk=>by have:=he (k+1) (by omega);rwa [List.getD_cons_succ,List.getD_cons_succ] at this) h
theorem zdk {f g:Nat -> Int} (h:∀ k,k < 16 -> (V.aL f).getD k 0=(V.aL g).getD k 0):V.aL f=V.aL g:=
 xO fun r hr=>by rw [<- V.j5 f r hr,<- V.j5 g r hr,h r hr]
theorem y9 {G:Nat -> List Rn} {P:Pst} (h:af G P):∃ f:Nat -> Int,P.vec=V.aL f/\∀ k,0 <= P.vec.getD k 0:=by
 obtain ⟨N,hN,rfl⟩:=h;refine ⟨fun r=>ar (N r),rfl,fun k=>?_⟩
 show 0 <= (V.aL (fun r=>ar (N r))).getD k 0
 by_cases hk:k < 16
 ·rw [V.j5 _ k hk];exact (jP (hN k hk).1).1
 ·have:=V.vI (fun r=>ar (N r));rw [List.getD,List.getElem?_eq_none (by rw [V.zR];omega)];simp
theorem zh4 {A B:List Sn} {i:Nat} (h:A.take i=B.take i) (h1:i < A.length) (h2:i < B.length) (ch:A.getD i sn0≠B.getD i sn0):lex de A B=de (A.getD i sn0) (B.getD i sn0):=by
 rw [jC xI A B i h (by omega) (by omega),List.drop_eq_getElem_cons h1,List.drop_eq_getElem_cons h2]
 have e1:A.getD i sn0=A[i]:=by simp [List.getD,h1]
 have e2:B.getD i sn0=B[i]:=by simp [List.getD,h2]
 rw [e1,e2] at ch;rw [e1,e2,lex,if_neg (fun e=>ch ((xI.eq _ _).1 e))]
theorem zde {A B:List Sn} {i:Nat} (h:A.take i=B.take i) (h1:i < A.length) (h2:i < B.length) (he:A.getD i sn0=B.getD i sn0):A.take (i+1)=B.take (i+1):=by
 have e1:A.getD i sn0=A[i]:=by simp [List.getD,h1]
 have e2:B.getD i sn0=B[i]:=by simp [List.getD,h2]
 rw [List.take_succ_eq_append_getElem h1,List.take_succ_eq_append_getElem h2,h,<- e1,<- e2,he]
theorem zcM {A B:List Sn} {i:Nat} (h:A.take i=B.take i) (h1:i <= A.length) (h2:i <= B.length) (hi:¬ (i < A.length/\i < B.length)):lex de A B=au (A.length:Int) (B.length:Int):=by
 rw [jC xI A B i h h1 h2];unfold au;rcases Nat.lt_trichotomy A.length B.length with g | g | g
 ·have:i=A.length:=by omega
  subst this;rw [List.drop_length,List.drop_eq_getElem_cons g,lex,if_pos (by omega)]
 ·have:i=A.length:=by omega
  subst this;rw [List.drop_length,g,List.drop_length,lex,if_neg (by omega),if_neg (by omega)]
 ·have:i=B.length:=by omega
  subst this;rw [List.drop_length,List.drop_eq_getElem_cons g,lex,if_neg (by omega),if_pos (by omega)]
end
end Go.Proofs.YtjffpimfngdggaaGreat
