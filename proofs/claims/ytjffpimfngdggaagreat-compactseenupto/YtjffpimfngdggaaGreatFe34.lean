/- BFo ODt BDs LSp BBx -/
import Derived.Test.YtjffpimfngdggaaGreatTk
import Derived.Test.YtjffpimfngdggaaGreatFe22
import Derived.Test.YtjffpimfngdggaaGreatFe31
import Derived.Test.YtjffpimfngdggaaGreatFe32
import Derived.Test.YtjffpimfngdggaaGreatFe33
import Derived.Test.YtjffpimfngdggaaGreatFe14
import Derived.Deep.CutRange
import Derived.Test.YtjffpimfngdggaaGreatFe20
import Derived.Test.YtjffpimfngdggaaGreatFe16
import Derived.Test.YtjffpimfngdggaaGreatFe28
set_option maxRecDepth 100000
set_option maxHeartbeats 3200000
namespace Go.Proofs.YtjffpimfngdggaaGreat
section
open Go.RowKit Go.Maps Go.Sort
attribute [local go_sem ↓] zq zp zZ zY
attribute [local go_sem] zJ zQ qe
theorem mL:Keyed Tryz.prog 9:=string_keyed Tryz.underlying9
theorem nJ (w:World):(zeroValue 151).run Tryz.prog w = .ok (HsV hs0) w:=by kernel_rfl
def MF (w W:World) (kk:Nat) (R:List Rc):Prop:=∃ f,MRo Tryz.prog 9 26 2 (w.heap.size+1) w W w.heap.size kk (fun s=>∃ r∈R,r.s=s) f (fun s=>pvs (ofS R s))
theorem yG (L:List Rc) (k:Nat) (h:k < L.length):L.take (k+1)=L.take k++[L.getD k rc0]:=by
 rw [List.take_succ_eq_append_getElem h];simp [List.getD,h]
theorem zeN (R:List Rc) (r:Rc):(fun s=>∃ x∈R++[r],x.s=s)=fun s=>s=r.s∨∃ x∈R,x.s=s:=by
 funext s
 apply propext;constructor
 ·rintro ⟨x,hx,rfl⟩;rcases List.mem_append.1 hx with hx | hx
  ·exact .inr ⟨x,hx,rfl⟩
  ·obtain rfl:x=r:=by simpa using hx
   exact .inl rfl
 ·rintro (rfl | ⟨x,hx,rfl⟩)
  ·exact ⟨r,by simp,rfl⟩
  ·exact ⟨x,by simp [hx],rfl⟩
def TxS (w:World) (ao:Option Addr) (m:Nat) (T:List (List UInt8)):Prop:=
 T.length=m/\∀ t,t < m -> ∃ ad,ao=some ad/\w.cell? (ad.add t)=some (encStr (T.getD t []))
theorem TxS.below {w w':World} {ao:Option Addr} {m:Nat} {T:List (List UInt8)} (h:TxS w ao m T) (hb:Below w.heap.size w w'):TxS w' ao m T:=by
 refine ⟨h.1,fun t ht=>?_⟩;obtain ⟨ad,e,hc⟩:=h.2 t ht;exact ⟨ad,e,(hb.cell (World.block_lt_of_cell? _ _ hc)).trans hc⟩
theorem mi.src {w w':World} {e:Ending} {T:List (List UInt8)} (h:mi w w' e T):∃ ao c,e = .returned (.slice ao T.length c)/\TxS w' ao T.length T/\Below w.heap.size w w':=by
 obtain ⟨v,rfl,hr,hb⟩:=h;rcases hr.2 with ⟨h0,fh⟩ | ⟨g,cap,cur,hv,dN,dy,hnc,eV,hcsz,htake⟩
 ·refine ⟨none,0,by rw [h0,fh],⟨rfl,fun t ht=>?_⟩,hb⟩;omega
 ·subst hv;refine ⟨some ⟨g,0,none⟩,cap,rfl,⟨rfl,fun t ht=>⟨_,rfl,?_⟩⟩,hb⟩;rw [Addr.add_lit,Nat.zero_add,hr.cellAt t (by omega)];simp [List.getD,ht]
theorem zje:∀ a b:List UInt8,a < b -> Lib.compareBytes a b < 0
 | [],[],h=>absurd h (List.lt_irrefl _)
 | [],_ :: _,_=>by simp [Lib.compareBytes]
 | _ :: _,[],h=>absurd h (List.not_lt_nil _)
 | a :: x,b :: y,h=>by
  rcases List.cons_lt_cons_iff.1 h with h1 | ⟨rfl,h1⟩
  ·simp [Lib.compareBytes,h1]
  ·have h0:¬ a < a:=UInt8.lt_irrefl a;have:=zje x y h1;simpa [Lib.compareBytes,h0] using this
theorem zeO {ss:List (List UInt8)} (BU:ss.Nodup):(ss.mergeSort leB).Pairwise (fun a b=>Lib.compareBytes a b < 0):=by
 have tr:∀ a b c:List UInt8,leB a b=true -> leB b c=true -> leB a c=true:=fun a b c h1 h2=>by simp only [leB,decide_eq_true_eq] at *;exact List.le_trans h1 h2
 have tt:∀ a b:List UInt8,(leB a b || leB b a)=true:=fun a b=>by simp only [leB,Bool.or_eq_true,decide_eq_true_eq];exact List.le_total a b
 have mo:(ss.mergeSort leB).Pairwise (fun a b=>leB a b=true):=List.pairwise_mergeSort tr tt ss;have Bi:(ss.mergeSort leB).Nodup:=(List.mergeSort_perm ss leB).nodup_iff.2 BU;refine (mo.and Bi).imp fun {a b} h=>zje a b ?_
 have h1:a <= b:=by simpa [leB] using h.1
 exact Decidable.byContradiction fun hn=>h.2 (List.le_antisymm h1 (List.not_lt.1 hn))
def FoA (w w':World) (x:Ending) (L:List Rc) (n:Nat):Prop:=(OkR L n/\∃ (h:Hs) (F:List Rc),x = .returned (.tuple #[HsV h,.int .i64 0])/\RcS w' h.o h.n h.c F/\Below w.heap.size w w'/\(∀ ad,h.o=some ad -> w.heap.size <= ad.block)/\iN L F)∨(¬ OkR L n/\x = .returned (.tuple #[.slice none 0 0,.int .i64 1])/\Below w.heap.size w w')
theorem zgD (ao:Option Addr) (n cap:Nat) (L:List Rc) (w:World) (hS:RcS w ao n cap L) (hwt:∀ s,wt (ofS L s) <= 8796093022207) :
  Calls Tryz.prog 97 #[.slice ao n cap] w fun x w'=>FoA w w' x L n:=by
 have HS:=hide hS;have HL:Hid (L.length=n):=hS.len;have hn:=hS.big;have HW:=hide hwt;have GZ:=@run_makeMap Tryz.prog;clear hS hwt;go_enter Tryz.func97,Tryz.ntmps97;go_wp2_with fail;refine (xg ao n cap L _ HS.out).mono ?_;rintro x w0 ⟨z,rfl,hz,b0⟩;have gI:=hide b0;have pf:=hide (HS.out.below b0);clear b0;rcases hz with ⟨rfl,hO⟩ | ⟨rfl,hO⟩;rotate_left
 ·have HE:Hid (FoA w w0 (.returned (.tuple #[.slice none 0 0,.int .i64 1])) L n):=.inr ⟨hO,rfl,gI.out⟩;clear hO GZ;go_wp2_with fail;go_ret2;exact HE.out
 ·have HO:=hide hO;obtain ⟨w1,cR⟩:∃ w1,w0.alloc (.map #[] 0)=w1:=⟨_,rfl⟩;obtain ⟨b,hb⟩:∃ b,w0.heap.size=b:=⟨_,rfl⟩
  have DJ:Hid (MF w0 w1 0 []):=⟨fun _=>hs0,by
   have h:=MRo.start (P:=Tryz.prog) (kt:=9) (et:=26) (size:=2) w0;rw [cR] at h
   have e:(fun s=>∃ r∈([]:List Rc),r.s=s)=fun _=>False:=by funext s;simp
   rw [e]
   exact h⟩
  have Hb:=hide hb;clear hO;go_wp2_with fail;clear cR hb;go_loopw [21] (fun i wr=>∃ k:Nat,k <= n/\i = .int .i64 (k:Int)/\Hid (MF w0 wr k (L.take k))) (fun i _=>n - (intOf i).toNat)
  case atStart=>exact ⟨0,Nat.zero_le _,rfl,DJ⟩
  case round =>
   obtain ⟨k,hk,rfl,HM⟩:=hrel
   rename World=>wr
   clear DJ;by_cases ak:k < n
   ·have cL:(k:Int) < (n:Int):=by omega
    obtain ⟨f,M⟩:=HM.out;obtain ⟨ad,eO,A0⟩:=(pf.out.below M.below).at k ak;subst eO;have lA:=(pf.out.below M.below).okAt k ak;have HT:=hide (yG L k (by rw [HL.out];exact ak));obtain ⟨r,Hr⟩:∃ r,Hid (L.getD k rc0=r):=⟨_,rfl⟩;rw [Hr.out] at A0 lA HT;have gk:=lA.2;have dK:=zM A0;obtain ⟨g7,fZ⟩:∃ g7,wr.heap.size=g7:=⟨_,rfl⟩;obtain ⟨w7,a8,X7,B7,S7⟩:=fE wr (mkR r) g7 fZ;have M7:=(M.later B7).later (zg w7)
    have Iy:(f r.s).n <= 2900000000000:=by
     have h:=(M.rows r.s).1;rw [j8] at h;have h1:=vD (L.take k) r.s;have h2:=List.length_take_le k L;omega
    have ni:(HsV (f r.s)).ownBlock≠some g7:=fun h=>by have:=((M.rows r.s).lt g7 h).2;omega
    have Dj:Hid (∀ W,Below w7.drew.heap.size w7.drew W -> (Instr.lookup 187 (.map (some b)) (.string r.s) false).run Tryz.prog W = .ok (HsV (f r.s)) W):=fun W hW=>by
     have:=(M7.later hW).look mL Tryz.underlying9 Tryz.underlying187 (nJ W) r.s gk;rwa [Hb.out] at this
    obtain ⟨g8,c8,w8,DO,M8,k8⟩:=zi2 M7 r.s r.p Iy;obtain ⟨w9,AR,M9,k9⟩:=M8.put mL Tryz.underlying9 Tryz.underlying187 gk (by unfold maxLen;omega);rw [Hb.out] at AR k9
    have p8:g7≠b:=by have:=M.hb;rw [Hb.out] at this;omega
    have z8:w8.heap[g7]? = w7.heap[g7]?:=k8 g7 (show g7 < w7.heap.size by omega) ni;have z9:w9.heap[g7]? = w7.heap[g7]?:=(k9 g7 (Array.getElem?_eq_some_iff.1 (z8.trans X7)).1 p8).trans z8
    have aG:Hid (∀ W:World,W.heap[g7]? = w7.heap[g7]? -> W.cell? ⟨g7,0,none⟩=some (.string r.s)/\(ldP (.pointer (some ⟨g7,1,none⟩))).run Tryz.prog W = .ok (.agg #[.slice r.p.vo r.p.vn r.p.vc,.slice r.p.co r.p.cn r.p.cc]) W):=fun W h=>by
     have X:cf W g7 (mkR r):=h.trans X7;exact ⟨X.sk,zl X.past⟩
    have HZ:Hid (w8.heap[g7]? = w7.heap[g7]? /\ w9.heap[g7]? = w7.heap[g7]?):=⟨z8,z9⟩;have AS:Hid ((w7.drew.alloc (.cells #[.slice r.p.vo r.p.vn r.p.vc,.slice r.p.co r.p.cn r.p.cc] 26)).heap[g7]? = w7.heap[g7]?):=Below.heap_alloc w7.drew _ g7 (show g7 < w7.heap.size by omega);have l0:=Dj.out w7.drew (Below.refl _ _);have l1:=Dj.out _ (ze w7.drew (.cells #[.slice r.p.vo r.p.vn r.p.vc,.slice r.p.co r.p.cn r.p.cc] 26));have l2:(Instr.lookup 187 (.map (some b)) (.string r.s) false).run Tryz.prog (w7.alloc (.cells #[.slice r.p.vo r.p.vn r.p.vc,.slice r.p.co r.p.cn r.p.cc] 26)).drew = .ok (HsV (f r.s)) (w7.drew.alloc (.cells #[.slice r.p.vo r.p.vn r.p.vc,.slice r.p.co r.p.cn r.p.cc] 26)):=l1
    have Dk:Hid (MF w0 w9 (k+1) (L.take (k+1))):=by
     have hX:(fun s=>pvs (ofS (L.take (k+1)) s))=fun u=>if u=r.s then pvs (ofS (L.take k) r.s)++(PC r.p).toList else pvs (ofS (L.take k) u):=by
      funext s
      rw [HT.out,wf];by_cases h:s=r.s
      ·subst h;simp
      ·simp [h]
     have h:=M9;rw [<- hX,<- zeN,<- HT.out] at h;exact ⟨_,h⟩
    have uB:Hid ((Builtin.append_ #[151,151] 151 #[.slice (f r.s).o (f r.s).n (f r.s).c,.slice (some ⟨w7.heap.size,0,none⟩) 1 1]).run Tryz.prog (w7.drew.alloc (.cells #[.slice r.p.vo r.p.vn r.p.vc,.slice r.p.co r.p.cn r.p.cc] 26)) = .ok (.slice (some ⟨g8,0,none⟩) ((f r.s).n+1) c8) w8):=DO;have cw:=hide ak;clear A0 X7 B7 S7 M M7 M8 M9 k8 k9 z8 z9 DO ak hk lA;go_upto_region 8 with fail;clear a8 dK;refine wp_region_held_drew (S:=fun W=>W.cell? ⟨g7,0,none⟩=some (.string r.s)/\(ldP (.pointer (some ⟨g7,1,none⟩))).run Tryz.prog W = .ok (.agg #[.slice r.p.vo r.p.vn r.p.vc,.slice r.p.co r.p.cn r.p.cc]) W) (by kernel_rfl) (aG.out _ rfl) (fun hHeld=>?_);refine wU 0 ?_;refine wU 1 ?_;refine wU 2 ?_;refine wU 3 ?_;refine wU 4 ?_;refine wU 5 ?_;refine wU 7 ?_;refine wU 8 ?_;refine wpAnyH_ready (rs:=[6,9]) (by kernel_rfl) (by simp) ?_;refine AllReadyH.cons rfl (fun K hK=>?_) ?_
    ·go_simp;refine hK.out _ _ (aG.out _ rfl) (fun hHeld=>?_);clear hK K;refine wpAnyH_ready (rs:=[9]) (by kernel_rfl) (by simp) (.cons rfl (fun K hK=>?_) .nil);go_simp;refine hK.out _ _ (aG.out _ AS.out) (fun hHeld=>?_);clear hK K;refine wpAnyH_ready (rs:=[10]) (by kernel_rfl) (by simp) (.cons rfl (fun K hK=>?_) .nil);refine xx (by rfl) (.tmp 31) (.tmp 34) (by rfl) (by rfl) (by rfl) uB.out ?_;refine hK.out _ _ (aG.out _ HZ.out.1) (fun hHeld=>?_);clear hK K;refine wpAnyH_ready (rs:=[11]) (by kernel_rfl) (by simp) (.cons rfl (fun K hK=>?_) .nil);go_simp;refine hK.out _ _ (aG.out _ HZ.out.2) (fun hHeld=>?_);clear hK K;refine wpAnyH_done (by kernel_rfl) ?_ _;clear hHeld;clear l0 l1 l2 AR;go_wp2_with fail;go_roundw
     case rel=>exact ⟨k+1,cw.out,by simp,Dk⟩
     case measure=>simp [intOf];have:=cw.out;omega
    ·refine AllReadyH.cons rfl (fun K hK=>?_) ?_;rotate_left
     ·exact AllReadyH.nil
     go_simp;refine hK.out _ _ (aG.out _ AS.out) (fun hHeld=>?_);clear hK K;refine wpAnyH_ready (rs:=[6]) (by kernel_rfl) (by simp) (.cons rfl (fun K hK=>?_) .nil);go_simp;refine hK.out _ _ (aG.out _ AS.out) (fun hHeld=>?_);clear hK K;refine wpAnyH_ready (rs:=[10]) (by kernel_rfl) (by simp) (.cons rfl (fun K hK=>?_) .nil);refine xx (by rfl) (.tmp 31) (.tmp 34) (by rfl) (by rfl) (by rfl) uB.out ?_;refine hK.out _ _ (aG.out _ HZ.out.1) (fun hHeld=>?_);clear hK K;refine wpAnyH_ready (rs:=[11]) (by kernel_rfl) (by simp) (.cons rfl (fun K hK=>?_) .nil);go_simp;refine hK.out _ _ (aG.out _ HZ.out.2) (fun hHeld=>?_);clear hK K;refine wpAnyH_done (by kernel_rfl) ?_ _;clear hHeld;clear l0 l1 l2 AR;go_wp2_with fail;go_roundw
     case rel=>exact ⟨k+1,cw.out,by simp,Dk⟩
     case measure=>simp [intOf];have:=cw.out;omega
   ·obtain rfl:k=n:=by omega
    have HE:Hid (MF w0 wr k L):=by
     have h:=HM.out;rw [List.take_of_length_le (by have:=HL.out;omega)] at h;exact h
    obtain ⟨f,M⟩:=HE.out
    have nB:∀ s,∀ p∈ofS L s,am wr p:=fun s p hp=>by
     obtain ⟨r,hr,rfl⟩:=List.mem_map.1 hp;exact ((pf.out.below M.below).ok r (List.mem_filter.1 hr).1).1
    have ua:Hid (fq wr (f cP).o (f cP).n (ofS L cP)):=zbY (M.rows cP) (nB cP)
    have oW:(f cP).n <= 8796093022207:=by
     have h:=(M.rows cP).1;rw [j8] at h;have h1:=vD L cP;have h2:=HL.out;omega
    have l0:(Instr.lookup 187 (.map (some b)) (.string ⟨#[]⟩) false).run Tryz.prog wr = .ok (.slice (f cP).o (f cP).n (f cP).c) wr:=by
     have h:=M.look mL Tryz.underlying9 Tryz.underlying187 (nJ wr) cP (by decide);rwa [Hb.out] at h
    have J4:=hide M;clear M nB ak;go_wp2_with fail;clear l0;refine (q9 (f cP).o (f cP).n (f cP).c (ofS L cP) _ ua.out (HW.out cP) oW).mono ?_;rintro x w3 ⟨pa,rfl,Sa,Na,b3,Ca⟩;obtain ⟨g3,DA⟩:∃ g3,w3.heap.size=g3:=⟨_,rfl⟩;obtain ⟨w4,AP,X4,b4,s4⟩:=it w3 pa g3 DA;replace AP:(stP (.pointer (some ⟨g3,0,none⟩)) (PV pa)).run Tryz.prog (w3.alloc (.cells #[.slice none 0 0,.slice none 0 0] 26)) = .ok () w4:=AP;have b34:=b3.trans (b4.mono b3.size);have lh:=hide (J4.out.later b34);have uV:Hid (aA w4 g3 pa/\am w4 pa/\af (aw (ofS L cP)) pa.P):=⟨X4,Sa.below b4,Ca⟩;clear Sa Na b3 b4 s4 X4 Ca b34 J4 ua;go_wp2_with fail;clear AP DA;refine (zag (some b) _).mono ?_;rintro x w5 ⟨rfl,rfl⟩;obtain ⟨D,hD,Kh⟩:=lh.out.map;rw [Hb.out] at hD;have dP:=hD.size_le;have HD:Hid (w4.ownsMap Tryz.prog 9 RSl b k D):=hD
    have HZ:Hid (Maps.size D <= maxLen/\Maps.size D * 16 <= 140737488355328):=⟨by unfold maxLen;omega,by omega⟩;have Lu:=hide Kh;clear hD Kh dP;go_wp2_with fail;refine (jf b k D RSl w4 HD.out HZ.out.1 HZ.out.2).mono ?_;rintro y w6 ⟨ss,hp,hg⟩;obtain ⟨a6,c6,rfl,T6,b6⟩:=hg.src;have Cy:=hide (ET HD.out mL Tryz.underlying9 Lu.out hp);obtain ⟨T,Dp⟩:∃ T,Hid (ss.mergeSort leB=T):=⟨_,rfl⟩;rw [Dp.out] at T6 ⊢;have b46:=(ze w4 (.cells #[.map (some b)] 187)).trans (b6.mono (ze w4 (.cells #[.map (some b)] 187)).size);have sK:=hide T6;have JC:=hide (lh.out.later b46);have td:Hid (aA w6 g3 pa/\am w6 pa/\af (aw (ofS L cP)) pa.P):=⟨uV.out.1.below b46,uV.out.2.1.below b46,uV.out.2.2⟩;clear b6 b46 hg T6;obtain ⟨m,Hm⟩:∃ m,Hid (T.length=m):=⟨_,rfl⟩
    have Fq:Hid (m <= 2199023255552):=by
     show _ <= _
     have e1:=((List.mergeSort_perm ss leB).trans hp).length_eq;rw [Dp.out,Hm.out] at e1
     have e2:(strKeys D).length=Maps.size D:=by
      obtain ⟨es,hD⟩:=HD.out.isMap;subst hD;simp [strKeys,Maps.size]
     have e3:=HD.out.size_le;omega
    have GB:Hid (∀ t∈T,t.length <= maxLen):=fun t ht=>by
     refine strKeys_le HD.out Tryz.underlying9 _ (((List.mergeSort_perm ss leB).trans hp).mem_iff.1 ?_);rw [Dp.out];exact ht
    have LF:Hid (∀ t,t∈T↔∃ r∈L,r.s=⟨t.toArray⟩):=fun t=>by
     rw [<- Dp.out,(List.mergeSort_perm ss leB).mem_iff];exact Cy.out.2 t
    have Mz:Hid (T.Pairwise (fun a b=>Lib.compareBytes a b < 0)):=by
     show List.Pairwise _ _
     rw [<- Dp.out];exact zeO Cy.out.1
    rw [Hm.out] at sK ⊢;clear hp;go_wp2_with fail;go_loopw [9,44] (fun v i wr2=>∃ (j:Nat) (hh:Hs),j <= m/\v = .slice hh.o hh.n hh.c/\i = .int .i64 (j:Int)/\Hid (∃ F,aO w6.heap.size w6 wr2 hh F/\fl L (T.take j) F/\hh.n <= j)) (fun _ i _=>m - (intOf i).toNat)
    case atStart=>exact ⟨0,hs0,Nat.zero_le _,rfl,rfl,[],aO.nil w6,fl.start L,Nat.le_refl _⟩
    case round =>
     obtain ⟨j,hh,hj,rfl,rfl,HR⟩:=hrel
     rename World=>wr2
     obtain ⟨F,O,JM,mt⟩:=HR.out;have DV:=hide JM;have AM:=hide mt;clear JM mt HR;by_cases gt:j < m
     ·have LI:(j:Int) < (m:Int):=by omega
      have Ij:=Hm.out
      have Ci:j < 2199023255552:=by have:=Fq.out;omega
      obtain ⟨ad6,MQ,KD⟩:=(sK.out.below O.below).2 j gt;subst MQ;obtain ⟨s,Hs⟩:∃ s:ByteArray,Hid (s=⟨(T.getD j []).toArray⟩):=⟨_,rfl⟩
      have Ed:encStr (T.getD j []) = .string s:=by rw [Hs.out]
      rw [Ed] at KD
      have tZ:T.getD j []∈T:=by rw [List.getD_eq_getElem?_getD,List.getElem?_eq_getElem (by omega)];exact List.getElem_mem _
      have Cu:s.size <= maxLen:=by rw [Hs.out];have:=GB.out _ tZ;simpa [ByteArray.size] using this
      have E4:Hid (T.take (j+1)=T.take j++[T.getD j []]):=by
       show _=_
       rw [List.take_succ_eq_append_getElem (by omega)];simp [List.getD,show j < T.length by omega]
      have sj:=hide gt;have M2:=JC.out.later O.below
      have nB:∀ p∈ofS L s,am wr2 p:=fun p hp=>by
       obtain ⟨r,hr,-,rfl⟩:=km.1 hp;exact ((pf.out.below M2.below).ok r hr).1
      have lR:Hid (fq wr2 (f s).o (f s).n (ofS L s)):=zbY (M2.rows s) nB
      have Ff:(f s).n <= 8796093022207:=by
       have h:=(M2.rows s).1;rw [j8] at h;have h1:=vD L s;have h2:=HL.out;omega
      have lk:(Instr.lookup 187 (.map (some b)) (.string s) false).run Tryz.prog wr2 = .ok (.slice (f s).o (f s).n (f s).c) wr2:=by
       have h:=M2.look mL Tryz.underlying9 Tryz.underlying187 (nJ wr2) s Cu;rwa [Hb.out] at h
      have Cs:=hide O;clear M2 nB tZ gt hj O Ed;go_wp2_with fail;clear lk KD;refine (q9 (f s).o (f s).n (f s).c (ofS L s) _ lR.out (HW.out s) Ff).mono ?_;rintro x w7 ⟨p1,rfl,S1,N1,b7,C1⟩;obtain ⟨g7,fZ⟩:∃ g7,w7.heap.size=g7:=⟨_,rfl⟩;obtain ⟨w8,rf,X8,b8,s8⟩:=it w7 p1 g7 fZ;replace rf:(stP (.pointer (some ⟨g7,0,none⟩)) (PV p1)).run Tryz.prog (w7.alloc (.cells #[.slice none 0 0,.slice none 0 0] 26)) = .ok () w8:=rf;have b78:=b7.trans (b8.mono b7.size);have nG:∀ g,(HsV hh).ownBlock=some g -> g < wr2.heap.size:=fun g hg=>(Cs.out.own.lt g hg).2;have fN:∀ q:Pv,du wr2.heap.size q -> eC hh q:=fun q hq g hg=>dA.new hq (nG g hg)
      have sN:wr2.heap.size <= g7:=by have:=b7.size;omega
      have Iq:Hid ((HsV hh).ownBlock≠some g7/\(∀ r∈F,dA r.p g7)/\w6.heap.size <= g7):=⟨fun e=>by have:=nG g7 e;omega,fun r hr=>dA.old (Cs.out.ok r hr).1.1 sN,Nat.le_trans Cs.out.below.size sN⟩;have fD:=hide (Cs.out.later b78);have mW:Hid (af (aw (ofS L s)) p1.P):=C1;have pC:=hide (fN p1 N1);have fM:Hid (aA w8 g7 p1/\am w8 p1):=⟨X8,S1.below b8⟩;have uB:Hid (aA w8 g3 pa/\am w8 pa):=⟨(td.out.1.below Cs.out.below).below b78,(td.out.2.1.below Cs.out.below).below b78⟩;have Hg:Hid (wr2.heap.size <= g7/\g7 < w8.heap.size):=⟨sN,by omega⟩;clear S1 N1 b7 b8 b78 C1 X8 nG sN s8 lR;by_cases h0:s.size=0
      ·have e0:=K.jR s h0
       obtain rfl:s=cP:=by obtain ⟨d⟩:=s;have:d=#[]:=Array.eq_empty_of_size_eq_zero h0;rw [this];rfl
       have ix:Hid (aA w8 g7 p1/\am w8 p1/\eC hh p1/\IsP (eJ L cP) p1.P):=⟨fM.out.1,fM.out.2,pC.out,zgB mW.out⟩;have uU:=fD
       have l9:(ldP (.pointer (some ⟨g7,0,none⟩))).run Tryz.prog w8 = .ok (PV p1) w8:=zl ix.out.1.at
       go_wp2_with fail;clear l9;refine (jA p1 _ ix.out.2.1).mono ?_;rintro x wa ⟨em,rfl,tp,ba⟩;have pn:=hide (uU.out.later ba);have mR:Hid (aA wa g7 p1/\am wa p1/\eC hh p1/\IsP (eJ L cP) p1.P):=⟨ix.out.1.below ba,ix.out.2.1.below ba,ix.out.2.2.1,ix.out.2.2.2⟩;clear ba uU ix
       cases em with
       | true =>
        have u2:Hid (fl L (T.take (j+1)) F):=by
         show fl _ _ _
         rw [E4.out];refine DV.out.skip _ (fun r hr n hm=>?_);rw [<- Hs.out] at hm;obtain ⟨C,hC,hI⟩:=mR.out.2.2.2;exact tp.1 rfl r hr n ((qf hC r hr n).2 ((hI r hr n).2 hm))
        clear tp;go_wp2_with fail;go_roundw
        case rel=>exact ⟨j+1,hh,sj.out,rfl,by simp,⟨F,pn.out,u2.out,by have:=AM.out;omega⟩⟩
        case measure=>simp [intOf];have:=sj.out;omega
       | false =>
        have u2:Hid (fl L (T.take (j+1)) (F++[⟨cP,p1⟩])):=by
         show fl _ _ _
         rw [E4.out];exact DV.out.add _ ⟨cP,p1⟩ Hs.out mR.out.2.2.2 (fun h=>by have:=tp.2 h;cases this)
        obtain ⟨gb,cb,wb,dS,Ob,-⟩:=pn.out.app ⟨cP,p1⟩ ⟨mR.out.2.1,Cu⟩ mR.out.2.2.1 (by have:=AM.out;have:=sj.out;have:=Fq.out;omega)
        have la:(ldP (.pointer (some ⟨g7,0,none⟩))).run Tryz.prog wa = .ok (.agg #[.slice p1.vo p1.vn p1.vc,.slice p1.co p1.cn p1.cc]) wa:=zl mR.out.1.at
        have oR:Hid ((Builtin.append_ #[27,27] 27 #[.slice hh.o hh.n hh.c,.slice (some ⟨wa.heap.size,0,none⟩) 1 1]).run Tryz.prog (wa.alloc (.cells #[.string cP,.slice p1.vo p1.vn p1.vc,.slice p1.co p1.cn p1.cc] 78)) = .ok (.slice (some ⟨gb,0,none⟩) (hh.n+1) cb) wb):=dS;have CM:=hide Ob;clear tp dS Ob;go_wp2_with (at_builtin;refine x7 rfl (.tmp 60) (.tmp 64) rfl rfl rfl oR.out ?_);go_roundw
        case rel=>exact ⟨j+1,⟨some ⟨gb,0,none⟩,hh.n+1,cb⟩,sj.out,rfl,by simp,⟨_,CM.out,u2.out,by show hh.n+1 <= j+1;have:=AM.out;omega⟩⟩
        case measure=>simp [intOf];have:=sj.out;omega
      ·have e0:=K.kW s h0;have L2:s≠cP:=fun e=>h0 (by rw [e];rfl)
       have l8:=zl fM.out.1.at
       have l3:=zl uB.out.1.at
       go_wp2_with fail;clear rf l8 l3;refine (jz p1 pa _ fM.out.2 uB.out.2).mono ?_;rintro x w9 ⟨p2,rfl,S2,N2,b9,hM⟩;have t9:=qQ (p':=p2) (fM.out.1.below b9);have O9:=(fD.out.later b9).setOther g7 (PC p2) Iq.out.2.2 Iq.out.1 Iq.out.2.1;have P9:am (w9.setRow g7 (PC p2)) p2:=xR (g:=some g7) S2 (fun k e=>by obtain rfl:=Option.some.inj e;exact dA.new N2 Hg.out.2) (fun q _ hq=>setRow_other _ _ _ _ (fun e=>hq (by rw [e])));have X9:aA (w9.setRow g7 (PC p2)) g7 p2:=setRow_heap _ _ _ _ _ _ (fM.out.1.below b9);obtain ⟨wz,DU⟩:∃ wz,w9.setRow g7 (PC p2)=wz:=⟨_,rfl⟩;rw [DU] at t9 O9 P9 X9;have ix:Hid (aA wz g7 p2/\am wz p2/\eC hh p2/\IsP (eJ L s) p2.P):=⟨X9,P9,fN p2 (N2.mono (by have:=Hg.out;omega)),zan L2 mW.out td.out.2.2 hM⟩;have uU:=hide O9;clear S2 N2 b9 hM O9 P9 X9 DU fN
       have l9:(ldP (.pointer (some ⟨g7,0,none⟩))).run Tryz.prog wz = .ok (PV p2) wz:=zl ix.out.1.at
       go_wp2_with fail;clear l9;refine (jA p2 _ ix.out.2.1).mono ?_;rintro x wa ⟨em,rfl,tp,ba⟩;have pn:=hide (uU.out.later ba);have mR:Hid (aA wa g7 p2/\am wa p2/\eC hh p2/\IsP (eJ L s) p2.P):=⟨ix.out.1.below ba,ix.out.2.1.below ba,ix.out.2.2.1,ix.out.2.2.2⟩;clear ba uU ix
       cases em with
       | true =>
        have u2:Hid (fl L (T.take (j+1)) F):=by
         show fl _ _ _
         rw [E4.out];refine DV.out.skip _ (fun r hr n hm=>?_);rw [<- Hs.out] at hm;obtain ⟨C,hC,hI⟩:=mR.out.2.2.2;exact tp.1 rfl r hr n ((qf hC r hr n).2 ((hI r hr n).2 hm))
        clear tp;go_wp2_with fail;go_roundw
        case rel=>exact ⟨j+1,hh,sj.out,rfl,by simp,⟨F,pn.out,u2.out,by have:=AM.out;omega⟩⟩
        case measure=>simp [intOf];have:=sj.out;omega
       | false =>
        have u2:Hid (fl L (T.take (j+1)) (F++[⟨s,p2⟩])):=by
         show fl _ _ _
         rw [E4.out];exact DV.out.add _ ⟨s,p2⟩ Hs.out mR.out.2.2.2 (fun h=>by have:=tp.2 h;cases this)
        obtain ⟨gb,cb,wb,dS,Ob,-⟩:=pn.out.app ⟨s,p2⟩ ⟨mR.out.2.1,Cu⟩ mR.out.2.2.1 (by have:=AM.out;have:=sj.out;have:=Fq.out;omega)
        have la:(ldP (.pointer (some ⟨g7,0,none⟩))).run Tryz.prog wa = .ok (.agg #[.slice p2.vo p2.vn p2.vc,.slice p2.co p2.cn p2.cc]) wa:=zl mR.out.1.at
        have oR:Hid ((Builtin.append_ #[27,27] 27 #[.slice hh.o hh.n hh.c,.slice (some ⟨wa.heap.size,0,none⟩) 1 1]).run Tryz.prog (wa.alloc (.cells #[.string s,.slice p2.vo p2.vn p2.vc,.slice p2.co p2.cn p2.cc] 78)) = .ok (.slice (some ⟨gb,0,none⟩) (hh.n+1) cb) wb):=dS;have CM:=hide Ob;clear tp dS Ob;go_wp2_with (at_builtin;refine x7 rfl (.tmp 60) (.tmp 64) rfl rfl rfl oR.out ?_);go_roundw
        case rel=>exact ⟨j+1,⟨some ⟨gb,0,none⟩,hh.n+1,cb⟩,sj.out,rfl,by simp,⟨_,CM.out,u2.out,by show hh.n+1 <= j+1;have:=AM.out;omega⟩⟩
        case measure=>simp [intOf];have:=sj.out;omega
     ·obtain rfl:j=m:=by omega
      have IP:Hid (FoA w wr2 (.returned (.tuple #[.slice hh.o hh.n hh.c,.int .i64 0])) L k):=by
       have hT:T.take j=T:=List.take_of_length_le (by have:=Hm.out;omega);have hF:=DV.out;rw [hT] at hF;have b06:Below w.heap.size w w6:=gI.out.trans (JC.out.below.mono gI.out.size);refine .inl ⟨HO.out,hh,F,rfl,O.src (by have:=AM.out;have:=Fq.out;omega),b06.trans (O.below.mono b06.size),fun ad e=>?_,hF.done Mz.out LF.out⟩;have:=(O.own.lt ad.block (by show (Value.slice hh.o hh.n hh.c).ownBlock=some ad.block;rw [e];rfl)).1;exact Nat.le_trans b06.size this
      clear O;go_wp2_with fail;go_ret2;exact IP.out
end
section
open Go.RowKit
attribute [local go_sem ↓] zq zp zV zU K.zx K.zw
attribute [local go_sem] zi zj
variable {w w' w2 W W' : World} {g : Nat}

def aa (e:K.En):Rn:=⟨e.rep,e.num⟩
def DtA (w w':World) (x:Ending) (L:List K.En):Prop:=Below w.heap.size w w'/\((K.chk L=0/\∃ p:Pv,x = .returned (.tuple #[PV p,.int .i64 0])/\am w' p/\du w.heap.size p/\af (cr (L.map aa)) p.P)∨(¬ K.chk L=0/\x = .returned (.tuple #[PV pv0,.int .i64 1])))
theorem lX {fn:Func} {p q:Tmp} {m:Pv} {v:Value} (h:fn.results=#[.cell p 26,.tmp q]) {tmps:Array Value} (hp:tmps.getD p undef = .pointer (some ⟨g,0,none⟩)) (hq:tmps.getD q undef=v) (A:aA w g m) :
  (results fn tmps).run Tryz.prog w = .ok (.tuple #[PV m,v]) w:=by
 have hl:=zbJ A.at
 simp only [results,h];rw [Array.getD_eq_getD_getElem?] at hp hq;simp [hp,hq,asAddr,hl]
theorem zc0 (ao:Option Addr) (n cap:Nat) (L:List K.En) (w:World) (hS:K.aD w ao n cap L):Calls Tryz.prog 55 #[.slice ao n cap] w fun x w'=>DtA w w' x L:=by
 have b1:=ze w (.cells #[.slice none 0 0,.slice none 0 0] 26);have x1:aA (w.alloc (.cells #[.slice none 0 0,.slice none 0 0] 26)) w.heap.size pv0:=zr w pv0;obtain ⟨w1,cR⟩:∃ w1,w.alloc (.cells #[.slice none 0 0,.slice none 0 0] 26)=w1:=⟨_,rfl⟩;obtain ⟨g1,cT⟩:∃ g1,w.heap.size=g1:=⟨_,rfl⟩;rw [cR] at b1 x1;rw [cT] at x1;have HX:Hid (aA w1 g1 pv0/\K.aD w1 ao n cap L/\Below w.heap.size w w1/\w.heap.size=g1):=⟨x1,hS.below b1,b1,cT⟩;have HL:Hid (L.length=n/\n <= 3518437208883):=⟨hS.1,hS.2.2.2.2⟩;have pF:=HL.out.2;clear b1 x1 hS;go_enter Tryz.func55,Tryz.ntmps55;go_wp2_with fail;clear cR cT;refine (K.qv ao n cap L _ HX.out.2.1).mono ?_;rintro x w2 ⟨rfl,b2⟩;have cg:=hide (HX.out.2.2.1.trans (b2.mono HX.out.2.2.1.size));have fB:Hid (aA w2 g1 pv0/\K.aD w2 ao n cap L/\w.heap.size=g1):=⟨HX.out.1.below b2,HX.out.2.1.below b2,HX.out.2.2.2⟩
 clear b2 HX;rcases K.yu L with hc | hc;rotate_left
 ·have HE:Hid (DtA w (w2.setRow g1 (PC pv0)) (.returned (.tuple #[PV pv0,.int .i64 1])) L):=⟨zh cg.out (by have:=fB.out.2.2;omega),.inr ⟨by rw [hc];decide,rfl⟩⟩;have t6:(stP (.pointer (some ⟨g1,0,none⟩)) (.agg #[.slice none 0 0,.slice none 0 0])).run Tryz.prog w2 = .ok () (w2.setRow g1 (PC pv0)):=qQ (p':=pv0) fB.out.1;have sh:Hid (aA (w2.setRow g1 (PC pv0)) g1 pv0):=setRow_heap _ _ _ _ _ _ fB.out.1;rw [hc];clear hc;go_wp2_with fail;refine bodyPost_ret (lX rfl rfl rfl sh.out) rfl ?_;exact HE.out
 ·rw [hc];have HC:=hide hc;clear hc;go_wp2_with fail;go_loopw [5,16] (fun v i wr=>∃ (k:Nat) (ap:Option Addr) (c:Nat),k <= n/\v = .slice ap k c/\i = .int .i64 (k:Int)/\Hid (fd w2.heap.size w2.heap.size w2 wr ap c ((L.take k).map aa))) (fun _ i _=>n - (intOf i).toNat)
  case atStart=>exact ⟨0,none,0,Nat.zero_le _,rfl,rfl,World.ownsRow_nil _ _ _ _,Below.refl _ _,Nat.le_refl _,Nat.le_refl _⟩
  case round =>
   obtain ⟨k,ap,c,hk,rfl,rfl,HO⟩:=hrel
   rename World=>wr
   obtain ⟨acc,fK⟩:∃ acc,Hid ((L.take k).map aa=acc):=⟨_,rfl⟩
   have Fo:Hid (acc.length=k):=by show _=_;rw [<- fK.out,List.length_map,List.length_take];have:=HL.out.1;omega
   rw [fK.out] at HO;by_cases ak:k < n
   ·have cL:(k:Int) < (n:Int):=by omega
    obtain ⟨ad,eO,A0⟩:=(fB.out.2.1.below HO.out.below).at k ak;subst eO;obtain ⟨e,He⟩:∃ e,Hid (L.getD k K.en0=e):=⟨_,rfl⟩;rw [He.out] at A0;have dK:=K.zO A0;have HT:=hide (K.jm L k (by rw [HL.out.1];exact ak));rw [He.out] at HT
    have HN:Hid ((L.take (k+1)).map aa=acc++[aa e]):=by show _=_;rw [HT.out,List.map_append,fK.out];rfl
    obtain ⟨g7,fZ⟩:∃ g7,wr.heap.size=g7:=⟨_,rfl⟩;obtain ⟨w7,a8,X7,B7,-⟩:=K.made wr e g7 fZ;replace a8:(K.mO (.pointer (some ⟨g7,0,none⟩)) (K.EV e)).run Tryz.prog (wr.alloc (.cells #[.int .i64 0,.int .i64 0,.string ⟨#[]⟩,.int .i64 0] 50)) = .ok () w7:=a8;have fI:=hide (HO.out.later B7);have l7:(ldD (.pointer (some ⟨g7,0,none⟩))).run Tryz.prog w7 = .ok (.agg #[.int .i64 e.rep,.int .i64 e.num]) w7:=zG (zaq X7);have cw:=hide ak;clear A0 X7 B7 ak;go_wp2_with (at_builtin;go_loud (refine (fI.out.later (ze w7 _)).appendS [aa e] (some ⟨w7.heap.size,0,none⟩) 1 1 (zgi w7 [aa e] _ rfl 48 1 rfl (by omega)) (by have:=Fo.out;have:=cw.out;omega) rfl (.tmp 20) (.tmp 23) rfl k Fo.out rfl rfl ?_);intro ao8 c8 w8 O8;have fD:=hide O8;clear O8);clear a8 fZ dK;go_roundw
    case rel=>exact ⟨k+1,ao8,c8,cw.out,rfl,by simp,by show fd _ _ _ _ _ _ _;rw [HN.out];exact fD.out⟩
    case measure=>simp [intOf];have:=cw.out;omega
   ·have cL:¬ (k:Int) < (n:Int):=by omega
    obtain rfl:k=n:=by omega
    have Lv:Hid (acc=L.map aa):=by show _=_;rw [<- fK.out,List.take_of_length_le (by have:=HL.out.1;omega)]
    obtain ⟨As,Mq⟩:=HO.out.src (by have:=Fo.out;omega)
    have Dz:aX wr ap k c acc:=by have:=Fo.out;rw [this] at As;exact As
    have KT:=hide (wX ap k c acc wr Dz);have lK:=wTr cg HO.out.below;have JB:=hide (fB.out.1.below HO.out.below);have HG:Hid (w.heap.size=g1/\g1 < wr.heap.size):=⟨fB.out.2.2,JB.out.lt⟩;clear As Mq Dz;go_wp2_with fail;refine KT.out.mono ?_;rintro x w8 ⟨p,rfl,S8,n8,b8,c8⟩;have X8:=JB.out.below b8;have t8:=qQ (p':=p) X8;have fM:Hid (aA (w8.setRow g1 (PC p)) g1 p):=setRow_heap _ _ _ _ _ _ X8
    have HE:Hid (DtA w (w8.setRow g1 (PC p)) (.returned (.tuple #[PV p,.int .i64 0])) L):=by
     have hb:=lK.out.trans (b8.mono lK.out.size);refine ⟨zh hb (by have:=HG.out;omega),.inl ⟨HC.out,p,rfl,jx S8 (fun ad h=>setRow_other _ _ _ _ (by have:=n8.1 ad h;have:=HG.out;omega)) (fun ad h=>setRow_other _ _ _ _ (by have:=n8.2 ad h;have:=HG.out;omega)),n8.mono (by have:=HG.out;omega),by rw [<- Lv.out];exact c8⟩⟩
    clear S8 n8 b8 c8 X8 KT;go_wp2_with fail;refine bodyPost_ret (lX rfl rfl rfl fM.out) rfl ?_;exact HE.out
end
section
open Go.RowKit Go.Maps Go.Sort
attribute [local go_sem ↓] zV zU K.zx K.zw
attribute [local go_sem] K.zt K.zF
theorem rz:Keyed Tryz.prog 9:=string_keyed Tryz.underlying9
theorem nZ (w:World):(zeroValue 32).run Tryz.prog w = .ok (HsV hs0) w:=by kernel_rfl
def dl (L:List K.En) (s:ByteArray):List Rn:=(L.filter (fun e=>decide (s.size=0) || decide (e.sku=s))).map aa
theorem kX (L:List K.En) (s:ByteArray):(dl L s).length <= L.length:=by unfold dl;rw [List.length_map];exact List.length_filter_le _ _
def eB:ByteArray:=⟨#[]⟩
theorem zh0 {s:ByteArray} (h:s.size=0):s=eB:=by
 obtain ⟨d⟩:=s;have:d=#[]:=Array.eq_empty_of_size_eq_zero h;rw [this];rfl
theorem zdF {L:List K.En} {e:K.En} (_:¬ e.sku.size=0) (s:ByteArray) :
  rcs (dl (L++[e]) s)=if s=eB then rcs (dl L s)++(RC (aa e)).toList else if s=e.sku then rcs (dl L s)++(RC (aa e)).toList else rcs (dl L s):=by
 unfold dl;rw [List.filter_append,List.map_append,xr];by_cases h0:s=eB
 ·subst h0
  have h:List.filter (fun e=>decide (eB.size=0) || decide (e.sku=eB)) [e]=[e]:=by simp only [show decide (eB.size=0)=true from rfl,Bool.true_or,List.filter_cons,List.filter_nil,if_true]
  rw [if_pos rfl,h];simp [ki]
 ·have h1:¬ s.size=0:=fun h=>h0 (zh0 h);rw [if_neg h0];by_cases h2:s=e.sku
  ·subst h2;simp [h1,ki]
  ·have h3:¬ e.sku=s:=fun h=>h2 h.symm;simp [h1,h2,h3,rcs]
def MD (w W:World) (kk:Nat) (L:List K.En):Prop:=∃ K f,MRo Tryz.prog 9 48 2 (w.heap.size+1) w W w.heap.size kk K f (fun s=>rcs (dl L s))
theorem zhv {w W:World} {b B k:Nat} {K:ByteArray -> Prop} {f:ByteArray -> Hs} {X:ByteArray -> List Value} (M:MRo Tryz.prog 9 48 2 B w W b k K f X) (s:ByteArray) (d:Rn) (hn:(f s).n <= 8000000000000) :
  ∃ g c2 W2,(Builtin.append_ #[32,32] 32 #[HsV (f s),.slice (some ⟨W.heap.size,0,none⟩) 1 1]).run Tryz.prog (W.alloc (.cells (RC d) 48)) = .ok (.slice (some ⟨g,0,none⟩) ((f s).n+1) c2) W2/\MRm Tryz.prog 9 48 2 B w W2 b k K f X s ⟨some ⟨g,0,none⟩,(f s).n+1,c2⟩ (X s++(RC d).toList)/\∀ q,q < W.heap.size -> (HsV (f s)).ownBlock≠some q -> W2.heap[q]? = W.heap[q]?:=by
 obtain ⟨i0,hi,dg,dn,ee⟩:=info_parts rl
 obtain ⟨g,c2,W2,h1,h2,h3⟩:=(M.later (ze W (.cells (RC d) 48))).app s (ty:=32) Tryz.underlying32 hi dg dn ee (by simp [Value.cells]) (by decide) ⟨W.heap.size,0,none⟩ 1 (RC d).toList rfl (fun j u hj=>by
  rw [Addr.add_lit,Nat.zero_add,World.cell?_alloc_new]
  simpa using hj) (jX d) (by unfold maxLen;omega) (by omega)
 exact ⟨g,c2,W2,h1,h2,fun q hq hn=>(h3 q (by simp;omega) hn).trans (Below.heap_alloc W _ q hq)⟩
theorem MRo.len {w W:World} {b B k:Nat} {K0:ByteArray -> Prop} {f:ByteArray -> Hs} {L:List K.En} (M:MRo Tryz.prog 9 48 2 B w W b k K0 f (fun s=>rcs (dl L s))) (s:ByteArray):(f s).n=(dl L s).length:=by
 have h:=(M.rows s).1;rw [qt] at h;omega
theorem zdG (ao:Option Addr) (n cap:Nat) (L:List K.En) (w:World) (hS:K.aD w ao n cap L) (ch:∀ e∈L,¬ e.sku.size=0) :
  Calls Tryz.prog 99 #[.slice ao n cap] w fun x w'=>∃ kk,x = .returned (.map (some w.heap.size))/\MD w w' kk L:=by
 have HS:=hide hS;have HL:Hid (L.length=n):=hS.1;have hn:=hS.2.2.2.2;have GC:=hide ch;have GZ:=@run_makeMap Tryz.prog;obtain ⟨w1,cR⟩:∃ w1,w.alloc (.map #[] 0)=w1:=⟨_,rfl⟩;obtain ⟨b,hb⟩:∃ b,w.heap.size=b:=⟨_,rfl⟩;have DJ:Hid (MD w w1 0 []):=⟨_,_,cR ▸ MRo.start w⟩;have Hb:=hide hb;clear hS ch;go_enter Tryz.func99,Tryz.ntmps99;go_wp2_with fail;clear cR hb;go_loopw [9] (fun i wr=>∃ k:Nat,k <= n/\i = .int .i64 (k:Int)/\Hid (MD w wr (2 * k) (L.take k))) (fun i _=>n - (intOf i).toNat)
 case atStart=>exact ⟨0,Nat.zero_le _,rfl,DJ⟩
 case round =>
  obtain ⟨k,hk,rfl,HM⟩:=hrel
  rename World=>wr
  clear DJ;by_cases ak:k < n
  ·have cL:(k:Int) < (n:Int):=by omega
   obtain ⟨K0,f,M⟩:=HM.out;obtain ⟨ad,eO,A0⟩:=(HS.out.below M.below).at k ak;subst eO;obtain ⟨e,He⟩:∃ e,Hid (L.getD k K.en0=e):=⟨_,rfl⟩;have gk:=HS.out.sku k ak;have HT:=hide (K.jm L k (by rw [HL.out];exact ak));have Fz:¬ (L.getD k K.en0).sku.size=0:=GC.out _ (by rw [List.getD_eq_getElem?_getD,List.getElem?_eq_getElem (by rw [HL.out];exact ak)];exact List.getElem_mem _);rw [He.out] at A0 gk HT Fz;have NC:=hide Fz;have dK:=K.zO A0;obtain ⟨g7,fZ⟩:∃ g7,wr.heap.size=g7:=⟨_,rfl⟩;obtain ⟨w7,a8,X7,B7,S7⟩:=K.made wr e g7 fZ;replace a8:(K.mO (.pointer (some ⟨g7,0,none⟩)) (K.EV e)).run Tryz.prog (wr.alloc (.cells #[.int .i64 0,.int .i64 0,.string ⟨#[]⟩,.int .i64 0] 50)) = .ok () w7:=a8;have M7:=(M.later B7).later (zg w7)
   have Iy:∀ s,(f s).n <= 8000000000000:=fun s=>by rw [M.len s];have h1:=kX (L.take k) s;have h2:=List.length_take_le k L;omega
   have ni:∀ s,(HsV (f s)).ownBlock≠some g7:=fun s h=>by have:=((M.rows s).lt g7 h).2;omega
   have Dj:Hid (∀ W,Below w7.drew.heap.size w7.drew W -> (Instr.lookup 149 (.map (some b)) (.string e.sku) false).run Tryz.prog W = .ok (HsV (f e.sku)) W):=fun W hW=>by
    have:=(M7.later hW).look rz Tryz.underlying9 Tryz.underlying149 (nZ W) e.sku gk;rwa [Hb.out] at this
   obtain ⟨g8,c8,w8,DO,M8,k8⟩:=zhv M7 e.sku (aa e) (Iy _);obtain ⟨w9,AR,M9,k9⟩:=M8.put rz Tryz.underlying9 Tryz.underlying149 gk (by unfold maxLen;omega);rw [Hb.out] at AR k9
   have p8:g7≠b:=by have:=M.hb;rw [Hb.out] at this;omega
   have z7:w7.drew.heap[g7]? = w7.heap[g7]?:=rfl;have z8:w8.heap[g7]? = w7.heap[g7]?:=k8 g7 (show g7 < w7.heap.size by omega) (ni _);have z9:w9.heap[g7]? = w7.heap[g7]?:=(k9 g7 (Nat.lt_of_lt_of_le (show g7 < w7.heap.size by omega) (by have:=M8.hb.2.2;have:=(Array.getElem?_eq_some_iff.1 (z8.trans X7)).1;omega)) p8).trans z8
   have aG:Hid (∀ W:World,W.heap[g7]? = w7.heap[g7]? -> W.cell? ⟨g7,2,none⟩=some (.string e.sku)/\(ldD (.pointer (some ⟨g7,0,none⟩))).run Tryz.prog W = .ok (.agg #[.int .i64 e.rep,.int .i64 e.num]) W):=fun W h=>by
    have X:K.Box W g7 50 e:=h.trans X7;exact ⟨X.at.c2,zG (zaq X)⟩
   have HZ:Hid (w8.heap[g7]? = w7.heap[g7]? /\ w9.heap[g7]? = w7.heap[g7]?):=⟨z8,z9⟩;have AS:Hid ((w7.drew.alloc (.cells #[.int .i64 e.rep,.int .i64 e.num] 48)).heap[g7]? = w7.heap[g7]?):=Below.heap_alloc w7.drew _ g7 (show g7 < w7.heap.size by omega);have l0:=Dj.out w7.drew (Below.refl _ _);have l1:=Dj.out _ (ze w7.drew (.cells #[.int .i64 e.rep,.int .i64 e.num] 48));have l2:(Instr.lookup 149 (.map (some b)) (.string e.sku) false).run Tryz.prog (w7.alloc (.cells #[.int .i64 e.rep,.int .i64 e.num] 48)).drew = .ok (HsV (f e.sku)) (w7.drew.alloc (.cells #[.int .i64 e.rep,.int .i64 e.num] 48)):=l1
   obtain ⟨K1,f1,X1,M9',pr⟩:∃ K1 f1 X1,MRo Tryz.prog 9 48 2 (w.heap.size+1) w w9 w.heap.size (2 * k+1) K1 f1 X1/\∀ s,X1 s=if s=e.sku then rcs (dl (L.take k) s)++(RC (aa e)).toList else rcs (dl (L.take k) s):=⟨_,_,_,M9,fun s=>by
    by_cases h:s=e.sku
    ·subst h;simp
    ·simp [h]⟩
   have sR:(f1 eB).n <= 8000000000000:=by
    have h:=(M9'.rows eB).1;have h1:=kX (L.take k) eB;have h2:=List.length_take_le k L;rw [pr] at h
    split at h
    ·rw [List.length_append,qt] at h;have:(RC (aa e)).toList.length=2:=rfl;omega
    ·rw [qt] at h;omega
   have l3:=M9'.look rz Tryz.underlying9 Tryz.underlying149 (nZ w9) eB (by decide);rw [Hb.out] at l3;obtain ⟨ga,ca,wa,CY,Ma,ka⟩:=zhv M9' eB (aa e) sR;obtain ⟨wb,Gh,Mb,kb⟩:=Ma.put rz Tryz.underlying9 Tryz.underlying149 (by decide) (by unfold maxLen;omega);rw [Hb.out] at Gh;have JX:Hid ((Instr.lookup 149 (.map (some b)) (.string ⟨#[]⟩) false).run Tryz.prog w9 = .ok (.slice (f1 eB).o (f1 eB).n (f1 eB).c) w9):=l3;have J6:Hid ((Instr.mapUpdate 149 (.map (some b)) (.string ⟨#[]⟩) (.slice (some ⟨ga,0,none⟩) ((f1 eB).n+1) ca)).run Tryz.prog wa = .ok () wb):=Gh;have AI:Hid ((Builtin.append_ #[32,32] 32 #[.slice (f1 eB).o (f1 eB).n (f1 eB).c,.slice (some ⟨w9.heap.size,0,none⟩) 1 1]).run Tryz.prog (w9.alloc (.cells #[.int .i64 e.rep,.int .i64 e.num] 48)) = .ok (.slice (some ⟨ga,0,none⟩) ((f1 eB).n+1) ca) wa):=CY
   have Dk:Hid (MD w wb (2 * (k+1)) (L.take (k+1))):=by
    have hX:(fun s=>rcs (dl (L.take (k+1)) s))=fun u=>if u=eB then X1 eB++(RC (aa e)).toList else X1 u:=by
     funext s
     rw [HT.out,zdF Fz s,pr s,pr eB];have h0:¬ eB=e.sku:=fun h=>Fz (by rw [<- h];rfl);by_cases h1:s=eB
     ·subst h1;simp [h0]
     ·simp [h1]
    have h:=Mb;rw [<- hX] at h;exact ⟨_,_,h⟩
   have cw:=hide ak;have uB:Hid ((Builtin.append_ #[32,32] 32 #[.slice (f e.sku).o (f e.sku).n (f e.sku).c,.slice (some ⟨w7.heap.size,0,none⟩) 1 1]).run Tryz.prog (w7.drew.alloc (.cells #[.int .i64 e.rep,.int .i64 e.num] 48)) = .ok (.slice (some ⟨g8,0,none⟩) ((f e.sku).n+1) c8) w8):=DO;clear A0 X7 B7 S7 M M7 M8 M9 M9' pr sR l3 CY Ma ka Gh Mb kb k8 k9 z7 z8 z9 DO ak hk;go_upto_region 5 with fail;clear a8 dK;refine wp_region_held_drew (S:=fun W=>W.cell? ⟨g7,2,none⟩=some (.string e.sku)/\(ldD (.pointer (some ⟨g7,0,none⟩))).run Tryz.prog W = .ok (.agg #[.int .i64 e.rep,.int .i64 e.num]) W) (by kernel_rfl) (aG.out _ rfl) (fun hHeld=>?_);refine wU 0 ?_;refine wU 1 ?_;refine wU 2 ?_;refine wU 3 ?_;refine wU 4 ?_;refine wU 5 ?_;refine wU 7 ?_;refine wU 8 ?_;refine wpAnyH_ready (rs:=[6,9]) (by kernel_rfl) (by simp) ?_;refine AllReadyH.cons rfl (fun K hK=>?_) ?_
   ·go_simp;refine hK.out _ _ (aG.out _ rfl) (fun hHeld=>?_);clear hK K;refine wpAnyH_ready (rs:=[9]) (by kernel_rfl) (by simp) (.cons rfl (fun K hK=>?_) .nil);go_simp;refine hK.out _ _ (aG.out _ AS.out) (fun hHeld=>?_);clear hK K;refine wpAnyH_ready (rs:=[10]) (by kernel_rfl) (by simp) (.cons rfl (fun K hK=>?_) .nil);refine xx (by rfl) (.tmp 19) (.tmp 22) (by rfl) (by rfl) (by rfl) uB.out ?_;refine hK.out _ _ (aG.out _ HZ.out.1) (fun hHeld=>?_);clear hK K;refine wpAnyH_ready (rs:=[11]) (by kernel_rfl) (by simp) (.cons rfl (fun K hK=>?_) .nil);go_simp;refine hK.out _ _ (aG.out _ HZ.out.2) (fun hHeld=>?_);clear hK K;refine wpAnyH_done (by kernel_rfl) ?_ _;clear hHeld;have l3:=JX.out;have u3:=J6.out;obtain ⟨-,d3⟩:=aG.out w9 HZ.out.2;clear l0 l1 l2 AR;go_wp2_with (at_builtin;refine x7 rfl (.tmp 26) (.tmp 29) rfl rfl rfl AI.out ?_)
    go_roundw
    case rel=>exact ⟨k+1,cw.out,by simp,Dk⟩
    case measure=>simp [intOf];have:=cw.out;omega
   ·refine AllReadyH.cons rfl (fun K hK=>?_) ?_;rotate_left
    ·exact AllReadyH.nil
    go_simp;refine hK.out _ _ (aG.out _ AS.out) (fun hHeld=>?_);clear hK K;refine wpAnyH_ready (rs:=[6]) (by kernel_rfl) (by simp) (.cons rfl (fun K hK=>?_) .nil);go_simp;refine hK.out _ _ (aG.out _ AS.out) (fun hHeld=>?_);clear hK K;refine wpAnyH_ready (rs:=[10]) (by kernel_rfl) (by simp) (.cons rfl (fun K hK=>?_) .nil);refine xx (by rfl) (.tmp 19) (.tmp 22) (by rfl) (by rfl) (by rfl) uB.out ?_;refine hK.out _ _ (aG.out _ HZ.out.1) (fun hHeld=>?_);clear hK K;refine wpAnyH_ready (rs:=[11]) (by kernel_rfl) (by simp) (.cons rfl (fun K hK=>?_) .nil);go_simp;refine hK.out _ _ (aG.out _ HZ.out.2) (fun hHeld=>?_);clear hK K;refine wpAnyH_done (by kernel_rfl) ?_ _;clear hHeld;have l3:=JX.out;have u3:=J6.out;obtain ⟨-,d3⟩:=aG.out w9 HZ.out.2;clear l0 l1 l2 AR;go_wp2_with (at_builtin;refine x7 rfl (.tmp 26) (.tmp 29) rfl rfl rfl AI.out ?_)
    go_roundw
    case rel=>exact ⟨k+1,cw.out,by simp,Dk⟩
    case measure=>simp [intOf];have:=cw.out;omega
  ·obtain rfl:k=n:=by omega
   have HE:Hid (∃ kk,MD w wr kk L):=by
    have h:=HM.out;rw [List.take_of_length_le (by have:=HL.out;omega)] at h;exact ⟨_,h⟩
   go_wp2_with fail;go_ret;obtain ⟨kk,h⟩:=HE.out;exact ⟨kk,by rw [Hb.out];rfl,h⟩
end
end Go.Proofs.YtjffpimfngdggaaGreat
namespace Go.Proofs.YtjffpimfngdggaaGreat.K
open Go.RowKit

theorem zax {R:List En} (ha:Asc R) (hc:∀ e∈R,ceE e=0):chk R=0:=by
 have key:okN R R.length=true:=by
  unfold okN;rw [List.all_eq_true];intro k hk;have i6:=List.mem_range.1 hk;unfold okAt;rw [Bool.and_eq_true];refine ⟨?_,?_⟩
  ·rw [beq_iff_eq];exact hc _ (zak R k i6)
  ·cases k with
   | zero=>rfl
   | succ j =>
    have h:=List.pairwise_iff_getElem.1 ha j (j+1) (by omega) i6 (by omega)
    have e1:R.getD j en0=R[j]:=by simp [List.getD,show j < R.length by omega]
    have e2:R.getD (j+1) en0=R[j+1]:=by simp [List.getD,i6]
    simp only [Nat.add_sub_cancel,e1,e2,h,Bool.or_true]
 unfold chk;rw [if_pos key]
theorem ve {R:List En} (h:chk R=0):Asc R:=by
 refine bh R (fun i hi=>?_);have:=yd R _ (wu h) (i+1) hi;unfold okAt at this;rw [Bool.and_eq_true] at this;simpa using this.2
end Go.Proofs.YtjffpimfngdggaaGreat.K
namespace Go.Proofs.YtjffpimfngdggaaGreat
open Go.RowKit
theorem xZ {L:List K.En} (h:K.chk L=0):∀ e∈L,K.ceE e=0:=fun e he=>by
 obtain ⟨k,hk,rfl⟩:=List.getElem_of_mem he;have h1:=K.yd L _ (K.wu h) k hk;unfold K.okAt at h1;rw [Bool.and_eq_true] at h1
 have e1:L.getD k K.en0=L[k]:=by simp [List.getD,List.getElem?_eq_getElem hk]
 rw [e1] at h1;simpa using h1.1
theorem zbq {e:K.En} (h:K.ceE e=0):okD (aa e)=true:=by
 unfold K.ceE at h;by_cases h1:K.isR e.rep=false
 ·rw [if_pos h1] at h;cases h
 ·rw [if_neg h1] at h;by_cases h2:e.num < 1∨1000000000 < e.num
  ·rw [if_pos h2] at h;cases h
  ·have h3:K.isR e.rep=true:=by simpa using h1
   unfold okD aa V.isR;unfold K.isR at h3;simp only [Bool.and_eq_true,decide_eq_true_eq] at h3 ⊢;exact ⟨h3,by omega,by omega⟩
theorem ze8 {L:List K.En} (h:K.chk L=0) {x y:K.En} (hx:x∈L) (hy:y∈L) (e:aa x=aa y):x=y:=by
 apply Classical.byContradiction;intro hn;refine K.kv (K.ve h) (fun _=>Iff.rfl) ⟨x,hx,y,hy,?_,hn⟩;unfold aa at e;simp only [Rn.mk.injEq] at e;simp [K.al,e.1,e.2]
theorem zhE {e:K.En} (h:K.ceE e=0):¬ e.sku.size=0:=by
 intro h0
 have hn:e.sku.data.toList=[]:=by
  apply List.eq_nil_of_length_eq_zero;rw [K.jE];exact h0
 unfold K.ceE at h;by_cases h1:K.isR e.rep=false
 ·rw [if_pos h1] at h;cases h
 ·rw [if_neg h1] at h;by_cases h2:e.num < 1∨1000000000 < e.num
  ·rw [if_pos h2] at h;cases h
  ·rw [if_neg h2,hn] at h
   have hg:K.fG ([]:List UInt8)=false:=by decide
   simp [hg] at h
def BX (L:List K.En) (F:List Rc) (X:List Pv):Prop:=(∀ r:Nat,r < 16 -> ∀ m,(∃ p∈X,mem (ae p.P r) m)↔∃ f∈F,mem (cr (dl L f.s) r) m/\mem (ae f.p.P r) m)/\wt X <= F.length * (L.length+1)
theorem BX.nil (L:List K.En):BX L [] []:=⟨fun r _ m=>by simp,Nat.zero_le _⟩
theorem BX.snoc {L:List K.En} {F:List Rc} {X:List Pv} (h:BX L F X) {f:Rc} {D:Pst} {p:Pv} (hD:af (cr (dl L f.s)) D) (hm:∃ C:Nat -> List Rn,(∀ r,r < 16 -> dV (ae D r) (ae f.p.P r) (C r))/\af C p.P):BX L (F++[f]) (X++[p]):=by
 obtain ⟨C,hC,hP⟩:=hm
 have key:∀ r:Nat,r < 16 -> ∀ m,mem (C r) m↔mem (cr (dl L f.s) r) m/\mem (ae f.p.P r) m:=fun r hr m=>by rw [(hC r hr).2 m,qf hD r hr m]
 refine ⟨fun r hr m=>?_,?_⟩
 ·constructor
  ·rintro ⟨q,hq,hm⟩;rcases List.mem_append.1 hq with hq | hq
   ·obtain ⟨g,hg,h1⟩:=(h.1 r hr m).1 ⟨q,hq,hm⟩;exact ⟨g,List.mem_append_left _ hg,h1⟩
   ·obtain rfl:q=p:=by simpa using hq
    rw [qf hP r hr m,key r hr m] at hm;exact ⟨f,by simp,hm⟩
  ·rintro ⟨g,hg,h1⟩;rcases List.mem_append.1 hg with hg | hg
   ·obtain ⟨q,hq,h2⟩:=(h.1 r hr m).2 ⟨g,hg,h1⟩;exact ⟨q,List.mem_append_left _ hq,h2⟩
   ·obtain rfl:g=f:=by simpa using hg
    exact ⟨p,by simp,by rw [qf hP r hr m,key r hr m];exact h1⟩
 ·have h1:p.P.cloud.length <= (dl L f.s).length:=zcc hP _ (fun r hr n hn=>by
   obtain ⟨d,hd,-,e1,e2⟩:=(xW _ _ _).1 ((key r hr n).1 hn).1
   have:d=⟨(r:Int),n⟩:=by cases d;simp_all
   rw [<- this];exact hd)
  have h2:=kX L f.s;have h3:=h.2;rw [wC,List.length_append];simp only [wt,List.length_cons,List.length_nil];rw [Nat.add_mul];omega
theorem ziQ {a b:ByteArray} (h:(a.toList == b.toList)=true):a=b:=by
 rw [beq_iff_eq,ByteArray.toList_eq,ByteArray.toList_eq] at h
 cases a;cases b
 simp at h;rw [h]
theorem zfR (a:ByteArray):(a.toList == a.toList)=true:=by simp
theorem zeA {s:ByteArray} (h:s.size=0):s=cP:=by
 obtain ⟨d⟩:=s;have:d=#[]:=Array.eq_empty_of_size_eq_zero h;rw [this];rfl
theorem ze9 {e:K.En} (he:okD (aa e)=true) (r:Rc):cQ r e=true↔(r.s=cP∨r.s=e.sku)/\mem (ae r.p.P e.rep.toNat) e.num:=by
 unfold cQ;rw [Bool.and_eq_true,qd,Bool.or_eq_true,decide_eq_true_eq]
 have h1:V.isR e.rep=true:=by
  unfold okD aa at he;simp only [Bool.and_eq_true] at he;exact he.1
 constructor
 ·rintro ⟨h2,h3⟩;refine ⟨h2.elim (fun h=>.inl (zeA h)) (fun h=>.inr (ziQ h)),h3.2⟩
 ·rintro ⟨h2,h3⟩;refine ⟨h2.elim (fun h=>.inl (by rw [h];rfl)) (fun h=>.inr (by rw [h];exact zfR _)),h1,h3⟩
theorem zeW {L:List K.En} {R F:List Rc} (hc:K.chk L=0) (hF:iN R F) {X:List Pv} (hX:BX L F X) {P:Pst} (hP:af (aw X) P):L.filter (pkB P false)=L.filter (cW R):=by
 apply List.filter_congr;intro e he;have hd:=zbq (xZ hc e he);have hs:=zhE (xZ hc e he)
 have hR:V.isR e.rep=true:=by
  have h:=hd;unfold okD aa at h;simp only [Bool.and_eq_true] at h;exact h.1
 have hr:0 <= e.rep/\e.rep < 16:=by simpa [V.isR] using hR
 have py:e.rep.toNat < 16:=by omega
 have Es:∀ s:ByteArray,mem (cr (dl L s) e.rep.toNat) e.num↔(s=cP∨s=e.sku):=fun s=>by
  rw [xW];unfold dl;constructor
  ·rintro ⟨d,tg,-,h1,h2⟩;obtain ⟨x,hx,rfl⟩:=List.mem_map.1 tg;obtain ⟨m9,nf⟩:=List.mem_filter.1 hx
   have ed:aa x=aa e:=by
    unfold aa at h1 h2 ⊢;simp only at h1 h2;congr 1;omega
   have:=ze8 hc m9 he ed;subst this;rw [Bool.or_eq_true,decide_eq_true_eq,decide_eq_true_eq] at nf;exact nf.elim (fun h=>.inl (zeA h)) (fun h=>.inr h.symm)
  ·intro h;refine ⟨aa e,List.mem_map.2 ⟨e,List.mem_filter.2 ⟨he,?_⟩,rfl⟩,hd,by unfold aa;simp only;omega,rfl⟩;rw [Bool.or_eq_true,decide_eq_true_eq,decide_eq_true_eq];exact h.elim (fun h=>.inl (by rw [h];rfl)) (fun h=>.inr h.symm)
 have lJ:inB P e=true↔∃ f∈F,(f.s=cP∨f.s=e.sku)/\eJ R f.s e.rep.toNat e.num:=by
  rw [qd];unfold cB;simp only [hR,true_and];rw [qf hP _ py,j6,hX.1 _ py];constructor
  ·rintro ⟨f,hf,h1,h2⟩;refine ⟨f,hf,(Es f.s).1 h1,?_⟩;obtain ⟨C,hC,hI⟩:=(hF.2.1 f hf).2.1;exact (hI _ py _).1 ((qf hC _ py _).1 h2)
  ·rintro ⟨f,hf,h1,h2⟩;refine ⟨f,hf,(Es f.s).2 h1,?_⟩;obtain ⟨C,hC,hI⟩:=(hF.2.1 f hf).2.1;exact (qf hC _ py _).2 ((hI _ py _).2 h2)
 have sM:inB P e=true↔R.any (fun r=>cQ r e)=true:=by
  rw [lJ,List.any_eq_true];constructor
  ·rintro ⟨f,hf,h1,⟨x,hx,FS,hm⟩,-⟩;exact ⟨x,hx,(ze9 hd x).2 ⟨by rw [FS];exact h1,hm⟩⟩
  ·rintro ⟨r,pT,DK⟩;obtain ⟨h1,h2⟩:=(ze9 hd r).1 DK
   have step:∀ s,(s=cP∨s=e.sku) -> eJ R s e.rep.toNat e.num -> ∃ f∈F,(f.s=cP∨f.s=e.sku)/\eJ R f.s e.rep.toNat e.num:=fun s mo hM=>by
    obtain ⟨x,hx,FS,-⟩:=hM.1;apply Classical.byContradiction;intro hn;refine hF.2.2 s ⟨x,hx,FS⟩ (fun f hf hfs=>hn ⟨f,hf,by rw [hfs];exact mo,by rw [hfs];exact hM⟩) _ py _ hM
   by_cases hz:∃ x∈R,x.s=cP/\mem (ae x.p.P e.rep.toNat) e.num
   ·exact step cP (.inl rfl) ⟨hz,fun h=>absurd rfl h⟩
   ·rcases h1 with h1 | h1
    ·exact absurd ⟨r,pT,h1,h2⟩ hz
    ·exact step e.sku (.inr rfl) ⟨⟨r,pT,h1,h2⟩,fun _=>hz⟩
 unfold pkB cW
 cases h1:inB P e <;> cases h2:R.any (fun r=>cQ r e)
 ·rfl
 ·rw [h1,h2] at sM;exact absurd (sM.2 rfl) (by decide)
 ·rw [h1,h2] at sM;exact absurd (sM.1 rfl) (by decide)
 ·rfl
theorem zgz {L:List K.En} {R:List Rc} (hc:K.chk L=0) (hF:iN R []):L.filter (cW R)=L:=by
 have h:=zeW hc hF (BX.nil L) (P:=pv0.P) ⟨fun _=>[],fun _ _=>⟨trivial,fun _=>Iff.rfl⟩,by decide⟩;rw [<- h];apply List.filter_eq_self.2;intro e _
 have:inB pv0.P e=false:=by
  cases hb:inB pv0.P e
  ·rfl
  ·rw [qd] at hb;unfold cB at hb;obtain ⟨h1,h2⟩:=hb;exact absurd h2 (by unfold ae pv0;simp [aW,ag,V.at',mem,V.eI])
 unfold pkB;rw [this];rfl
end Go.Proofs.YtjffpimfngdggaaGreat
