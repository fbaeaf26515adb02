/- BFo ODt -/
import Derived.Test.YtcilfelgpmfehaaGreatBj25
import Derived.Test.YtcilfelgpmfehaaGreatBj28
import Derived.Deep.CutRange
set_option maxRecDepth 100000
set_option maxHeartbeats 3200000
namespace Go.Proofs.YtcilfelgpmfehaaGreat
section
open Go.RowKit Go.Maps Go.Sort
attribute [local go_sem ↓] zl zk zR zQ
attribute [local go_sem] zy zH zT
theorem lU:Keyed Tryz.prog 9:=string_keyed Tryz.underlying9
theorem mV (w:World):(zeroValue 110).run Tryz.prog w = .ok (HsV hs0) w:=by kernel_rfl
def MF (w W:World) (kk:Nat) (R:List Rc):Prop:=∃ f,MRo Tryz.prog 9 26 2 (w.heap.size+1) w W w.heap.size kk (fun s=>∃ r∈R,r.s=s) f (fun s=>pvs (ofS R s))
theorem wL (L:List Rc) (k:Nat) (h:k < L.length):L.take (k+1)=L.take k++[L.getD k rc0]:=by
 rw [List.take_succ_eq_append_getElem h];simp [List.getD,h]
theorem zdg (R:List Rc) (r:Rc):(fun s=>∃ x∈R++[r],x.s=s)=fun s=>s=r.s∨∃ x∈R,x.s=s:=by
 funext s
 apply propext;constructor
 ·rintro ⟨x,hx,rfl⟩;rcases List.mem_append.1 hx with hx | hx
  ·exact .inr ⟨x,hx,rfl⟩
  ·obtain rfl:x=r:=by simpa using hx
   exact .inl rfl
 ·rintro (rfl | ⟨x,hx,rfl⟩)
  ·exact ⟨r,by simp,rfl⟩
  ·exact ⟨x,by simp [hx],rfl⟩
def TxS (w:World) (ao:Option Addr) (m:Nat) (T:List (List UInt8)):Prop:=
 T.length=m/\∀ t,t < m -> ∃ ad,ao=some ad/\w.cell? (ad.add t)=some (encStr (T.getD t []))
theorem TxS.below {w w':World} {ao:Option Addr} {m:Nat} {T:List (List UInt8)} (h:TxS w ao m T) (hb:Below w.heap.size w w'):TxS w' ao m T:=by
 refine ⟨h.1,fun t ht=>?_⟩;obtain ⟨ad,e,hc⟩:=h.2 t ht;exact ⟨ad,e,(hb.cell (World.block_lt_of_cell? _ _ hc)).trans hc⟩
theorem lw.src {w w':World} {e:Ending} {T:List (List UInt8)} (h:lw w w' e T):∃ ao c,e = .returned (.slice ao T.length c)/\TxS w' ao T.length T/\Below w.heap.size w w':=by
 obtain ⟨v,rfl,hr,hb⟩:=h;rcases hr.2 with ⟨h0,eU⟩ | ⟨g,cap,cur,hv,dV,dB,hnc,fw,hcsz,htake⟩
 ·refine ⟨none,0,by rw [h0,eU],⟨rfl,fun t ht=>?_⟩,hb⟩;omega
 ·subst hv;refine ⟨some ⟨g,0,none⟩,cap,rfl,⟨rfl,fun t ht=>⟨_,rfl,?_⟩⟩,hb⟩;rw [Addr.add_lit,Nat.zero_add,hr.cellAt t (by omega)];simp [List.getD,ht]
theorem zgQ:∀ a b:List UInt8,a < b -> Lib.compareBytes a b < 0
 | [],[],h=>absurd h (List.lt_irrefl _)
 | [],_ :: _,_=>by simp [Lib.compareBytes]
 | _ :: _,[],h=>absurd h (List.not_lt_nil _)
 | a :: x,b :: y,h=>by
  rcases List.cons_lt_cons_iff.1 h with h1 | ⟨rfl,h1⟩
  ·simp [Lib.compareBytes,h1]
  ·have h0:¬ a < a:=UInt8.lt_irrefl a;have:=zgQ x y h1;simpa [Lib.compareBytes,h0] using this
theorem zdh {ss:List (List UInt8)} (Eb:ss.Nodup):(ss.mergeSort leB).Pairwise (fun a b=>Lib.compareBytes a b < 0):=by
 have tr:∀ a b c:List UInt8,leB a b=true -> leB b c=true -> leB a c=true:=fun a b c h1 h2=>by simp only [leB,decide_eq_true_eq] at *;exact List.le_trans h1 h2
 have tt:∀ a b:List UInt8,(leB a b || leB b a)=true:=fun a b=>by simp only [leB,Bool.or_eq_true,decide_eq_true_eq];exact List.le_total a b
 have ml:(ss.mergeSort leB).Pairwise (fun a b=>leB a b=true):=List.pairwise_mergeSort tr tt ss;have Gl:(ss.mergeSort leB).Nodup:=(List.mergeSort_perm ss leB).nodup_iff.2 Eb;refine (ml.and Gl).imp fun {a b} h=>zgQ a b ?_
 have h1:a <= b:=by simpa [leB] using h.1
 exact Decidable.byContradiction fun hn=>h.2 (List.le_antisymm h1 (List.not_lt.1 hn))
def FoA (w w':World) (x:Ending) (L:List Rc) (n:Nat):Prop:=(OkR L n/\∃ (h:Hs) (F:List Rc),x = .returned (.tuple #[HsV h,.int .i64 0])/\RcS w' h.o h.n h.c F/\Below w.heap.size w w'/\(∀ ad,h.o=some ad -> w.heap.size <= ad.block)/\it L F)∨(¬ OkR L n/\x = .returned (.tuple #[.slice none 0 0,.int .i64 1])/\Below w.heap.size w w')
theorem zeK (ao:Option Addr) (n cap:Nat) (L:List Rc) (w:World) (hS:RcS w ao n cap L) (oz:∀ s,wt (ofS L s) <= 8796093022207) :
  Calls Tryz.prog 69 #[.slice ao n cap] w fun x w'=>FoA w w' x L n:=by
 have HS:=hide hS;have HL:Hid (L.length=n):=hS.len;have hn:=hS.big;have HW:=hide oz;have Jj:=@run_makeMap Tryz.prog;clear hS oz;go_enter Tryz.func69,Tryz.ntmps69;go_wp2_with fail;refine (qY ao n cap L _ HS.out).mono ?_;rintro x w0 ⟨z,rfl,hz,b0⟩;have gN:=hide b0;have oq:=hide (HS.out.below b0);clear b0;rcases hz with ⟨rfl,hO⟩ | ⟨rfl,hO⟩;rotate_left
 ·have HE:Hid (FoA w w0 (.returned (.tuple #[.slice none 0 0,.int .i64 1])) L n):=.inr ⟨hO,rfl,gN.out⟩;clear hO Jj;go_wp2_with fail;go_ret2;exact HE.out
 ·have HO:=hide hO;obtain ⟨w1,dH⟩:∃ w1,w0.alloc (.map #[] 0)=w1:=⟨_,rfl⟩;obtain ⟨b,hb⟩:∃ b,w0.heap.size=b:=⟨_,rfl⟩
  have Cl:Hid (MF w0 w1 0 []):=⟨fun _=>hs0,by
   have h:=MRo.start (P:=Tryz.prog) (kt:=9) (et:=26) (size:=2) w0;rw [dH] at h
   have e:(fun s=>∃ r∈([]:List Rc),r.s=s)=fun _=>False:=by funext s;simp
   rw [e]
   exact h⟩
  have Hb:=hide hb;clear hO;go_wp2_with fail;clear dH hb;go_loopw [21] (fun i wr=>∃ k:Nat,k <= n/\i = .int .i64 (k:Int)/\Hid (MF w0 wr k (L.take k))) (fun i _=>n - (intOf i).toNat)
  case atStart=>exact ⟨0,Nat.zero_le _,rfl,Cl⟩
  case round =>
   obtain ⟨k,hk,rfl,HM⟩:=hrel
   rename World=>wr
   clear Cl;by_cases aq:k < n
   ·have dl:(k:Int) < (n:Int):=by omega
    obtain ⟨f,M⟩:=HM.out;obtain ⟨ad,fl,A0⟩:=(oq.out.below M.below).at k aq;subst fl;have lZ:=(oq.out.below M.below).okAt k aq;have HT:=hide (wL L k (by rw [HL.out];exact aq));obtain ⟨r,Hr⟩:∃ r,Hid (L.getD k rc0=r):=⟨_,rfl⟩;rw [Hr.out] at A0 lZ HT;have gL:=lZ.2;have dz:=zI A0;obtain ⟨g7,fT⟩:∃ g7,wr.heap.size=g7:=⟨_,rfl⟩;obtain ⟨w7,cr,X7,B7,S7⟩:=dY wr (mkR r) g7 fT;have M7:=(M.later B7).later (zd w7)
    have FG:(f r.s).n <= 2900000000000:=by
     have h:=(M.rows r.s).1;rw [jJ] at h;have h1:=yM (L.take k) r.s;have h2:=List.length_take_le k L;omega
    have oP:(HsV (f r.s)).ownBlock≠some g7:=fun h=>by have:=((M.rows r.s).lt g7 h).2;omega
    have A7:Hid (∀ W,Below w7.drew.heap.size w7.drew W -> (Instr.lookup 149 (.map (some b)) (.string r.s) false).run Tryz.prog W = .ok (HsV (f r.s)) W):=fun W hW=>by
     have:=(M7.later hW).look lU Tryz.underlying9 Tryz.underlying149 (mV W) r.s gL;rwa [Hb.out] at this
    obtain ⟨g8,c8,w8,BK,M8,k8⟩:=zgI M7 r.s r.p FG;obtain ⟨w9,nL,M9,k9⟩:=M8.put lU Tryz.underlying9 Tryz.underlying149 gL (by unfold maxLen;omega);rw [Hb.out] at nL k9
    have gz:g7≠b:=by have:=M.hb;rw [Hb.out] at this;omega
    have z8:w8.heap[g7]? = w7.heap[g7]?:=k8 g7 (show g7 < w7.heap.size by omega) oP;have z9:w9.heap[g7]? = w7.heap[g7]?:=(k9 g7 (Array.getElem?_eq_some_iff.1 (z8.trans X7)).1 gz).trans z8
    have aw:Hid (∀ W:World,W.heap[g7]? = w7.heap[g7]? -> W.cell? ⟨g7,0,none⟩=some (.string r.s)/\(ldP (.pointer (some ⟨g7,1,none⟩))).run Tryz.prog W = .ok (.agg #[.slice r.p.vo r.p.vn r.p.vc,.slice r.p.co r.p.cn r.p.cc]) W):=fun W h=>by
     have X:aY W g7 (mkR r):=h.trans X7;exact ⟨X.sk,zi X.past⟩
    have HZ:Hid (w8.heap[g7]? = w7.heap[g7]? /\ w9.heap[g7]? = w7.heap[g7]?):=⟨z8,z9⟩;have uF:Hid ((w7.drew.alloc (.cells #[.slice r.p.vo r.p.vn r.p.vc,.slice r.p.co r.p.cn r.p.cc] 26)).heap[g7]? = w7.heap[g7]?):=Below.heap_alloc w7.drew _ g7 (show g7 < w7.heap.size by omega);have l0:=A7.out w7.drew (Below.refl _ _);have l1:=A7.out _ (ze w7.drew (.cells #[.slice r.p.vo r.p.vn r.p.vc,.slice r.p.co r.p.cn r.p.cc] 26));have l2:(Instr.lookup 149 (.map (some b)) (.string r.s) false).run Tryz.prog (w7.alloc (.cells #[.slice r.p.vo r.p.vn r.p.vc,.slice r.p.co r.p.cn r.p.cc] 26)).drew = .ok (HsV (f r.s)) (w7.drew.alloc (.cells #[.slice r.p.vo r.p.vn r.p.vc,.slice r.p.co r.p.cn r.p.cc] 26)):=l1
    have CM:Hid (MF w0 w9 (k+1) (L.take (k+1))):=by
     have hX:(fun s=>pvs (ofS (L.take (k+1)) s))=fun u=>if u=r.s then pvs (ofS (L.take k) r.s)++(PC r.p).toList else pvs (ofS (L.take k) u):=by
      funext s
      rw [HT.out,zek];by_cases h:s=r.s
      ·subst h;simp
      ·simp [h]
     have h:=M9;rw [<- hX,<- zdg,<- HT.out] at h;exact ⟨_,h⟩
    have te:Hid ((Builtin.append_ #[110,110] 110 #[.slice (f r.s).o (f r.s).n (f r.s).c,.slice (some ⟨w7.heap.size,0,none⟩) 1 1]).run Tryz.prog (w7.drew.alloc (.cells #[.slice r.p.vo r.p.vn r.p.vc,.slice r.p.co r.p.cn r.p.cc] 26)) = .ok (.slice (some ⟨g8,0,none⟩) ((f r.s).n+1) c8) w8):=BK;have cj:=hide aq;clear A0 X7 B7 S7 M M7 M8 M9 k8 k9 z8 z9 BK aq hk lZ;go_upto_region 8 with fail;clear cr dz;refine wp_region_held_drew (S:=fun W=>W.cell? ⟨g7,0,none⟩=some (.string r.s)/\(ldP (.pointer (some ⟨g7,1,none⟩))).run Tryz.prog W = .ok (.agg #[.slice r.p.vo r.p.vn r.p.vc,.slice r.p.co r.p.cn r.p.cc]) W) (by kernel_rfl) (aw.out _ rfl) (fun hHeld=>?_);refine wU 0 ?_;refine wU 1 ?_;refine wU 2 ?_;refine wU 3 ?_;refine wU 4 ?_;refine wU 5 ?_;refine wU 7 ?_;refine wU 8 ?_;refine wpAnyH_ready (rs:=[6,9]) (by kernel_rfl) (by simp) ?_;refine AllReadyH.cons rfl (fun K hK=>?_) ?_
    ·go_simp;refine hK.out _ _ (aw.out _ rfl) (fun hHeld=>?_);clear hK K;refine wR 9 fun K hK=>?_;go_simp;refine hK.out _ _ (aw.out _ uF.out) (fun hHeld=>?_);clear hK K;refine wR 10 fun K hK=>?_;refine qe (by rfl) (.tmp 31) (.tmp 34) (by rfl) (by rfl) (by rfl) te.out ?_;refine hK.out _ _ (aw.out _ HZ.out.1) (fun hHeld=>?_);clear hK K;refine wR 11 fun K hK=>?_;go_simp;refine hK.out _ _ (aw.out _ HZ.out.2) (fun hHeld=>?_);clear hK K;refine wD ?_ _;clear hHeld;clear l0 l1 l2 nL;go_wp2_with fail;go_roundw
     case rel=>exact ⟨k+1,cj.out,by simp,CM⟩
     case measure=>simp [intOf];have:=cj.out;omega
    ·refine AllReadyH.cons rfl (fun K hK=>?_) ?_;rotate_left
     ·exact AllReadyH.nil
     go_simp;refine hK.out _ _ (aw.out _ uF.out) (fun hHeld=>?_);clear hK K;refine wR 6 fun K hK=>?_;go_simp;refine hK.out _ _ (aw.out _ uF.out) (fun hHeld=>?_);clear hK K;refine wR 10 fun K hK=>?_;refine qe (by rfl) (.tmp 31) (.tmp 34) (by rfl) (by rfl) (by rfl) te.out ?_;refine hK.out _ _ (aw.out _ HZ.out.1) (fun hHeld=>?_);clear hK K;refine wR 11 fun K hK=>?_;go_simp;refine hK.out _ _ (aw.out _ HZ.out.2) (fun hHeld=>?_);clear hK K;refine wD ?_ _;clear hHeld;clear l0 l1 l2 nL;go_wp2_with fail;go_roundw
     case rel=>exact ⟨k+1,cj.out,by simp,CM⟩
     case measure=>simp [intOf];have:=cj.out;omega
   ·obtain rfl:k=n:=by omega
    have HE:Hid (MF w0 wr k L):=by
     have h:=HM.out;rw [List.take_of_length_le (by have:=HL.out;omega)] at h;exact h
    obtain ⟨f,M⟩:=HE.out
    have mB:∀ s,∀ p∈ofS L s,ak wr p:=fun s p hp=>by
     obtain ⟨r,hr,rfl⟩:=List.mem_map.1 hp;exact ((oq.out.below M.below).ok r (List.mem_filter.1 hr).1).1
    have sV:Hid (eT wr (f cI).o (f cI).n (ofS L cI)):=zaI (M.rows cI) (mB cI)
    have Aw:(f cI).n <= 8796093022207:=by
     have h:=(M.rows cI).1;rw [jJ] at h;have h1:=yM L cI;have h2:=HL.out;omega
    have l0:(Instr.lookup 149 (.map (some b)) (.string ⟨#[]⟩) false).run Tryz.prog wr = .ok (.slice (f cI).o (f cI).n (f cI).c) wr:=by
     have h:=M.look lU Tryz.underlying9 Tryz.underlying149 (mV wr) cI (by decide);rwa [Hb.out] at h
    have IQ:=hide M;clear M mB aq;go_wp2_with fail;clear l0;refine (qz (f cI).o (f cI).n (f cI).c (ofS L cI) _ sV.out (HW.out cI) Aw).mono ?_;rintro x w3 ⟨pa,rfl,Sa,Na,b3,Ca⟩;obtain ⟨g3,tj⟩:∃ g3,w3.heap.size=g3:=⟨_,rfl⟩;obtain ⟨w4,uJ,X4,b4,s4⟩:=ip w3 pa g3 tj;replace uJ:(stP (.pointer (some ⟨g3,0,none⟩)) (PV pa)).run Tryz.prog (w3.alloc (.cells #[.slice none 0 0,.slice none 0 0] 26)) = .ok () w4:=uJ;have b34:=b3.trans (b4.mono b3.size);have iC:=hide (IQ.out.later b34);have uK:Hid (aE w4 g3 pa/\ak w4 pa/\ae (aA (ofS L cI)) pa.P):=⟨X4,Sa.below b4,Ca⟩;clear Sa Na b3 b4 s4 X4 Ca b34 IQ sV;go_wp2_with fail;clear uJ tj;refine (zew (some b) _).mono ?_;rintro x w5 ⟨rfl,rfl⟩;obtain ⟨D,hD,IE⟩:=iC.out.map;rw [Hb.out] at hD;have eE:=hD.size_le;have HD:Hid (w4.ownsMap Tryz.prog 9 RSl b k D):=hD
    have HZ:Hid (Maps.size D <= maxLen/\Maps.size D * 16 <= 140737488355328):=⟨by unfold maxLen;omega,by omega⟩;have LO:=hide IE;clear hD IE eE;go_wp2_with fail;refine (wv b k D RSl w4 HD.out HZ.out.1 HZ.out.2).mono ?_;rintro y w6 ⟨ss,hp,hg⟩;obtain ⟨a6,c6,rfl,T6,b6⟩:=hg.src;have Jp:=hide (DU HD.out lU Tryz.underlying9 LO.out hp);obtain ⟨T,CD⟩:∃ T,Hid (ss.mergeSort leB=T):=⟨_,rfl⟩;rw [CD.out] at T6 ⊢;have b46:=(ze w4 (.cells #[.map (some b)] 149)).trans (b6.mono (ze w4 (.cells #[.map (some b)] 149)).size);have Ko:=hide T6;have JN:=hide (iC.out.later b46);have rF:Hid (aE w6 g3 pa/\ak w6 pa/\ae (aA (ofS L cI)) pa.P):=⟨uK.out.1.below b46,uK.out.2.1.below b46,uK.out.2.2⟩;clear b6 b46 hg T6;obtain ⟨m,Hm⟩:∃ m,Hid (T.length=m):=⟨_,rfl⟩
    have Eg:Hid (m <= 2199023255552):=by
     show _ <= _
     have e1:=((List.mergeSort_perm ss leB).trans hp).length_eq;rw [CD.out,Hm.out] at e1
     have e2:(strKeys D).length=Maps.size D:=by
      obtain ⟨es,hD⟩:=HD.out.isMap;subst hD;simp [strKeys,Maps.size]
     have e3:=HD.out.size_le;omega
    have LA:Hid (∀ t∈T,t.length <= maxLen):=fun t ht=>by
     refine strKeys_le HD.out Tryz.underlying9 _ (((List.mergeSort_perm ss leB).trans hp).mem_iff.1 ?_);rw [CD.out];exact ht
    have KS:Hid (∀ t,t∈T↔∃ r∈L,r.s=⟨t.toArray⟩):=fun t=>by
     rw [<- CD.out,(List.mergeSort_perm ss leB).mem_iff];exact Jp.out.2 t
    have Mq:Hid (T.Pairwise (fun a b=>Lib.compareBytes a b < 0)):=by
     show List.Pairwise _ _
     rw [<- CD.out];exact zdh Jp.out.1
    rw [Hm.out] at Ko ⊢;clear hp;go_wp2_with fail;go_loopw [9,44] (fun v i wr2=>∃ (j:Nat) (hh:Hs),j <= m/\v = .slice hh.o hh.n hh.c/\i = .int .i64 (j:Int)/\Hid (∃ F,aL w6.heap.size w6 wr2 hh F/\eJ L (T.take j) F/\hh.n <= j)) (fun _ i _=>m - (intOf i).toNat)
    case atStart=>exact ⟨0,hs0,Nat.zero_le _,rfl,rfl,[],aL.nil w6,eJ.start L,Nat.le_refl _⟩
    case round =>
     obtain ⟨j,hh,hj,rfl,rfl,HR⟩:=hrel
     rename World=>wr2
     obtain ⟨F,O,JE,sW⟩:=HR.out;have Do:=hide JE;have tT:=hide sW;clear JE sW HR;by_cases iy:j < m
     ·have KJ:(j:Int) < (m:Int):=by omega
      have NI:=Hm.out
      have NP:j < 2199023255552:=by have:=Eg.out;omega
      obtain ⟨ad6,Mt,JU⟩:=(Ko.out.below O.below).2 j iy;subst Mt;obtain ⟨s,Hs⟩:∃ s:ByteArray,Hid (s=⟨(T.getD j []).toArray⟩):=⟨_,rfl⟩
      have Jo:encStr (T.getD j []) = .string s:=by rw [Hs.out]
      rw [Jo] at JU
      have tx:T.getD j []∈T:=by rw [List.getD_eq_getElem?_getD,List.getElem?_eq_getElem (by omega)];exact List.getElem_mem _
      have FA:s.size <= maxLen:=by rw [Hs.out];have:=LA.out _ tx;simpa [ByteArray.size] using this
      have Ec:Hid (T.take (j+1)=T.take j++[T.getD j []]):=by
       show _=_
       rw [List.take_succ_eq_append_getElem (by omega)];simp [List.getD,show j < T.length by omega]
      have ri:=hide iy;have M2:=JN.out.later O.below
      have mB:∀ p∈ofS L s,ak wr2 p:=fun p hp=>by
       obtain ⟨r,hr,-,rfl⟩:=yL.1 hp;exact ((oq.out.below M2.below).ok r hr).1
      have gP:Hid (eT wr2 (f s).o (f s).n (ofS L s)):=zaI (M2.rows s) mB
      have AG:(f s).n <= 8796093022207:=by
       have h:=(M2.rows s).1;rw [jJ] at h;have h1:=yM L s;have h2:=HL.out;omega
      have lk:(Instr.lookup 149 (.map (some b)) (.string s) false).run Tryz.prog wr2 = .ok (.slice (f s).o (f s).n (f s).c) wr2:=by
       have h:=M2.look lU Tryz.underlying9 Tryz.underlying149 (mV wr2) s FA;rwa [Hb.out] at h
      have AA:=hide O;clear M2 mB tx iy hj O Jo;go_wp2_with fail;clear lk JU;refine (qz (f s).o (f s).n (f s).c (ofS L s) _ gP.out (HW.out s) AG).mono ?_;rintro x w7 ⟨p1,rfl,S1,N1,b7,C1⟩;obtain ⟨g7,fT⟩:∃ g7,w7.heap.size=g7:=⟨_,rfl⟩;obtain ⟨w8,o9,X8,b8,s8⟩:=ip w7 p1 g7 fT;replace o9:(stP (.pointer (some ⟨g7,0,none⟩)) (PV p1)).run Tryz.prog (w7.alloc (.cells #[.slice none 0 0,.slice none 0 0] 26)) = .ok () w8:=o9;have b78:=b7.trans (b8.mono b7.size);have mu:∀ g,(HsV hh).ownBlock=some g -> g < wr2.heap.size:=fun g hg=>(AA.out.own.lt g hg).2;have fM:∀ q:Pv,de wr2.heap.size q -> dU hh q:=fun q hq g hg=>df.new hq (mu g hg)
      have rq:wr2.heap.size <= g7:=by have:=b7.size;omega
      have G9:Hid ((HsV hh).ownBlock≠some g7/\(∀ r∈F,df r.p g7)/\w6.heap.size <= g7):=⟨fun e=>by have:=mu g7 e;omega,fun r hr=>df.old (AA.out.ok r hr).1.1 rq,Nat.le_trans AA.out.below.size rq⟩;have iU:=hide (AA.out.later b78);have fS:Hid (ae (aA (ofS L s)) p1.P):=C1;have fu:=hide (fM p1 N1);have iF:Hid (aE w8 g7 p1/\ak w8 p1):=⟨X8,S1.below b8⟩;have te:Hid (aE w8 g3 pa/\ak w8 pa):=⟨(rF.out.1.below AA.out.below).below b78,(rF.out.2.1.below AA.out.below).below b78⟩;have Hg:Hid (wr2.heap.size <= g7/\g7 < w8.heap.size):=⟨rq,by omega⟩;clear S1 N1 b7 b8 b78 C1 X8 mu rq s8 gP;by_cases h0:s.size=0
      ·have e0:=K.jw s h0
       obtain rfl:s=cI:=by obtain ⟨d⟩:=s;have:d=#[]:=Array.eq_empty_of_size_eq_zero h0;rw [this];rfl
       have eN:Hid (aE w8 g7 p1/\ak w8 p1/\dU hh p1/\IsP (dZ L cI) p1.P):=⟨iF.out.1,iF.out.2,fu.out,zeI fS.out⟩;have uD:=iU
       have l9:(ldP (.pointer (some ⟨g7,0,none⟩))).run Tryz.prog w8 = .ok (PV p1) w8:=zi eN.out.1.at
       go_wp2_with fail;clear l9;refine (jg p1 _ eN.out.2.1).mono ?_;rintro x wa ⟨em,rfl,rX,ba⟩;have tP:=hide (uD.out.later ba);have nT:Hid (aE wa g7 p1/\ak wa p1/\dU hh p1/\IsP (dZ L cI) p1.P):=⟨eN.out.1.below ba,eN.out.2.1.below ba,eN.out.2.2.1,eN.out.2.2.2⟩;clear ba uD eN
       cases em with
       | true =>
        have nj:Hid (eJ L (T.take (j+1)) F):=by
         show eJ _ _ _
         rw [Ec.out];refine Do.out.skip _ (fun r hr n hm=>?_);rw [<- Hs.out] at hm;obtain ⟨C,hC,hI⟩:=nT.out.2.2.2;exact rX.1 rfl r hr n ((zV hC r hr n).2 ((hI r hr n).2 hm))
        clear rX;go_wp2_with fail;go_roundw
        case rel=>exact ⟨j+1,hh,ri.out,rfl,by simp,⟨F,tP.out,nj.out,by have:=tT.out;omega⟩⟩
        case measure=>simp [intOf];have:=ri.out;omega
       | false =>
        have nj:Hid (eJ L (T.take (j+1)) (F++[⟨cI,p1⟩])):=by
         show eJ _ _ _
         rw [Ec.out];exact Do.out.add _ ⟨cI,p1⟩ Hs.out nT.out.2.2.2 (fun h=>by have:=rX.2 h;cases this)
        obtain ⟨gb,cb,wb,dW,Ob,-⟩:=tP.out.app ⟨cI,p1⟩ ⟨nT.out.2.1,FA⟩ nT.out.2.2.1 (by have:=tT.out;have:=ri.out;have:=Eg.out;omega)
        have la:(ldP (.pointer (some ⟨g7,0,none⟩))).run Tryz.prog wa = .ok (.agg #[.slice p1.vo p1.vn p1.vc,.slice p1.co p1.cn p1.cc]) wa:=zi nT.out.1.at
        have oI:Hid ((Builtin.append_ #[27,27] 27 #[.slice hh.o hh.n hh.c,.slice (some ⟨wa.heap.size,0,none⟩) 1 1]).run Tryz.prog (wa.alloc (.cells #[.string cI,.slice p1.vo p1.vn p1.vc,.slice p1.co p1.cn p1.cc] 84)) = .ok (.slice (some ⟨gb,0,none⟩) (hh.n+1) cb) wb):=dW;have BP:=hide Ob;clear rX dW Ob;go_wp2_with (at_builtin;refine xP rfl (.tmp 60) (.tmp 64) rfl rfl rfl oI.out ?_);go_roundw
        case rel=>exact ⟨j+1,⟨some ⟨gb,0,none⟩,hh.n+1,cb⟩,ri.out,rfl,by simp,⟨_,BP.out,nj.out,by show hh.n+1 <= j+1;have:=tT.out;omega⟩⟩
        case measure=>simp [intOf];have:=ri.out;omega
      ·have e0:=K.ks s h0;have Lk:s≠cI:=fun e=>h0 (by rw [e];rfl)
       have l8:=zi iF.out.1.at
       have l3:=zi te.out.1.at
       go_wp2_with fail;clear o9 l8 l3;refine (kf p1 pa _ iF.out.2 te.out.2).mono ?_;rintro x w9 ⟨p2,rfl,S2,N2,b9,hM⟩;have t9:=qJ (p':=p2) (iF.out.1.below b9);have O9:=(iU.out.later b9).setOther g7 (PC p2) G9.out.2.2 G9.out.1 G9.out.2.1;have P9:ak (w9.setRow g7 (PC p2)) p2:=xI (g:=some g7) S2 (fun k e=>by obtain rfl:=Option.some.inj e;exact df.new N2 Hg.out.2) (fun q _ hq=>setRow_other _ _ _ _ (fun e=>hq (by rw [e])));have X9:aE (w9.setRow g7 (PC p2)) g7 p2:=setRow_heap _ _ _ _ _ _ (iF.out.1.below b9);obtain ⟨wz,Jc⟩:∃ wz,w9.setRow g7 (PC p2)=wz:=⟨_,rfl⟩;rw [Jc] at t9 O9 P9 X9;have eN:Hid (aE wz g7 p2/\ak wz p2/\dU hh p2/\IsP (dZ L s) p2.P):=⟨X9,P9,fM p2 (N2.mono (by have:=Hg.out;omega)),zeH Lk fS.out rF.out.2.2 hM⟩;have uD:=hide O9;clear S2 N2 b9 hM O9 P9 X9 Jc fM
       have l9:(ldP (.pointer (some ⟨g7,0,none⟩))).run Tryz.prog wz = .ok (PV p2) wz:=zi eN.out.1.at
       go_wp2_with fail;clear l9;refine (jg p2 _ eN.out.2.1).mono ?_;rintro x wa ⟨em,rfl,rX,ba⟩;have tP:=hide (uD.out.later ba);have nT:Hid (aE wa g7 p2/\ak wa p2/\dU hh p2/\IsP (dZ L s) p2.P):=⟨eN.out.1.below ba,eN.out.2.1.below ba,eN.out.2.2.1,eN.out.2.2.2⟩;clear ba uD eN
       cases em with
       | true =>
        have nj:Hid (eJ L (T.take (j+1)) F):=by
         show eJ _ _ _
         rw [Ec.out];refine Do.out.skip _ (fun r hr n hm=>?_);rw [<- Hs.out] at hm;obtain ⟨C,hC,hI⟩:=nT.out.2.2.2;exact rX.1 rfl r hr n ((zV hC r hr n).2 ((hI r hr n).2 hm))
        clear rX;go_wp2_with fail;go_roundw
        case rel=>exact ⟨j+1,hh,ri.out,rfl,by simp,⟨F,tP.out,nj.out,by have:=tT.out;omega⟩⟩
        case measure=>simp [intOf];have:=ri.out;omega
       | false =>
        have nj:Hid (eJ L (T.take (j+1)) (F++[⟨s,p2⟩])):=by
         show eJ _ _ _
         rw [Ec.out];exact Do.out.add _ ⟨s,p2⟩ Hs.out nT.out.2.2.2 (fun h=>by have:=rX.2 h;cases this)
        obtain ⟨gb,cb,wb,dW,Ob,-⟩:=tP.out.app ⟨s,p2⟩ ⟨nT.out.2.1,FA⟩ nT.out.2.2.1 (by have:=tT.out;have:=ri.out;have:=Eg.out;omega)
        have la:(ldP (.pointer (some ⟨g7,0,none⟩))).run Tryz.prog wa = .ok (.agg #[.slice p2.vo p2.vn p2.vc,.slice p2.co p2.cn p2.cc]) wa:=zi nT.out.1.at
        have oI:Hid ((Builtin.append_ #[27,27] 27 #[.slice hh.o hh.n hh.c,.slice (some ⟨wa.heap.size,0,none⟩) 1 1]).run Tryz.prog (wa.alloc (.cells #[.string s,.slice p2.vo p2.vn p2.vc,.slice p2.co p2.cn p2.cc] 84)) = .ok (.slice (some ⟨gb,0,none⟩) (hh.n+1) cb) wb):=dW;have BP:=hide Ob;clear rX dW Ob;go_wp2_with (at_builtin;refine xP rfl (.tmp 60) (.tmp 64) rfl rfl rfl oI.out ?_);go_roundw
        case rel=>exact ⟨j+1,⟨some ⟨gb,0,none⟩,hh.n+1,cb⟩,ri.out,rfl,by simp,⟨_,BP.out,nj.out,by show hh.n+1 <= j+1;have:=tT.out;omega⟩⟩
        case measure=>simp [intOf];have:=ri.out;omega
     ·obtain rfl:j=m:=by omega
      have Gu:Hid (FoA w wr2 (.returned (.tuple #[.slice hh.o hh.n hh.c,.int .i64 0])) L k):=by
       have hT:T.take j=T:=List.take_of_length_le (by have:=Hm.out;omega);have hF:=Do.out;rw [hT] at hF;have b06:Below w.heap.size w w6:=gN.out.trans (JN.out.below.mono gN.out.size);refine .inl ⟨HO.out,hh,F,rfl,O.src (by have:=tT.out;have:=Eg.out;omega),b06.trans (O.below.mono b06.size),fun ad e=>?_,hF.done Mq.out KS.out⟩;have:=(O.own.lt ad.block (by show (Value.slice hh.o hh.n hh.c).ownBlock=some ad.block;rw [e];rfl)).1;exact Nat.le_trans b06.size this
      clear O;go_wp2_with fail;go_ret2;exact Gu.out
end
section
open Go.RowKit
attribute [local go_sem ↓] zl zk qg qf K.zu K.zt
attribute [local go_sem] zf zh
variable {w w' w2 W W' : World} {g : Nat}

def am (e:K.En):Rn:=⟨e.rep,e.num⟩
def DtA (w w':World) (x:Ending) (L:List K.En):Prop:=Below w.heap.size w w'/\((K.chk L=0/\∃ p:Pv,x = .returned (.tuple #[PV p,.int .i64 0])/\ak w' p/\de w.heap.size p/\ae (cv (L.map am)) p.P)∨(¬ K.chk L=0/\x = .returned (.tuple #[PV pv0,.int .i64 1])))
theorem lj {fn:Func} {p q:Tmp} {m:Pv} {v:Value} (h:fn.results=#[.cell p 26,.tmp q]) {tmps:Array Value} (hp:tmps.getD p undef = .pointer (some ⟨g,0,none⟩)) (hq:tmps.getD q undef=v) (A:aE w g m) :
  (results fn tmps).run Tryz.prog w = .ok (.tuple #[PV m,v]) w:=by
 have hl:=zaF A.at
 simp only [results,h];rw [Array.getD_eq_getD_getElem?] at hp hq;simp [hp,hq,asAddr,hl]
theorem zbE (ao:Option Addr) (n cap:Nat) (L:List K.En) (w:World) (hS:K.aF w ao n cap L):Calls Tryz.prog 48 #[.slice ao n cap] w fun x w'=>DtA w w' x L:=by
 have b1:=ze w (.cells #[.slice none 0 0,.slice none 0 0] 26);have x1:aE (w.alloc (.cells #[.slice none 0 0,.slice none 0 0] 26)) w.heap.size pv0:=zq w pv0;obtain ⟨w1,dH⟩:∃ w1,w.alloc (.cells #[.slice none 0 0,.slice none 0 0] 26)=w1:=⟨_,rfl⟩;obtain ⟨g1,dx⟩:∃ g1,w.heap.size=g1:=⟨_,rfl⟩;rw [dH] at b1 x1;rw [dx] at x1;have HX:Hid (aE w1 g1 pv0/\K.aF w1 ao n cap L/\Below w.heap.size w w1/\w.heap.size=g1):=⟨x1,hS.below b1,b1,dx⟩;have HL:Hid (L.length=n/\n <= 3518437208883):=⟨hS.1,hS.2.2.2.2⟩;have Av:=HL.out.2;clear b1 x1 hS;go_enter Tryz.func48,Tryz.ntmps48;go_wp2_with fail;clear dH dx;refine (K.qu ao n cap L _ HX.out.2.1).mono ?_;rintro x w2 ⟨rfl,b2⟩;have cd:=hide (HX.out.2.2.1.trans (b2.mono HX.out.2.2.1.size));have dN:Hid (aE w2 g1 pv0/\K.aF w2 ao n cap L/\w.heap.size=g1):=⟨HX.out.1.below b2,HX.out.2.1.below b2,HX.out.2.2.2⟩
 clear b2 HX;rcases K.wn L with hc | hc;rotate_left
 ·have HE:Hid (DtA w (w2.setRow g1 (PC pv0)) (.returned (.tuple #[PV pv0,.int .i64 1])) L):=⟨zg cd.out (by have:=dN.out.2.2;omega),.inr ⟨by rw [hc];decide,rfl⟩⟩;have t6:(stP (.pointer (some ⟨g1,0,none⟩)) (.agg #[.slice none 0 0,.slice none 0 0])).run Tryz.prog w2 = .ok () (w2.setRow g1 (PC pv0)):=qJ (p':=pv0) dN.out.1;have Da:Hid (aE (w2.setRow g1 (PC pv0)) g1 pv0):=setRow_heap _ _ _ _ _ _ dN.out.1;rw [hc];clear hc;go_wp2_with fail;refine bodyPost_ret (lj rfl rfl rfl Da.out) rfl ?_;exact HE.out
 ·rw [hc];have HC:=hide hc;clear hc;go_wp2_with fail;go_loopw [5,16] (fun v i wr=>∃ (k:Nat) (ap:Option Addr) (c:Nat),k <= n/\v = .slice ap k c/\i = .int .i64 (k:Int)/\Hid (ez w2.heap.size w2.heap.size w2 wr ap c ((L.take k).map am))) (fun _ i _=>n - (intOf i).toNat)
  case atStart=>exact ⟨0,none,0,Nat.zero_le _,rfl,rfl,World.ownsRow_nil _ _ _ _,Below.refl _ _,Nat.le_refl _,Nat.le_refl _⟩
  case round =>
   obtain ⟨k,ap,c,hk,rfl,rfl,HO⟩:=hrel
   rename World=>wr
   obtain ⟨acc,iG⟩:∃ acc,Hid ((L.take k).map am=acc):=⟨_,rfl⟩
   have Eo:Hid (acc.length=k):=by show _=_;rw [<- iG.out,List.length_map,List.length_take];have:=HL.out.1;omega
   rw [iG.out] at HO;by_cases aq:k < n
   ·have dl:(k:Int) < (n:Int):=by omega
    obtain ⟨ad,fl,A0⟩:=(dN.out.2.1.below HO.out.below).at k aq;subst fl;obtain ⟨e,He⟩:∃ e,Hid (L.getD k K.en0=e):=⟨_,rfl⟩;rw [He.out] at A0;have dz:=K.zX A0;have HT:=hide (K.xE L k (by rw [HL.out.1];exact aq));rw [He.out] at HT
    have HN:Hid ((L.take (k+1)).map am=acc++[am e]):=by show _=_;rw [HT.out,List.map_append,iG.out];rfl
    obtain ⟨g7,fT⟩:∃ g7,wr.heap.size=g7:=⟨_,rfl⟩;obtain ⟨w7,cr,X7,B7,-⟩:=K.gE wr e g7 fT;replace cr:(K.lW (.pointer (some ⟨g7,0,none⟩)) (K.EV e)).run Tryz.prog (wr.alloc (.cells #[.int .i64 0,.int .i64 0,.string ⟨#[]⟩,.int .i64 0] 66)) = .ok () w7:=cr;have mw:=hide (HO.out.later B7);have l7:(ldD (.pointer (some ⟨g7,0,none⟩))).run Tryz.prog w7 = .ok (.agg #[.int .i64 e.rep,.int .i64 e.num]) w7:=qw (zaT X7);have cj:=hide aq;clear A0 X7 B7 aq;go_wp2_with (at_builtin;go_loud (refine (mw.out.later (ze w7 _)).appendS [am e] (some ⟨w7.heap.size,0,none⟩) 1 1 (zep w7 [am e] _ rfl 64 1 rfl (by omega)) (by have:=Eo.out;have:=cj.out;omega) rfl (.tmp 20) (.tmp 23) rfl k Eo.out rfl rfl ?_);intro ao8 c8 w8 O8;have iU:=hide O8;clear O8);clear cr fT dz;go_roundw
    case rel=>exact ⟨k+1,ao8,c8,cj.out,rfl,by simp,by show ez _ _ _ _ _ _ _;rw [HN.out];exact iU.out⟩
    case measure=>simp [intOf];have:=cj.out;omega
   ·have dl:¬ (k:Int) < (n:Int):=by omega
    obtain rfl:k=n:=by omega
    have L6:Hid (acc=L.map am):=by show _=_;rw [<- iG.out,List.take_of_length_le (by have:=HL.out.1;omega)]
    obtain ⟨t7,K9⟩:=HO.out.src (by have:=Eo.out;omega)
    have AU:aU wr ap k c acc:=by have:=Eo.out;rw [this] at t7;exact t7
    have ng:=hide (vS ap k c acc wr AU);have su:=wTr cd HO.out.below;have IX:=hide (dN.out.1.below HO.out.below);have HG:Hid (w.heap.size=g1/\g1 < wr.heap.size):=⟨dN.out.2.2,IX.out.lt⟩;clear t7 K9 AU;go_wp2_with fail;refine ng.out.mono ?_;rintro x w8 ⟨p,rfl,S8,n8,b8,c8⟩;have X8:=IX.out.below b8;have t8:=qJ (p':=p) X8;have iF:Hid (aE (w8.setRow g1 (PC p)) g1 p):=setRow_heap _ _ _ _ _ _ X8
    have HE:Hid (DtA w (w8.setRow g1 (PC p)) (.returned (.tuple #[PV p,.int .i64 0])) L):=by
     have hb:=su.out.trans (b8.mono su.out.size);refine ⟨zg hb (by have:=HG.out;omega),.inl ⟨HC.out,p,rfl,ke S8 (fun ad h=>setRow_other _ _ _ _ (by have:=n8.1 ad h;have:=HG.out;omega)) (fun ad h=>setRow_other _ _ _ _ (by have:=n8.2 ad h;have:=HG.out;omega)),n8.mono (by have:=HG.out;omega),by rw [<- L6.out];exact c8⟩⟩
    clear S8 n8 b8 c8 X8 ng;go_wp2_with fail;refine bodyPost_ret (lj rfl rfl rfl iF.out) rfl ?_;exact HE.out
end
end Go.Proofs.YtcilfelgpmfehaaGreat
