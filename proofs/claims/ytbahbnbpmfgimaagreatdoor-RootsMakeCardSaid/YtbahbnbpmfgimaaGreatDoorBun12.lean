import Derived.LaidMore
import Derived.Stop.Joined
import Derived.Test.YtbahbnbpmfgimaaGreatDoorBun10
import Derived.Test.YtbahbnbpmfgimaaGreatDoorBun11
set_option maxHeartbeats 2000000
set_option maxRecDepth 100000
namespace Go.Hm
open Go Go.RowKit
theorem qa3{n k:Nat}(hk:k<8)(x:Nat):(128::(List.replicate (zeu n) 0++((zg2 n).take k++List.replicate (8-k) 0))).set (1+zeu n+k) x=128::(List.replicate (zeu n) 0++((zg2 n).take k++(x::List.replicate (8-(k+1)) 0))):=by
 have h1:((zg2 n).take k).length=k:=by simp[zg2];omega
 rw[show 1+zeu n+k=(zeu n+k)+1 by omega,qoj,qn5 _ _ (by simp),qn5 _ _ (by rw[h1];simp),h1,qom,show zeu n+k-zeu n-k=0 by omega,show 8-k=(8-(k+1))+1 by omega,qn7,qn8]
theorem zrg{n k:Nat}(hk:k<8):(zg2 n).take (k+1)=(zg2 n).take k++[qfz n k]:=by
 rw[zae _ k 0 (by simp[zg2];exact hk)];congr 1
 simp[zg2,hk]
end Go.Hm
namespace Go.Proofs.Y
open Go.RowKit Go.Hm
theorem z5k{w:World}:Calls Tryz.prog 45 #[] w (zak (.agg (za2 zfq)) w):=by
 have b0:New w (w.alloc (.cells (za2 zfq) 98)):=(qq8 _ _).alloc (ql6 _) _;have hsz:(Tryz.prog.info? 98).map (·.size)=some (za2 zfq).size:=by kernel_rfl
 have hR:=zaf (qrv w 98 (za2 zfq));have H:=qrf (qok hsz hR);clear hsz hR;go_enter Tryz.func45,Tryz.ntmps45
 go_wp2
 exact bodyPost_ret (results_cell_row rfl _ _ w.heap.size _ (za2 zfq) (0,0) _ rfl H.out.2 (show Tryz.prog.underlying 98=some (.array 8 97) by kernel_rfl) rfl H.out.1) rfl ⟨rfl,b0⟩
theorem z17{w:World}:Calls Tryz.prog 122 #[] w (zak (.agg (za2 zfq)) w):=by
 have b0:New w (w.alloc (.cells (za2 zfq) 98)):=(qq8 _ _).alloc (ql6 _) _;have hsz:(Tryz.prog.info? 98).map (·.size)=some (za2 zfq).size:=by kernel_rfl
 have hR:=zaf (qrv w 98 (za2 zfq));have H:=qrf (qok hsz hR);clear hsz hR;go_enter Tryz.func122,Tryz.ntmps122
 go_wp2
 exact bodyPost_ret (results_cell_row rfl _ _ w.heap.size _ (za2 zfq) (0,0) _ rfl H.out.2 (show Tryz.prog.underlying 98=some (.array 8 97) by kernel_rfl) rfl H.out.1) rfl ⟨rfl,b0⟩
theorem qf2{w:World}(n:Int):Calls Tryz.prog 47 #[.int .i64 n] w (zcb (zzs n) w):=by
 by_cases hn:0<=n/\n<=2147483647
 ·obtain⟨h0,h1⟩:=hn
  obtain⟨N,rfl⟩:=qn1 h0;have hP:zzs (N:Int)=znr N:=by unfold zzs;rw[if_pos ⟨h0,h1⟩,qmt]
  rw[hP];have d1:decide ((N:Int)<0)=false:=by simp
  have d2:decide ((2147483647:Int)<(N:Int))=false:=by simp;omega
  obtain⟨r,hr⟩:∃r,r=(N+8)%64:=⟨_,rfl⟩;have hzz:zeu N=63-r:=by unfold zeu;omega
  have hr64:r<64:=by omega
  have e3:((N:Int)+8)%64=(r:Int):=by omega
  have e1:((N:Int)+8).tmod 64=(r:Int):=by rw[qni (by omega)];omega
  have HL:=qrf (zko N);have ST:=fun k (hk:k<8) (x:Nat)=>qa3 (n:=N) hk x
  have TK:=fun k (hk:k<8)=>zrg (n:=N) hk
  have PL:znr N=128::(List.replicate (zeu N) 0++zg2 N):=rfl;obtain⟨z,hz⟩:∃z,z=zeu N:=⟨_,rfl⟩;rw[<-hz] at ST PL hzz;have e2:(63:Int)-(r:Int)=(z:Int):=by omega
  have hz64:z<64:=by omega
  have HST:=qrf ST;have HTK:=qrf TK;have HPL:=qrf PL;clear hr hzz hz ST TK PL hP;go_enter Tryz.func47,Tryz.ntmps47
  go_wp2_with (refine zci elB rfl _ _ rfl (W:=w) (B:=w.heap.size) (1+z+8) (1+z+8) rfl rfl (by omega) (by omega) (ql6 _) (qq8 _ _) (ql6 _) rfl (by omega) (by simp only[maxLen];omega) ?_;intro w1 o1 g1 b1 z1;have o2:Own w1 w.heap.size 5 (.slice (some ⟨w.heap.size,0,none⟩) (1+z+8) (1+z+8)) (zah .u8 (List.replicate (1+z+8) 0)):=by(rw[zb8];exact o1)
               obtain⟨_,_,c0,f0,st⟩:=o2.num0 (i:=0) (by omega))
  have o3:=st 128;rw[show(List.replicate (1+z+8) 0).set 0 128=128::(List.replicate z 0++((zg2 N).take 0++List.replicate (8-0) 0)) by rw[show 1+z+8=(z+8)+1 by omega,qn7,qn8,List.replicate_append_replicate.symm];rfl] at o3
  have b3:=b1.setCell (p:=⟨w.heap.size,0,none⟩) (ql6 _) (.int .u8 ((128:Nat):Int));have O3:=qrf o3;have B3:=qrf b3;clear c0 f0 st o1 o2 o3 b3 g1 b1;go_loopw [22] (fun i wr=>∃k:Nat,k<=8/\i= .int .i64 (k:Int)/\Hid (Own wr w.heap.size 5 (.slice (some ⟨w.heap.size,0,none⟩) (1+z+8) (1+z+8)) (zah .u8 (128::(List.replicate z 0++((zg2 N).take k++List.replicate (8-k) 0)))))/\Hid (New w wr)) (fun i _=>8-(intOf i).toNat)
  case atStart=>exact⟨0,by omega,rfl,O3,B3⟩
  case round=>
   clear O3 B3;obtain⟨k,hk,rfl,O,b⟩:=hrel;by_cases hlt:k<8
   ·obtain⟨q,hq⟩:∃q,q=1+z+k:=⟨_,rfl⟩
    obtain⟨sh,hsh⟩:∃q,q=56-8*k:=⟨_,rfl⟩;obtain⟨x,hx⟩:∃x,x=qfz N k:=⟨_,rfl⟩;obtain⟨_,hltb,c0,f0,st⟩:=O.out.num0 (i:=q) (by omega);have i1:(1:Int)+(z:Int)+(k:Int)=(q:Int):=by omega
    have i2:(56:Int)-8*(k:Int)=(sh:Int):=by omega
    have v1:8*(N:Int)/2^sh%256=(x:Int):=by rw[hx,hsh];unfold qfz;simp
    have o3:=st x;rw[hx,hq,HST.out k hlt,<-hx,<-hq] at o3;have tk:=HTK.out k hlt;rw[<-hx] at tk;rw[show(zg2 N).take k++(x::List.replicate (8-(k+1)) 0)=(zg2 N).take (k+1)++List.replicate (8-(k+1)) 0 by rw[tk];simp] at o3;have b3:=b.out.setCell (p:=⟨w.heap.size,q,none⟩) (ql6 _) (.int .u8 (x:Int));have O3:=qrf o3;have B3:=qrf b3;have hq2:q<1+z+8:=by omega
    clear hq hsh hx st o3 b3 tk O b;go_wp2
    go_roundw
    case rel=>exact⟨k+1,by omega,by go_num,O3,B3⟩
    case measure=>simp[intOf];omega
   ·obtain rfl:k=8:=by omega
    have o:=O.out;rw[qm0 (by simp[zg2]),show List.replicate (8-8) 0=([]:List Nat) from rfl,qmg,<-HPL.out] at o;have O3:=qrf o;clear o O;go_wp2
    go_ret
    exact⟨_,_,_,rfl,O3.out,b.out⟩
 ·have hP:zzs n=[]:=by unfold zzs;rw[if_neg hn]
  rw[hP];by_cases h0:n<0
  ·have d1:decide (n<0)=true:=by simpa using h0
   clear hn hP;go_enter Tryz.func47,Tryz.ntmps47
   go_wp2
   go_ret
   exact⟨_,_,_,rfl,qru,qrz _⟩
  ·have d1:decide (n<0)=false:=by simpa using h0
   have d2:decide (2147483647<n)=true:=by simp;omega
   clear hn hP;go_enter Tryz.func47,Tryz.ntmps47
   go_wp2
   go_ret
   exact⟨_,_,_,rfl,qru,qrz _⟩
end Go.Proofs.Y
namespace Go.Hm
open Go Go.RowKit
theorem z5l(w:World)(e:TypeId)(k:IntKind)(l:List Nat)(hl:l.length<=maxLen):Own (w.alloc (.cells (zah k l).toArray e)) w.heap.size e (.slice (some ⟨w.heap.size,0,none⟩) l.length l.length) (zah k l):=by have e1:(zah k l).length=l.length:=zaa k l;unfold Own;rw[e1];exact⟨by rw[e1];simp,.inr ⟨w.heap.size,l.length,(zah k l).toArray,rfl,ql6 _,heap_alloc_new w _,ql6 _,hl,by simp[e1],by rw[List.toList_toArray,qm0 (by rw[e1];omega)]⟩⟩
def lenOf:Value->Nat
 | .slice _ n _=>n
 |_=>0
end Go.Hm
namespace Go.Proofs.Y
open Go.RowKit Go.Hm
theorem qa4{w:World}(n:Int):Calls Tryz.prog 121 #[.int .i64 n] w (zcb (zzs n) w):=by
 by_cases hn:0<=n/\n<=2147483647
 ·obtain⟨h0,h1⟩:=hn
  obtain⟨N,rfl⟩:=qn1 h0;have hP:zzs (N:Int)=znr N:=by unfold zzs;rw[if_pos ⟨h0,h1⟩,qmt]
  rw[hP];have d1:decide ((N:Int)<0)=false:=by simp
  have d2:decide ((2147483647:Int)<(N:Int))=false:=by simp;omega
  have TK:=fun k (hk:k<8)=>zrg (n:=N) hk
  have PL:znr N=128::(List.replicate (zeu N) 0++zg2 N):=rfl;obtain⟨z,hz⟩:∃z,z=zeu N:=⟨_,rfl⟩;rw[<-hz] at PL;have hz64:z<64:=by rw[hz];unfold zeu;omega
  have ZZ:=fun m (h:1<=m/\m<=1+z)=>show(N+m+8)%64=0↔m=1+z by rw[hz] at h⊢;unfold zeu at h⊢;omega
  have HZZ:=qrf ZZ;have HTK:=qrf TK;have HPL:=qrf PL;have o1:Own (w.alloc (.cells #[.int .u8 128] 5)) w.heap.size 5 (.slice (some ⟨w.heap.size,0,none⟩) 1 1) (zah .u8 [128]):=
   z5l w 5 .u8 [128] (by simp[maxLen])
  have b1:New w (w.alloc (.cells #[.int .u8 128] 5)):=(qq8 _ _).alloc (ql6 _) _;have O1:=qrf o1;have B1:=qrf b1;clear hz TK PL ZZ hP o1 b1;go_enter Tryz.func121,Tryz.ntmps121
  go_wp2
  go_loopw [3] (fun v wr=>∃(m:Nat) (A:Option Addr) (c:Nat),1<=m/\m<=1+z/\v= .slice A m c/\Hid (Own wr w.heap.size 5 (.slice A m c) (zah .u8 (128::List.replicate (m-1) 0)))/\Hid (New w wr)) (fun v _=>1+z-lenOf v)
  case atStart=>exact⟨1,_,_,by omega,by omega,rfl,O1,B1⟩
  case round=>
   clear O1 B1;obtain⟨m,A,c,hm1,hm2,rfl,O,b⟩:=hrel;obtain⟨r,hr⟩:∃r,r=(N+m+8)%64:=⟨_,rfl⟩;have e1:((N:Int)+(m:Int)+8)%64=(r:Int):=by omega
   have e2:((N:Int)+(m:Int)+8).tmod 64=(r:Int):=by rw[qni (by omega)];omega
   have hzz:=HZZ.out m ⟨hm1,hm2⟩;rw[<-hr] at hzz;by_cases hlt:m<1+z
   ·have hr0:r≠0:=by omega
    have d3:((r:Int) != 0)=true:=by simpa using hr0
    have o:=O.out;have bb:=b.out;have z0:=bb.size;clear hzz hr hr0
    go_wp2_with (refine zbr elB rfl (.tmp 20) (.tmp 21) rfl (W:=w) (B:=w.heap.size) o rfl rfl 0 rfl bb (ql6 _) z0 (by omega) (by simp only[maxLen];omega) ?_
                 intro A' c' w8 _ _ o' g' b' hsz hat)
    go_roundw
    case rel=>
     refine⟨m+1,A',c',by omega,by omega,rfl,qrf ?_,qrf b'⟩;have e:(128::List.replicate (m-1) 0:List Nat)++[0]=128::List.replicate (m+1-1) 0:=by rw[qm8,<-qon,show m-1+1=m+1-1 by omega]
     rw[<-e];exact o'
    case measure=>simp[lenOf];omega
   ·have hm:m=1+z:=by omega
    have hr0:r=0:=by omega
    have d3:((r:Int) != 0)=false:=by simp[hr0]
    have o:=O.out;rw[hm,show 1+z-1=z by omega] at o;obtain⟨b8,hb8⟩:∃q,q=8*N:=⟨_,rfl⟩;have e3:8*(N:Int)=(b8:Int):=by omega
    have e4:b8<17179869184:=by omega
    have HB8:=qrf hb8;have O2:Hid (Own wr w.heap.size 5 (.slice A m c) (zah .u8 (128::(List.replicate z 0++(zg2 N).take 0)))):=qrf (by rw[hm];simpa using o);have HM:=qrf hm;clear o O hzz hr hr0 hm hb8;go_wp2
    clear d3 e1 e2;go_loopw [3,5] (fun v i wr=>∃(j m:Nat) (A:Option Addr) (c:Nat) (kk:Int),j<=8/\Hid (m=1+z+j)/\i= .int .i64 kk/\Hid (kk=56-8*(j:Int))/\v= .slice A m c/\Hid (Own wr w.heap.size 5 (.slice A m c) (zah .u8 (128::(List.replicate z 0++(zg2 N).take j))))/\Hid (New w wr)) (fun _ i _=>(8+intOf i).toNat)
    case atStart=>exact⟨0,m,A,c,56,by omega,HM,rfl,qrf rfl,rfl,O2,b⟩
    case round=>
     clear O2 b HM;obtain⟨j,m,A,c,kk,hj,HM,rfl,HK,rfl,O,b⟩:=hrel;by_cases hlt:j<8
     ·obtain⟨sh,hsh⟩:∃q,q=56-8*j:=⟨_,rfl⟩
      obtain⟨x,hx⟩:∃x,x=qfz N j:=⟨_,rfl⟩;have hkk:kk=(sh:Int):=by rw[HK.out];omega
      have v1:(b8:Int)/2^sh%256=(x:Int):=by rw[hx,hsh,HB8.out];unfold qfz;simp
      have tk:=HTK.out j hlt;rw[<-hx] at tk;have HTK2:=qrf tk;have o:=O.out;have bb:=b.out;have z0:=bb.size;have hm2:m<80:=by rw[HM.out];omega
      have HS:=qrf hsh;have hs2:sh<=56:=by omega
      subst hkk;have d4:decide (0<=(sh:Int))=true:=by simp
      clear hx tk hsh O b
      go_wp2_with (refine zbr elB rfl (.tmp 30) (.tmp 36) rfl (W:=w) (B:=w.heap.size) o rfl rfl x rfl bb (ql6 _) z0 (by omega) (by simp only[maxLen];omega) ?_
                   intro A' c' w8 _ _ o' g' b' hsz hat)
      go_roundw
      case rel=>
       refine⟨j+1,m+1,A',c',(sh:Int)-8,by omega,qrf (by rw[HM.out];omega),rfl,qrf (by rw[HK.out];omega),rfl,qrf ?_,qrf b'⟩;rw[HTK2.out,<-qmi,<-qm8];exact o'
      case measure=>simp[intOf];omega
     ·have hj8:j=8:=by omega
      have hkk:kk= -8:=by rw[HK.out,hj8];omega
      subst hkk;have o:=O.out;rw[hj8,qm0 (by simp[zg2]),<-HPL.out] at o;have O3:=qrf o;clear o O hj8 HK;go_wp2
      go_ret
      exact⟨_,_,_,rfl,O3.out,b.out⟩
 ·have hP:zzs n=[]:=by unfold zzs;rw[if_neg hn]
  rw[hP];by_cases h0:n<0
  ·have d1:decide (n<0)=true:=by simpa using h0
   clear hn hP;go_enter Tryz.func121,Tryz.ntmps121
   go_wp2
   go_ret
   exact⟨_,_,_,rfl,qru,qrz _⟩
  ·have d1:decide (n<0)=false:=by simpa using h0
   have d2:decide (2147483647<n)=true:=by simp;omega
   clear hn hP;go_enter Tryz.func121,Tryz.ntmps121
   go_wp2
   go_ret
   exact⟨_,_,_,rfl,qru,qrz _⟩
end Go.Proofs.Y
namespace Go.Hm
open Go Go.RowKit
def zos(M:List Nat)(k:Nat):List Nat:=(M.drop (64*k)).take 64
def zek(M:List Nat):Nat->S8
 |0=>zfq
 |k+1=>zsp (zek M k) (zos M k)
theorem zsr(M:List Nat)(k:Nat):OkS (zek M k):=by
 cases k with
 |zero=>exact z5d
 |succ k=>exact qa1 _ _
theorem zss{M:List Nat}{k:Nat}(h:64*k+64<=M.length):(zos M k).length=64:=by unfold zos;rw[ql2,ql0];omega
theorem zxk{M:List Nat}{k:Nat}(h:∀x∈M,x<256):∀x∈zos M k,x<256:=fun x hx=>h x (qoo (qmu hx))
def zdc(l:List Nat):List Nat:=l++znr l.length
theorem z5m{l:List Nat}(h:∀x∈l,x<256):∀x∈zdc l,x<256:=by
 intro x hx;rcases qnd.1 hx with hx|hx
 ·exact h x hx
 ·exact qf0 _ x hx
theorem zst(l:List Nat):(zdc l).length=l.length+(znr l.length).length:=by simp[zdc]
theorem zzt(l:List Nat):(zdc l).length%64=0:=by rw[zst];exact qa2 _
theorem z5n{l:List Nat}{k:Nat}(h:64*k+64<=l.length):zos (zdc l) k=(l.drop (64*k)).take 64:=by unfold zos zdc;rw[qop (by omega),List.take_append_of_le_length (by rw[ql0];omega)]
def zil(l:List Nat):S8:=zek (zdc l) ((zdc l).length/64)
def zks(s:S8):List Int:=[s.1,s.2.1,s.2.2.1,s.2.2.2.1,s.2.2.2.2.1,s.2.2.2.2.2.1,s.2.2.2.2.2.2.1,s.2.2.2.2.2.2.2]
theorem zm5(s:S8):za2 s=(zap .u32 (zks s)).toArray:=rfl
def qf3(s:S8)(k:Nat):Int:=(zks s).getD (k/4) 0/2^(24-k%4*8)%256
def zl5(s:S8):List Int:=(List.range 32).map (qf3 s)
def zi9(l:List Nat):List Int:=zl5 (zil l)
theorem zd8(s:S8):(zl5 s).length=32:=by simp[zl5]
theorem zum{s:S8}{k:Nat}(hk:k<32):(zl5 s).take (k+1)=(zl5 s).take k++[qf3 s k]:=by
 rw[zae _ k 0 (by rw[zd8];exact hk)];congr 1
 simp[zl5,hk]
def zl6(l:List Int):List Int:=l++List.replicate (32-l.length) 0
theorem zun{l:List Int}(h:l.length<=32):(zl6 l).length=32:=by simp[zl6];omega
theorem zuo{l:List Int}(h:l.length<32)(x:Int):(zl6 l).set l.length x=zl6 (l++[x]):=by unfold zl6;rw[qn5 _ _ (ql6 _),qn6,show 32-l.length=(32-(l++[x]).length)+1 by simp;omega,qn7,qn8];simp
theorem zrh{l:List Int}(h:l.length=32):zl6 l=l:=by simp[zl6,h]
section
variable{P:Program}{w:World}{a:Act}{dst:Option Tmp}{tt:TypeId}{pos:String}{af:Array Edge}{gd:Option (Nat × Bool)}
theorem zcg{ty t:TypeId}{x:Operand}{g:Nat}{cs:Array Value}{d:TypeDesc}(hx:a.eval x= .pointer (some ⟨g,0,none⟩))(B:Blk w g t cs)(hu:P.underlying ty=some d)(hd:d.isRow=true)(hi:(P.info? ty).map (·.size)=some cs.size):
 (execOp a.eval ⟨dst,.load ty x,tt,pos,af,gd⟩).run P w= .ok (.value (.agg cs)) w:=by
 unfold execOp;simp only[hx,Instr.loadAt,Instr.sureAddr,qrb,qrc,qrd,run_loadVar_row w g t ty cs (0,0) d B hu (by cases d<;> simp_all[TypeDesc.isRow]) hi]
theorem zj0(w:World)(ad:Addr)(ty:TypeId)(cs:List Value)(d:TypeDesc)(hc:∀j v,cs[j]? =some v->w.cell? (ad.add j)=some v)
 (hu:P.underlying ty=some d)(hd:d.isRow=true)(hi:(P.info? ty).map (·.size)=some cs.length):
 (loadVar ty ad).run P w= .ok (.agg cs.toArray) w:=by
 have hl:(loadCells ad cs.length).run P w= .ok cs.toArray w:=run_loadCells_list (P:=P) w ad cs hc;cases hq:P.info? ty with
 |none=>simp[hq] at hi
 |some i=>
  have hs:i.size=cs.length:=by simpa[hq] using hi
  have hagg:(isAgg ty).run P w= .ok true w:=by unfold isAgg;rw[qrb,run_underlying hu w];cases d<;> simp_all
  simp[loadVar,Sem.run_bind,hagg,sizeOf,typeInfo,hq,hs,hl]
theorem zgs{ty:TypeId}{x:Operand}{ad:Addr}{cs:List Value}{d:TypeDesc}(hx:a.eval x= .pointer (some ad))(hc:∀j v,cs[j]? =some v->w.cell? (ad.add j)=some v)(hu:P.underlying ty=some d)(hd:d.isRow=true)(hi:(P.info? ty).map (·.size)=some cs.length):
 (execOp a.eval ⟨dst,.load ty x,tt,pos,af,gd⟩).run P w= .ok (.value (.agg cs.toArray)) w:=by
 unfold execOp;simp only[hx,Instr.loadAt,Instr.sureAddr,qrb,qrc,qrd,zj0 w ad ty cs d hc hu hd hi]
theorem zm6{arr e:TypeId}{x:Operand}{n len cap:Nat}{A:Option Addr}(hx:a.eval x= .slice A len cap)(h:P.underlying arr=some (.array n e))(hn:n<=len):
 (execOp a.eval ⟨dst,.sliceToArrayPointer arr x,tt,pos,af,gd⟩).run P w= .ok (.value (.pointer A)) w:=by
 unfold execOp;simp only[hx,qrb,run_arrayAt w arr e n A len cap h hn,qrd,qrc]
theorem zl7{t:TypeId}{x:Operand}{lo hi mx:Option Operand}{v:Value}(hv:(Instr.sliceAt t (a.eval x) (lo.map a.eval) (hi.map a.eval) (mx.map a.eval)).run P w= .ok v w):
 (execOp a.eval ⟨dst,.slice t x lo hi mx,tt,pos,af,gd⟩).run P w= .ok (.value v) w:=by
 unfold execOp;simp only[qrb,hv,qrd,qrc]
theorem zm7{ops:Array Oper}{rest:List Oper}{o:Oper}{Q:Exit->Act->World->Prop}(hgd:o.guard=none)(t:TypeId)(x:Operand)(lo hi mx:Option Operand)(ho:o.op= .slice t x lo hi mx){v:Value}
 (hv:(Instr.sliceAt t (a.eval x) (lo.map a.eval) (hi.map a.eval) (mx.map a.eval)).run P w= .ok v w)(h:wpList P ops Q rest (a.put o.dst v) w):wpList P ops Q (o::rest) a w:=by
 refine wpList_plain hgd fun K hK=>?_
 unfold Oper.wp execOp;simp only[ho,qrb,hv,qrd,qrc];exact hK _ _ h
end
open Go Go.RowKit
def zad:List Int:=List.replicate 32 0
theorem z5o{P:Program}{t:TypeId}(ht:P.underlying t=some (.slice (P.elem t)))(hs:∀w,(sizeOf (P.elem t)).run P w= .ok 1 w)(A:Option Addr)(n c k:Nat)(hk:k<=n)(w:World):
 (Instr.sliceAt t (.slice A n c) (some (.int .i64 (k:Int))) none none).run P w= .ok (.slice (if c=k then A else A.map (·.add k)) (n-k) (c-k)) w:=by
 rw[run_sliceAt_slice w t _ _ _ _ ht,run_slice_l w t A n c ht .i64 (k:Int) (by omega) (by omega),hs];simp[Result.andThen,sliced]
theorem qa5{P:Program}{t:TypeId}(ht:P.underlying t=some (.slice (P.elem t)))(hs:∀w,(sizeOf (P.elem t)).run P w= .ok 1 w)(A:Option Addr)(n c k m:Nat)(hk:k<=m)(hc:m<=c)(w:World):
 (Instr.sliceAt t (.slice A n c) (some (.int .i64 (k:Int))) (some (.int .i64 (m:Int))) none).run P w= .ok (.slice (if c=k then A else A.map (·.add k)) (m-k) (c-k)) w:=by
 rw[run_sliceAt_slice w t _ _ _ _ ht,run_slice_lh w t A n c ht .i64 .i64 (k:Int) (m:Int) (by omega) (by omega) (by omega),hs];simp[Result.andThen,sliced]
theorem qf4{P:Program}{t:TypeId}(ht:P.underlying t=some (.slice (P.elem t)))(hs:∀w,(sizeOf (P.elem t)).run P w= .ok 1 w)(A:Option Addr)(n c m:Nat)(hc:m<=c)(w:World):
 (Instr.sliceAt t (.slice A n c) none (some (.int .i64 (m:Int))) none).run P w= .ok (.slice A m c) w:=by
 rw[run_sliceAt_slice w t _ _ _ _ ht,run_slice_h w t A n c ht .i64 (m:Int) (by omega) (by omega),hs];have e:∀a:Addr,a.add 0=a:=zfp;cases A<;> simp[Result.andThen,sliced,e]
end Go.Hm
namespace Go.Proofs.Y
open Go.RowKit Go.Hm
theorem sB:Tryz.prog.underlying 24=some (.slice (Tryz.prog.elem 24)):=by kernel_rfl
theorem zB:∀w,(sizeOf (Tryz.prog.elem 24)).run Tryz.prog w= .ok 1 w:=fun w=>by
 have h:(Tryz.prog.info? (Tryz.prog.elem 24)).map (·.size)=some 1:=by kernel_rfl
 cases hq:Tryz.prog.info? (Tryz.prog.elem 24) with
 |none=>rw[hq] at h;cases h
 |some i=>
  rw[hq] at h;have:i.size=1:=by simpa using h
  simp[sizeOf,typeInfo,hq,this]
theorem z5p:Tryz.prog.underlying 101=some (.array 64 5):=by kernel_rfl
theorem z5q:Tryz.prog.underlying 98=some (.array 8 97):=by kernel_rfl
theorem zbp:Tryz.prog.underlying 35=some (.array 32 5):=by kernel_rfl
theorem qkd{l:List Nat}(h:l.length=64):(Tryz.prog.info? 101).map (·.size)=some (zah .u8 l).length:=by
 rw[zaa,h]
 kernel_rfl
theorem i8w(s:S8):(Tryz.prog.info? 98).map (·.size)=some (za2 s).size:=by
 rw[show(za2 s).size=8 from rfl]
 kernel_rfl
theorem zxd{l:List Int}(h:l.length=32):(Tryz.prog.info? 35).map (·.size)=some (zap .u8 l).toArray.size:=by
 rw[show(zap .u8 l).toArray.size=32 by simp[zap,h]]
 kernel_rfl
theorem z5r{w:World}{A:Option Addr}{n c:Nat}{l:List Nat}(h:Reads w w.heap.size 1 A n (zah .u8 l))(h8:∀x∈l,x<256)(hc:n<=c)(hn:n<=10000000)(hC:ConstIn w):
 Calls Tryz.prog 25 #[.slice A n c] w (zak (.agg (zap .u8 (zi9 l)).toArray) w):=by
 obtain rfl:=h.len;obtain⟨r,hr⟩:∃r,r=l.length%64:=⟨_,rfl⟩;obtain⟨wh,hwh⟩:∃r,r=l.length-l.length%64:=⟨_,rfl⟩;have e1:(l.length:Int)%64=(r:Int):=by omega
 have e2:(l.length:Int).tmod 64=(r:Int):=by rw[qni (by omega)];omega
 have e3:(l.length:Int)-(r:Int)=(wh:Int):=by omega
 have hw64:wh%64=0:=by omega
 have hwl:wh<=l.length:=by omega
 have HR:=qrf h;have HC:=qrf hC;have HH:=qrf h8;have HW64:=qrf hw64;have HM8:=qrf (z5m h8);have HML:=qrf (zst l);have HMM:=qrf (zzt l);have HPL:=qrf (zko l.length);clear h hC h8 hr hwh hw64;go_enter Tryz.func25,Tryz.ntmps25
 go_wp2_with fail
 obtain⟨W0,hW0⟩:∃W,W=w.alloc (.cells (zap .u8 zad).toArray 35):=⟨_,rfl⟩;have b0:New w W0:=by rw[hW0];exact(qq8 _ _).alloc (ql6 _) _
 have D0:Blk W0 w.heap.size 35 (zap .u8 zad).toArray:=by rw[hW0];exact qrv _ _ _
 refine(z5k).mono ?_;rintro e w1 ⟨rfl,b1⟩;have b1:New W0 w1:=by rw[hW0];exact b1
 have D1:=D0.below b1 D0.lt;have b01:=qr0 b0 b1;have HB1:=qrf b01;have HD1:=qrf D1;clear hW0 b0 D0 b1 D1 b01;go_wp2_with (first|(refine wpList_store_row rfl 98 (.tmp 3) (.tmp 9) rfl w1.heap.size (za2 zfq) rfl rfl _ _ (heap_alloc_new _ _) (i8w _) rfl (zfe _) ?_;rw[zbb])|fail)
 obtain⟨W2,hW2⟩:∃W,W=w1.alloc (.cells (za2 zfq) 98):=⟨_,rfl⟩;have c2:New w1 W2:=by rw[hW2];exact(qq8 _ _).alloc (ql6 _) _
 have G2:Blk W2 w1.heap.size 98 (za2 (zek (zdc l) 0)):=by rw[hW2];exact qrv _ _ _
 have D2:=qrf (HD1.out.below c2 HD1.out.lt);have B2:=qrf (qr0 HB1.out c2);have hG:w.heap.size<w1.heap.size:=HD1.out.lt;have HG2:=qrf G2;rw[<-hW2];generalize w1.heap.size=G at*;clear hW2 c2 G2 HB1 HD1 e1 e2 e3;go_loopw [5] (fun i wr=>∃k a:Nat,Hid (a=64*k)/\a<=wh/\i= .int .i64 (a:Int)/\Hid (Blk wr G 98 (za2 (zek (zdc l) k)))/\Hid (Blk wr w.heap.size 35 (zap .u8 zad).toArray)/\Hid (New w wr)) (fun i _=>wh-(intOf i).toNat)
 case atStart=>exact⟨0,0,qrf rfl,by omega,rfl,HG2,D2,B2⟩
 case round=>
  clear HG2 D2 B2;obtain⟨k,a,HA,ha,rfl,S,D,b⟩:=hrel;by_cases hlt:a<wh
  ·obtain⟨a2,ha2⟩:∃x,x=a+64:=⟨_,rfl⟩
   have hle:a2<=wh:=by have:=HA.out;have:=HW64.out;omega
   have i2:IntKind.i64.wrap ((a:Int)+64)=(a2:Int):=by rw[qrl];omega
   have SL:=qrf (fun W:World=>qa5 sB zB A l.length c a a2 (by omega) (by omega) W);have hb:=z5n (l:=l) (k:=k) (by rw[<-HA.out];omega);have hb64:(zos (zdc l) k).length=64:=zss (by rw[<-HA.out,HML.out];omega);have hb8:=zxk (k:=k) HM8.out;rw[<-HA.out] at hb;have hcut:=fun(W:World) (hW:New w W)=>((qsg HR.out hW).cut (k:=a) (cap:=c) (by omega) hc).take (k:=64) (by omega)
   have CELL:=qrf (fun(W:World) (hW:New w W)=>show∃ad,(if c=a then A else A.map (·.add a))=some ad/\ ∀j v,(zah .u8 (zos (zdc l) k))[j]? =some v->W.cell? (ad.add j)=some v by obtain⟨ad,h1,_,h3⟩:=(hcut W hW).2 (by omega);rw[qmd,qmd] at*;rw[zei,ze2,<-hb] at h3;exact⟨ad,h1,h3⟩)
   have HZ:=qrf (show a2-a=64 by omega);generalize(if c=a then A else A.map (·.add a))=AA at*;have SL2:=qrf (fun W:World=>(show(Instr.sliceAt 24 (.slice A l.length c) (some (.int .i64 (a:Int))) (some (.int .i64 (a2:Int))) none).run Tryz.prog W= .ok (.slice AA 64 (c-a)) W by have:=SL.out W;rwa[HZ.out] at this));have HB64:=qrf hb64;have HB8:=qrf hb8;have CP:=qrf (fun(W:World) (hW:New w W)=>zm4 (w:=W) (zek (zdc l) k) (zsr _ _) (zos (zdc l) k) hb64 hb8 (HC.out.new hW));have hst:zsp (zek (zdc l) k) (zos (zdc l) k)=zek (zdc l) (k+1):=rfl;rw[hst] at CP;clear hb hb64 hb8 hcut hst SL;obtain⟨ad,rfl,_⟩:=CELL.out wr b.out;have CL:=qrf (fun(W:World) (hW:New w W)=>show∀j v,(zah .u8 (zos (zdc l) k))[j]? =some v->W.cell? (ad.add j)=some v by obtain⟨ad2,h1,h2⟩:=CELL.out W hW;obtain rfl:=qlj h1;exact h2)
   have HA2:=qrf ha2;clear CELL ha2;go_wp2
   refine zcf New 9 [(0,0),(1,1),(1,2),(1,3),(1,4),(1,5),(1,6),(0,7),(2,8),(2,9)]
    qrz qr0 (by kernel_rfl) (by kernel_rfl) (by kernel_rfl) (by kernel_rfl) ?_
   have hU:=qr0 b.out (qr1 wr);refine zco rfl rfl (v:= .agg (za2 (zek (zdc l) k))) (fun W hW=>zcg rfl (S.out.below (qr0 (qr1 wr) hW) S.out.lt) z5q rfl (i8w _)) ?_;simp only[Act.put,qoi,qn8,qoj];iterate 4 (
    refine zb2 rfl rfl (v:=?_) (fun W=>?_) ?_;rotate_left
    ·go_simp<;> with_reducible rfl
    simp only[Act.put,qoi,qn8,qoj])
   refine zb2 rfl rfl (v:= .slice (some ad) 64 (c-a)) (fun W=>zl7 (SL2.out W)) ?_;simp only[Act.put,qoi,qn8,qoj];refine zb2 rfl rfl (v:= .pointer (some ad)) (fun W=>zm6 rfl z5p (ql6 _)) ?_;simp only[Act.put,qoi,qn8,qoj];refine zco rfl rfl (v:= .agg (zah .u8 (zos (zdc l) k)).toArray) (fun W hW=>zgs rfl (CL.out W (qr0 hU hW)) z5p rfl (qkd HB64.out)) ?_;simp only[Act.put,qoi,qn8,qoj];refine zbl rfl rfl (fun K hK=>?_);go_simp
   (with_reducible refine(CP.out _ hU).mono ?_)
   rintro e9 w9 ⟨rfl,c9⟩;refine hK _ _ (.inr (.inr c9)) ?_;clear hK;have hN:=qr0 (qr1 wr) c9;have S9:=S.out.below hN S.out.lt;have D9:=D.out.below hN D.out.lt;have b9:=qr0 hU c9;refine zbl rfl rfl (fun K hK=>?_);refine wp_store_row 98 (.tmp 3) (.tmp 29) rfl G (za2 (zek (zdc l) (k+1))) rfl rfl _ _ (zaf S9) (i8w _) rfl (zfe _) ?_;refine hK _ _ (.inr (.inl rfl)) ?_;clear hK;refine zfd ?_;have hF:=za3 (g:=G) w9 (za2 (zek (zdc l) (k+1)));have S10:=qrf (zau S9 (za2 (zek (zdc l) (k+1))));have D10:=qrf (D9.grown hF (by simp;omega));have B10:=qrf (qr6 b9 hF (by omega));have HA3:=qrf (show a2=64*(k+1) by rw[HA2.out,HA.out];omega);have e4:(a:Int)+64=(a2:Int):=by have:=HA2.out;omega
   clear S9 D9 b9 hN hU hF i2 CP CL SL2 c9;go_wp2
   go_roundw
   case rel=>exact⟨k+1,a2,HA3,hle,rfl,S10,D10,B10⟩
   case measure=>simp[intOf];omega
  ·have haw:a=wh:=by omega
   have HK:=qrf (show wh=64*k by rw[<-haw];exact HA.out);subst haw;have SL:=qrf (fun W:World=>z5o sB zB A l.length c a hwl W);have hcut:=(qsg HR.out b.out).cut (k:=a) (cap:=c) hwl hc;rw[qmd,zei] at hcut;generalize(if c=a then A else A.map (·.add a))=A3 at*;have hPO:zzs (l.length:Int)=znr l.length:=by unfold zzs;rw[if_pos (by omega),qmt]
   have hpl:(znr l.length).length<=72:=by rw[zko];unfold zeu;omega
   have PD:=qrf (fun W:World=>qf2 (w:=W) (l.length:Int));rw[hPO] at PD;have hdl:(l.drop a).length=l.length-a:=ql0;have hnl:(zdc l).drop a=l.drop a++znr l.length:=by unfold zdc;rw[qop hwl]
   have HNL:=qrf hnl;have HCUT:=qrf hcut;have z0:=b.out.size;have HPL2:=qrf hpl;have HDL:=qrf hdl;clear hcut hPO hnl hpl hdl HPL;go_wp2_with (first
    |(refine zm7 rfl 24 (.tmp 30) (some (.tmp 31)) none none rfl (SL.out wr) ?_)
    |(refine zal elB rfl (.const (.slice none 0 0)) (.tmp 32) rfl (W:=w) (B:=w.heap.size) (base:=w.heap.size) (l:=[]) qru HCUT.out rfl rfl b.out (ql6 _) z0 (by omega) (by simp only[maxLen];omega) ?_
      intro A8 c8 w8 _ _ o8 g8 b8 _))
   have S8:=qrf (S.out.grown g8 (by simp[Value.ownBlock]));have D8:=qrf (D.out.grown g8 (by simp[Value.ownBlock]));rw[qmx,qmy] at o8;have O8:=qrf o8;have B8:=qrf b8;clear g8 o8 b8 z0 S D;refine(PD.out _).mono ?_;rintro e w9 ⟨A9,n9,c9,rfl,o9,b9⟩;have r9:=o9.reads;obtain rfl:=r9.len;have o89:=O8.out.later b9;have S9:=qrf (S8.out.below b9 S8.out.lt);have D9:=qrf (D8.out.below b9 D8.out.lt);have b09:=qr0 B8.out b9;have z9:=b09.size;have hsum:l.length-a+(znr l.length).length<=10000100:=by have:=HPL2.out;omega
   clear o9 PD SL HCUT O8 B8 S8 D8 b9
   go_wp2_with (refine zal elB rfl (.tmp 33) (.tmp 36) rfl (W:=w) (B:=w.heap.size) (base:=w.heap.size) o89 r9 rfl rfl b09 (ql6 _) z9 (by omega) (by simp only[maxLen];omega) ?_
                intro A10 c10 w10 hc10 _ o10 g10 b10 _)
   have S10:=qrf (S9.out.push o89 g10 (by decide));have D10:=qrf (D9.out.push o89 g10 (by decide));rw[<-HNL.out,show(zdc l).drop a=(zdc l).drop (64*k) by rw[HK.out]] at o10;have T10:=qrf (qry o10);have B10:=qrf b10;have HM:=qrf (show l.length-a+(znr l.length).length=(zdc l).length-64*k by rw[HML.out,<-HK.out];omega);have HKL:=qrf (show 64*k<=(zdc l).length by rw[HML.out,<-HK.out];omega);have hs2:l.length-a+(znr l.length).length<=c10:=by omega
   have hcm:c10<=maxLen:=by assumption
   generalize l.length-a+(znr l.length).length=m10 at*;clear o89 r9 g10 b09 b10 z9 o10 S9 D9 HNL hsum hwl HPL2 HDL;have HM2:=qrf (show m10=(zdc l).length-64*k from HM.out);clear HM HA HK;go_loopw [6] (fun v wr=>∃(k m c:Nat) (A:Option Addr),Hid (m=(zdc l).length-64*k)/\Hid (64*k<=(zdc l).length)/\v= .slice A m c/\m<=c/\Hid (TR wr 5 A m (zah .u8 ((zdc l).drop (64*k))))/\Hid (Blk wr G 98 (za2 (zek (zdc l) k)))/\Hid (Blk wr w.heap.size 35 (zap .u8 zad).toArray)/\Hid (New w wr)) (fun v _=>lenOf v)
   case atStart=>exact⟨k,m10,c10,A10,HM2,HKL,rfl,hs2,T10,S10,D10,B10⟩
   case round=>
    clear HM2 HKL T10 S10 D10 B10;obtain⟨k,m,c,A,HM,HKL,rfl,hmc,T,S,D,b⟩:=hrel;by_cases hlt:64<=m
    ·have hm2:64*k+64<=(zdc l).length:=by have:=HM.out;have:=HKL.out;omega
     have hb64:(zos (zdc l) k).length=64:=zss hm2;have hb8:=zxk (k:=k) HM8.out;have SLH:=qrf (fun W:World=>show(Instr.sliceAt 24 (.slice A m c) none (some (.int .i64 64)) none).run Tryz.prog W= .ok (.slice A 64 c) W from qf4 sB zB A m c 64 (by omega) W);have SLL:=qrf (fun W:World=>show(Instr.sliceAt 24 (.slice A m c) (some (.int .i64 64)) none none).run Tryz.prog W= .ok (.slice (if c=64 then A else A.map (·.add 64)) (m-64) (c-64)) W from z5o sB zB A m c 64 hlt W);have hcut:=T.out.cut (k:=64) (cap:=c) hlt hmc;rw[zei,qoq,show 64*k+64=64*(k+1) by omega] at hcut;generalize(if c=64 then A else A.map (·.add 64))=A' at*;have HCUT:=qrf hcut;obtain⟨ad,rfl,_⟩:=T.out.1.2 (by omega);have CL:=qrf (fun(W:World) (hW:New wr W)=>show∀j v,(zah .u8 (zos (zdc l) k))[j]? =some v->W.cell? (ad.add j)=some v by have h2:=((T.out.below hW).1.take (k:=64) hlt);rw[qmd,ze2] at h2;obtain⟨ad2,e2,_,h3⟩:=h2.2 (by omega);obtain rfl:=qlj e2;exact h3)
     have HB64:=qrf hb64;have CP:=qrf (fun(W:World) (hW:New w W)=>zm4 (w:=W) (zek (zdc l) k) (zsr _ _) (zos (zdc l) k) hb64 hb8 (HC.out.new hW));have hst:zsp (zek (zdc l) k) (zos (zdc l) k)=zek (zdc l) (k+1):=rfl;rw[hst] at CP;have HM3:=qrf (show m-64=(zdc l).length-64*(k+1) by have:=HM.out;omega);have HKL3:=qrf (show 64*(k+1)<=(zdc l).length by omega);clear hb64 hb8 hcut hst hm2 HM HKL;go_wp2
     refine zcf New 6 [(0,0),(1,1),(1,2),(1,3),(0,4),(2,5),(2,6)]
      qrz qr0 (by kernel_rfl) (by kernel_rfl) (by kernel_rfl) (by kernel_rfl) ?_
     have hU:=qr0 b.out (qr1 wr);refine zco rfl rfl (v:= .agg (za2 (zek (zdc l) k))) (fun W hW=>zcg rfl (S.out.below (qr0 (qr1 wr) hW) S.out.lt) z5q rfl (i8w _)) ?_;simp only[Act.put,qoi,qn8,qoj];refine zb2 rfl rfl (v:=?_) (fun W=>?_) ?_;rotate_left
     ·go_simp<;> with_reducible rfl
     simp only[Act.put,qoi,qn8,qoj];refine zb2 rfl rfl (v:= .slice (some ad) 64 c) (fun W=>zl7 (SLH.out W)) ?_;simp only[Act.put,qoi,qn8,qoj];refine zb2 rfl rfl (v:= .pointer (some ad)) (fun W=>zm6 rfl z5p (ql6 _)) ?_;simp only[Act.put,qoi,qn8,qoj];refine zco rfl rfl (v:= .agg (zah .u8 (zos (zdc l) k)).toArray) (fun W hW=>zgs rfl (CL.out W (qr0 (qr1 wr) hW)) z5p rfl (qkd HB64.out)) ?_;simp only[Act.put,qoi,qn8,qoj];refine zbl rfl rfl (fun K hK=>?_);go_simp
     (with_reducible refine(CP.out _ hU).mono ?_)
     rintro e9 w9 ⟨rfl,c9⟩;refine hK _ _ (.inr (.inr c9)) ?_;clear hK;have hN:=qr0 (qr1 wr) c9;have S9:=S.out.below hN S.out.lt;have D9:=D.out.below hN D.out.lt;have T9:=HCUT.out.below hN;have b9:=qr0 hU c9;refine zbl rfl rfl (fun K hK=>?_);refine wp_store_row 98 (.tmp 3) (.tmp 46) rfl G (za2 (zek (zdc l) (k+1))) rfl rfl _ _ (zaf S9) (i8w _) rfl (zfe _) ?_;refine hK _ _ (.inr (.inl rfl)) ?_;clear hK;refine zfd ?_;have hF:=za3 (g:=G) w9 (za2 (zek (zdc l) (k+1)));have S10:=qrf (zau S9 (za2 (zek (zdc l) (k+1))));have D10:=qrf (D9.grown hF (by simp;omega));have T10:=qrf (T9.keep hF S9 (by decide));have B10:=qrf (qr6 b9 hF (by omega));clear S9 D9 T9 b9 hN hU hF CP CL SLH c9 HCUT;go_wp2_with (refine zm7 rfl 24 (.tmp 47) (some (.const (.int .i64 64))) none none rfl (SLL.out _) ?_)
     go_roundw
     case rel=>exact⟨k+1,m-64,c-64,A',HM3,HKL3,rfl,by omega,T10,S10,D10,B10⟩
     case measure=>simp[lenOf];omega
    ·have hk:zek (zdc l) k=zil l:=by
      unfold zil;congr 1
      have:=HM.out;have:=HKL.out;have:=HMM.out;omega
     rw[hk] at S;clear hk T HM HKL;obtain⟨W5,hW5⟩:∃W,W=wr.alloc (.cells (zap .u8 zad).toArray 35):=⟨_,rfl⟩;have c5:New wr W5:=by rw[hW5];exact(qq8 _ _).alloc (ql6 _) _
     have E5:Blk W5 wr.heap.size 35 (zap .u8 (zl6 ((zl5 (zil l)).take 0))).toArray:=by rw[hW5];exact qrv _ _ _
     have S5:=qrf (S.out.below c5 S.out.lt);have D5:=qrf (D.out.below c5 D.out.lt);have B5:=qrf (qr0 b.out c5);have HE5:=qrf E5;have hGE:G<wr.heap.size:=S.out.lt;have HW5:=qrf (show wr.alloc (.cells (zap .u8 zad).toArray 35)=W5 from hW5.symm);clear c5 E5 S D b hW5;go_wp2
     have hW:=HW5.out;rw[show(zap .u8 zad).toArray= qsy from rfl] at hW;rw[hW];clear hW HW5;have hE0:w.heap.size<wr.heap.size:=by have:=HE5.out.lt;omega
     generalize wr.heap.size=E at*;go_loopw [49] (fun i wr=>∃k:Nat,k<=32/\i= .int .i64 (k:Int)/\Hid (Blk wr E 35 (zap .u8 (zl6 ((zl5 (zil l)).take k))).toArray)/\Hid (Blk wr G 98 (za2 (zil l)))/\Hid (Blk wr w.heap.size 35 (zap .u8 zad).toArray)/\Hid (New w wr)) (fun i _=>32-(intOf i).toNat)
     case atStart=>exact⟨0,by omega,rfl,HE5,S5,D5,B5⟩
     case round=>
      clear HE5 S5 D5 B5;obtain⟨k,hk,rfl,T,S,D,b⟩:=hrel;by_cases hlk:k<32
      ·obtain⟨q,hq⟩:∃x,x=k/4:=⟨_,rfl⟩
       obtain⟨r4,hr4⟩:∃x,x=k%4:=⟨_,rfl⟩;obtain⟨sh,hsh⟩:∃x,x=24-r4*8:=⟨_,rfl⟩;have i1:(k:Int)/4=(q:Int):=by omega
       have i2:(k:Int).tdiv 4=(q:Int):=by rw[qor (by omega)];omega
       have i3:(k:Int)%4=(r4:Int):=by omega
       have i4:(k:Int).tmod 4=(r4:Int):=by rw[qni (by omega)];omega
       have i5:(24:Int)-(r4:Int)*8=(sh:Int):=by omega
       have j1:(q:Int)<8:=by omega
       have j2:(k:Int)<32:=by omega
       have s1:=S.out;rw[zm5] at s1;have c1:=zcr (i:=q) s1 (by simp[zks];omega);obtain⟨y,hy⟩:∃y,y=qf3 (zil l) k:=⟨_,rfl⟩;have v1:(zks (zil l)).getD q 0/2^sh%256=y:=by rw[hy,hsh,hr4,hq];rfl
       have htk:((zl5 (zil l)).take k).length=k:=by rw[ql2,zd8];omega
       have c2:=zcr (i:=k) T.out (by rw[zun (by rw[htk];omega)];exact hlk);have f2:=T.out.frozen k;have t3:=zi8 T.out (i:=k) y;have hset:=zuo (l:=(zl5 (zil l)).take k) (by rw[htk];exact hlk) y;rw[htk,hy,<-zum hlk,<-hy] at hset;rw[hset] at t3;have hF:Far E wr (wr.setCell ⟨E,k,none⟩ (.int .u8 y)):=zj6 _ _;have T3:=qrf t3;have S3:=qrf (S.out.grown hF (by simp;omega));have D3:=qrf (D.out.grown hF (by simp;omega));have B3:=qrf (qr6 b.out hF (by omega));generalize(zks (zil l)).getD q 0=x at*;have hs24:sh<=24:=by omega
       clear hq hr4 hsh s1 hy htk t3 hset hF T S D b;go_wp2
       go_roundw
       case rel=>exact⟨k+1,by omega,by go_num,T3,S3,D3,B3⟩
       case measure=>simp[intOf];omega
      ·obtain rfl:k=32:=by omega
       have t3:=T.out;rw[qm0 (by rw[zd8];omega),zrh (zd8 _)] at t3;have hz:(zap .u8 zad).toArray.size=(zap .u8 (zl5 (zil l))).toArray.size:=by simp[zap,zad,zd8]
       have H:=qrf (qok (zaf t3) (qok (zaf D.out) (qok (zxd (zd8 (zil l))) (qok hz (qok (zcs .u8 (zl5 (zil l))) (zau D.out (zap .u8 (zl5 (zil l))).toArray))))));have bE:=qr6 b.out (za3 (g:=w.heap.size) wr (zap .u8 (zl5 (zil l))).toArray) (ql6 _);have BE:=qrf bE;have hS:zl5 (zil l)=zi9 l:=rfl;rw[hS] at H BE;generalize(zap .u8 (zi9 l)).toArray=cs at*;clear t3 hz bE hS T S D b;go_wp2_with (first
        |(refine wpList_load_row rfl 35 (.tmp 7) rfl E rfl _ cs _ _ H.out.1 zbp rfl H.out.2.2.1 ?_)
        |(refine wpList_store_row rfl 35 (.tmp 2) (.tmp 65) rfl w.heap.size cs rfl rfl _ _ H.out.2.1 H.out.2.2.1 H.out.2.2.2.1 H.out.2.2.2.2.1 ?_))
       exact bodyPost_ret (results_cell_row rfl _ _ w.heap.size _ cs (0,0) _ rfl H.out.2.2.2.2.2 zbp rfl H.out.2.2.1) rfl ⟨rfl,BE.out⟩
end Go.Proofs.Y
namespace Go.Hm
open Go.RowKit Go.WideShapes Go.ChangeShapes
theorem zo0{C:Checked}{os:Os}{f:FuncId}{fn:Func}{s:ChangeSpec}{tb:TypeId}{H:Type}{enc:TypeId × Value->H}{laid:List (String × DataW Unit)}
 (own:ownKnob C.prog.godebug=none)(hl:laidOutB C.prog=true)(started:os.Started)(noInit:C.prog.inits.idxOf? f=none)(hfn:C.prog.funcs[f]? =some fn)
 (hrt:fn.resultTypes= #[tb])(htb:C.prog.underlying tb=some .bool)(hr:∀t∈fn.params.toList,C.prog.readableRec t=true/\t<C.prog.types.size)
 (hv:s.vars=[])(hs:∀ds:List (DataW H),ds.length=fn.params.size->s.fn H ds={results:=[.lit (.bool true)],args:=ds})
 (witness:∃(w:World) (tape:Tape) (i:Input),w.os=os/\(w.forCall tape i).Shaped C.prog/\i.vars=[]/\Input.okWide C.prog (w.forCall tape i) .any w.heap.size f i/\
  ((s.pre enc C.prog fn [] false (w.forCall tape i).memory i.args/\laidMetH C.prog laid (w.forCall tape i).memory)/\sizedMet enc C.prog fn (OpenSpec.ofChange s) false (w.forCall tape i).memory i.args)/\({}:Assume).holds C.prog (lone (Frame.enter C.prog f i.args .normal) [] (w.forCall tape i)))
 (contract:∀(W:World) (base:Nat) (args:Array Value) (ds:List (DataW H)) (ps:List MemPlace),
  (∀(j:Nat) t v,fn.params[j]? =some t->args[j]? =some v->Value.okWide C.prog W .any base t v)->
  DataW.TrodAll enc C.prog W 0 (fun _=>true) true fn.params.toList args.toList ds ps->(∀p∈ps,p.block<W.heap.size)->W.noneFrozen ps->
  (DataW.weightsEach C.prog fn.params.toList ds).all (· <=reachBytes)=true->laidMetH C.prog laid W->
  Calls C.prog f args W fun e W'=>e= .returned (.bool true)/\Below W.heap.size W W'):
 ReturnsInHanded {} C os f .any (fun w args=>(s.pre enc C.prog fn [] false w args/\laidMetH C.prog laid w)/\sizedMet enc C.prog fn (OpenSpec.ofChange s) false w args) (s.post enc C.prog fn false true false false):=by
 refine returnsInHanded_of_change_and (X:=fun w _=>laidMetH C.prog laid w) (fun _ _ _ hh h=>h.of_heap hh) own started noInit hfn witness ?_;intro W base args ds gs before hval hW _ hsz hL _;have hlt:∀p∈before,p.block<W.heap.size:=fun p hp=>hW.lt p hp
 obtain⟨p,q,hA,hV,rfl,hfz,_⟩:=id hW;rw[hv] at hV;obtain⟨rfl,rfl⟩:=trodVars_none hV;have hvt:s.plain.varTypes C.prog=[]:=by simp[ChangeSpec.plain,DataSpec.varTypes,hv]
 rw[hvt,qmg,qmg] at hsz;simp only[qmg] at hlt hfz;refine(contract W base args ds p hval hA hlt hfz hsz hL).mono fun e W' ⟨he,hb⟩=>⟨_,he,?_⟩
 have hdl:∀{ts:List TypeId} {vs:List Value} {ds:List (DataW H)} {ps:List MemPlace},DataW.TrodAll enc C.prog W 0 (fun _=>true) true ts vs ds ps->ds.length=ts.length:=by
  intro ts;induction ts with
  |nil=>intro vs ds ps h;obtain⟨_,rfl,_⟩:=trodAll_nil h;rfl
  |cons t ts ih=>intro vs ds ps h;obtain⟨v,vs',d,ds',p',q',_,rfl,_,_,h2⟩:=trodAll_cons h;simp[ih h2]
 exact qba hl hrt htb hr hv (by rw[qmg];exact hs ds (by simpa using hdl hA)) hW hb
end Go.Hm
namespace Go.Proofs.Y
open Go.RowKit Go.Hm
theorem zpj{w:World}{A:Option Addr}{c:Nat}{L:List Nat}(h:Reads w w.heap.size 1 A L.length (zah .u64 L))(hn:L.length<=9223372036854775806):
 Calls Tryz.prog 207 #[.slice A L.length c] w (zak (.int .i64 (st L:Nat)) w):=by
 go_enter Tryz.func207,Tryz.ntmps207
 go_wp2
 go_loopw [3] (fun i wr=>∃k:Nat,k<=L.length/\i= .int .i64 (k:Int)/\Hid (∀j,j<k->L.getD j 0=L.getD 0 0)/\Below w.heap.size w wr) (fun i _=>L.length-(intOf i).toNat)
 case atStart=>exact⟨0,by omega,rfl,qrf (fun j hj=>by omega),qq8 _ _⟩
 case round=>
  obtain⟨k,hk,rfl,hT,hb⟩:=hrel;by_cases hlt:k<L.length
  ·obtain⟨ad,rfl,hbk,hcell⟩:=(h.below hb).num hlt
   obtain⟨ad',e',hbk',hcell'⟩:=(h.below hb).num (i:=0) (by omega);injection e' with e';subst e';rw[zfp] at hcell';have h0:(0:Int)<(L.length:Int):=by omega
   by_cases he:L.getD k 0=L.getD 0 0
   ·have HT:=qrf (show∀j,j<k+1->L.getD j 0=L.getD 0 0 from fun j hj=>by
     by_cases hjk:j=k
     ·rw[hjk];exact he
     ·exact hT.out j (by omega))
    rw[he] at hcell;clear he hT;generalize L.getD 0 0=y at*;go_wp2
    go_quiet (fail)
    go_wp2
    go_roundw
    case rel=>exact⟨k+1,by omega,by go_num,HT,below_drewN hb _⟩
    case measure=>simp[intOf];omega
   ·have hst:=qrf (show st L=k from qcs (by omega) hT.out (.inr he))
    have hbe:(((L.getD k 0:Nat):Int)==((L.getD 0 0:Nat):Int))=false:=by rw[beq_eq_false_iff_ne];omega
    clear he hT;generalize L.getD k 0=y at*;generalize L.getD 0 0=z at*;go_wp2
    go_quiet (fail)
    go_wp2
    go_ret
    exact⟨by rw[hst.out];simp,below_drewN hb _⟩
  ·obtain rfl:k=L.length:=by omega
   have hst:=qrf (show st L=L.length from qcs (by omega) hT.out (.inl rfl));clear hT;go_wp2
   go_quiet (fail)
   go_wp2
   go_ret
   exact⟨by rw[hst.out];simp,below_drewN hb _⟩
theorem z7q{w:World}{A:Option Addr}{c:Nat}{L:List Nat}(h:Reads w w.heap.size 1 A L.length (zah .u64 L))(hn:L.length<=9223372036854775806):
 Calls Tryz.prog 191 #[.slice A L.length c] w (zak (.bool (decide (4<=st L))) w):=by
 have S:=qrf (zpj (c:=c) h hn);generalize st L=s at*;clear h;go_enter Tryz.func191,Tryz.ntmps191
 go_wp2_with fail
 refine S.out.mono ?_;rintro e w1 ⟨rfl,b1⟩;by_cases h4:4<=s
 ·have d:decide ((4:Int)<=(s:Int))=true:=decide_eq_true (by omega)
  rw[decide_eq_true h4];go_wp2
  go_ret
  exact⟨by simp[h4],b1⟩
 ·have d:decide ((4:Int)<=(s:Int))=false:=decide_eq_false (by omega)
  rw[decide_eq_false h4];go_wp2
  go_ret
  exact⟨by simp;omega,b1⟩
end Go.Proofs.Y
