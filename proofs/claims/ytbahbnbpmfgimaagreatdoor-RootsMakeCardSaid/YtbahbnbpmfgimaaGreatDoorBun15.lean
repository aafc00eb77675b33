import Derived.Test.YtbahbnbpmfgimaaGreatDoorBun12
import Derived.Test.YtbahbnbpmfgimaaGreatDoorBun14
set_option maxHeartbeats 2000000
set_option maxRecDepth 100000
namespace Go.Hm
open Go Go.RowKit
def z5s(l:List Nat):List Nat:=l++List.replicate (64-l.length) 0
theorem qa6{l:List Nat}(h:l.length<=64):(z5s l).length=64:=by simp[z5s];omega
theorem qa7{l:List Nat}(h:l.length<64)(x:Nat):(z5s l).set l.length x=z5s (l++[x]):=by unfold z5s;rw[qn5 _ _ (ql6 _),qn6,show 64-l.length=(64-(l++[x]).length)+1 by simp;omega,qn7,qn8];simp
theorem z5t{l:List Nat}(h:l.length=64):z5s l=l:=by simp[z5s,h]
theorem qa8{w:World}{g:Nat}{ty:TypeId}{l:List Nat}{k:IntKind}{i:Nat}(h:Blk w g ty (zah k l).toArray)(x:Nat):Blk (w.setCell ⟨g,i,none⟩ (.int k (x:Int))) g ty (zah k (l.set i x)).toArray:=by have:=h.set_ i (.int k (x:Int));simpa[zah,List.map_set] using this
theorem qf5(s:S8)(k i:Nat)(hi:i<4):qf3 s (4*k+i)=(zks s).getD k 0/2^(24-i*8)%256:=by unfold qf3;rw[show(4*k+i)/4=k by omega,show(4*k+i)%4=i by omega]
end Go.Hm
namespace Go.Proofs.Y
open Go.RowKit Go.Hm
theorem qa9{w:World}{A:Option Addr}{n c:Nat}{l:List Nat}(h:Reads w w.heap.size 1 A n (zah .u8 l))(h8:∀x∈l,x<256)(hn:n<=10000000):
 Calls Tryz.prog 105 #[.slice A n c] w (zak (.agg (zap .u8 (zi9 l)).toArray) w):=by
 obtain rfl:=h.len;have HR:=qrf h;have HM8:=qrf (z5m h8);have HML:=qrf (zst l);have HMM:=qrf (zzt l);have hPO:zzs (l.length:Int)=znr l.length:=by unfold zzs;rw[if_pos (by omega),qmt]
 have hpl:(znr l.length).length<=72:=by rw[zko];unfold zeu;omega
 have PD:=qrf (fun W:World=>qa4 (w:=W) (l.length:Int));rw[hPO] at PD;have HPL2:=qrf hpl;clear h h8 hPO hpl;obtain⟨W0,hW0⟩:∃W,W=(w.alloc (.cells (zap .u8 zad).toArray 35)).alloc (.cells #[] 5):=⟨_,rfl⟩;have e1:(w.alloc (.cells (zap .u8 zad).toArray 35)).heap.size=w.heap.size+1:=by simp
 have b0:New w W0:=by rw[hW0];exact((qq8 _ _).alloc (ql6 _) _).alloc (by simp) _
 have D0:Blk W0 w.heap.size 35 (zap .u8 zad).toArray:=by rw[hW0];exact(qrv _ _ _).alloc _
 have O0:Own W0 w.heap.size 5 (.slice (some ⟨w.heap.size+1,0,none⟩) 0 0) (zah .u8 []):=by rw[hW0,<-e1];exact(Own.empty _ _).base_le (by simp)
 have R0:=qrf (qsg HR.out b0);have HD0:=qrf D0;have HO0:=qrf O0;have z0:=b0.size;have HB0:=qrf b0;have HW0:=qrf (show W0=(w.alloc (.cells qsy 35)).alloc (.cells #[] 5) from hW0);have O0':=HO0.out;have R0':=R0.out;have b0':=HB0.out;rw[HW0.out] at O0' R0' b0' z0;clear hW0 e1 D0 O0 b0;go_enter Tryz.func105,Tryz.ntmps105
 go_wp2_with (refine zal elB rfl (.tmp 11) (.tmp 12) rfl (W:=w) (B:=w.heap.size) (base:=w.heap.size) O0' R0' rfl rfl b0' (ql6 _) z0 (by omega) (by simp only[maxLen];omega) ?_
              intro A8 c8 w8 _ _ o8 g8 b8 _)
 rw[qmx,qmy] at o8;rw[<-HW0.out] at g8;have D8:=qrf (HD0.out.push HO0.out g8 (by decide));have O8:=qrf o8;have B8:=qrf b8;clear O0' R0' b0' z0 g8 o8 b8 HO0 HD0 HB0 R0 HW0;refine(PD.out _).mono ?_;rintro e w9 ⟨A9,n9,c9,rfl,o9,b9⟩;have r9:=o9.reads;obtain rfl:=r9.len;have o89:=O8.out.later b9;have D9:=qrf (D8.out.below b9 D8.out.lt);have b09:=qr0 B8.out b9;have z9:=b09.size;have hsum:l.length+(znr l.length).length<=10000100:=by have:=HPL2.out;omega
 clear o9 PD O8 B8 D8 b9
 go_wp2_with (refine zal elB rfl (.tmp 13) (.tmp 16) rfl (W:=w) (B:=w.heap.size) (base:=w.heap.size) o89 r9 rfl rfl b09 (ql6 _) z9 (by omega) (by simp only[maxLen];omega) ?_
              intro A10 c10 w10 hc10 _ o10 g10 b10 _)
 have D10:=qrf (D9.out.push o89 g10 (by decide));rw[show l++znr l.length=zdc l from rfl] at o10;have T10:=qrf (qry o10);have B10:=qrf b10;have HM:=qrf (show l.length+(znr l.length).length=(zdc l).length from HML.out.symm);generalize l.length+(znr l.length).length=m at*;clear o89 r9 g10 b09 b10 z9 o10 D9 HPL2;refine(z17).mono ?_;rintro e w11 ⟨rfl,b11⟩;have T11:=qrf (T10.out.below b11);have D11:=qrf (D10.out.below b11 D10.out.lt);have B11:=qrf (qr0 B10.out b11);clear b11 T10 D10 B10;go_wp2_with (first|(refine wpList_store_row rfl 98 (.tmp 4) (.tmp 18) rfl w11.heap.size (za2 zfq) rfl rfl _ _ (heap_alloc_new _ _) (i8w _) rfl (zfe _) ?_;rw[zbb])|fail)
 obtain⟨W2,hW2⟩:∃W,W=w11.alloc (.cells (za2 zfq) 98):=⟨_,rfl⟩;have c2:New w11 W2:=by rw[hW2];exact(qq8 _ _).alloc (ql6 _) _
 have G2:Blk W2 w11.heap.size 98 (za2 (zek (zdc l) 0)):=by rw[hW2];exact qrv _ _ _
 have D2:=qrf (D11.out.below c2 D11.out.lt);have B2:=qrf (qr0 B11.out c2);have T2:=qrf (T11.out.below c2);have hG:w.heap.size<w11.heap.size:=D11.out.lt;have HG2:=qrf G2;rw[<-hW2];generalize w11.heap.size=G at*;clear hW2 c2 G2 T11 D11 B11;go_loopw [5] (fun i wr=>∃k a:Nat,Hid (a=64*k)/\a<=m/\i= .int .i64 (a:Int)/\Hid (TR wr 5 A10 m (zah .u8 (zdc l)))/\Hid (Blk wr G 98 (za2 (zek (zdc l) k)))/\Hid (Blk wr w.heap.size 35 (zap .u8 zad).toArray)/\Hid (New w wr)) (fun i _=>m-(intOf i).toNat)
 case atStart=>exact⟨0,0,qrf rfl,by omega,rfl,T2,HG2,D2,B2⟩
 case round=>
  clear T2 HG2 D2 B2;obtain⟨k,a,HA,ha,rfl,T,S,D,b⟩:=hrel;by_cases hlt:a+64<=m
  ·have hltI:(a:Int)+64<=(m:Int):=by omega
   have d1:decide ((a:Int)+64<=(m:Int))=true:=by simpa using hltI
   have hE0:G<wr.heap.size:=S.out.lt;obtain⟨W5,hW5⟩:∃W,W=wr.alloc (.cells (zah .u8 (z5s (((zdc l).drop a).take 0))).toArray 101):=⟨_,rfl⟩;have c5:New wr W5:=by rw[hW5];exact(qq8 _ _).alloc (ql6 _) _
   have E5:Blk W5 wr.heap.size 101 (zah .u8 (z5s (((zdc l).drop a).take 0))).toArray:=by rw[hW5];exact qrv _ _ _
   have HE5:=qrf E5;have S5:=qrf (S.out.below c5 S.out.lt);have D5:=qrf (D.out.below c5 D.out.lt);have T5:=qrf (T.out.below c5);have B5:=qrf (qr0 b.out c5);have HW5:=qrf (show W5=wr.alloc (.cells #[.int .u8 0,.int .u8 0,.int .u8 0,.int .u8 0,.int .u8 0,.int .u8 0,.int .u8 0,.int .u8 0,.int .u8 0,.int .u8 0,.int .u8 0,.int .u8 0,.int .u8 0,.int .u8 0,.int .u8 0,.int .u8 0,.int .u8 0,.int .u8 0,.int .u8 0,.int .u8 0,.int .u8 0,.int .u8 0,.int .u8 0,.int .u8 0,.int .u8 0,.int .u8 0,.int .u8 0,.int .u8 0,.int .u8 0,.int .u8 0,.int .u8 0,.int .u8 0,.int .u8 0,.int .u8 0,.int .u8 0,.int .u8 0,.int .u8 0,.int .u8 0,.int .u8 0,.int .u8 0,.int .u8 0,.int .u8 0,.int .u8 0,.int .u8 0,.int .u8 0,.int .u8 0,.int .u8 0,.int .u8 0,.int .u8 0,.int .u8 0,.int .u8 0,.int .u8 0,.int .u8 0,.int .u8 0,.int .u8 0,.int .u8 0,.int .u8 0,.int .u8 0,.int .u8 0,.int .u8 0,.int .u8 0,.int .u8 0,.int .u8 0,.int .u8 0] 101) from hW5);clear hW5 c5 E5 T S D b;go_wp2
   rw[<-HW5.out];clear HW5;generalize wr.heap.size=E at*;go_loopw [7] (fun i wr=>∃j:Nat,j<=64/\i= .int .i64 (j:Int)/\Hid (Blk wr E 101 (zah .u8 (z5s (((zdc l).drop a).take j))).toArray)/\Hid (TR wr 5 A10 m (zah .u8 (zdc l)))/\Hid (Blk wr G 98 (za2 (zek (zdc l) k)))/\Hid (Blk wr w.heap.size 35 (zap .u8 zad).toArray)/\Hid (New w wr)) (fun i _=>64-(intOf i).toNat)
   case atStart=>exact⟨0,by omega,rfl,HE5,T5,S5,D5,B5⟩
   case round=>
    clear HE5 T5 S5 D5 B5;obtain⟨j,hj,rfl,X,T,S,D,b⟩:=hrel;by_cases hlj:j<64
    ·obtain⟨q,hq⟩:∃x,x=a+j:=⟨_,rfl⟩
     have i1:(a:Int)+(j:Int)=(q:Int):=by omega
     have hqm:q<m:=by omega
     obtain⟨ad,hA10,_,c1⟩:=T.out.1.num (i:=q) hqm;have htk:(((zdc l).drop a).take j).length=j:=by rw[ql2,ql0,<-HM.out];omega
     have c2:=zhc (i:=j) X.out (by rw[qa6 (by omega)];exact hlj);have f2:=X.out.frozen j;have hset:=qa7 (l:=((zdc l).drop a).take j) (by omega) ((zdc l).getD q 0);have hsn:((zdc l).drop a).take (j+1)=((zdc l).drop a).take j++[(zdc l).getD q 0]:=by
      rw[zae _ j 0 (by rw[ql0,<-HM.out];omega)];congr 2
      rw[qnp,ql1,<-hq,<-qnp]
     rw[htk,<-hsn] at hset;have t3:=qa8 X.out (i:=j) ((zdc l).getD q 0);rw[hset] at t3;have hF:Far E wr (wr.setCell ⟨E,j,none⟩ (.int .u8 (((zdc l).getD q 0:Nat):Int))):=zj6 _ _;have X3:=qrf t3;have T3:=qrf (T.out.keep hF X.out (by decide));have S3:=qrf (S.out.grown hF (by simp;omega));have D3:=qrf (D.out.grown hF (by simp;omega));have B3:=qrf (qr6 b.out hF (by omega));generalize(zdc l).getD q 0=x at*;have HA10:=qrf hA10;have j2:(j:Int)<64:=by omega
     clear hq htk hset hsn t3 hF T S D b X hA10;rw[HA10.out];go_wp2
     rw[<-HA10.out];go_roundw
     case rel=>exact⟨j+1,by omega,by go_num,X3,T3,S3,D3,B3⟩
     case measure=>simp[intOf];omega
    ·have hj64:j=64:=by omega
     have hb:(zos (zdc l) k).length=64:=zss (by rw[<-HA.out,<-HM.out];omega);have hx:z5s (((zdc l).drop a).take j)=zos (zdc l) k:=by rw[hj64,HA.out];exact z5t hb
     have x1:=X.out;rw[hx] at x1;have X1:=qrf x1;have HBL:=qrf hb;have hst:zsp (zek (zdc l) k) (zos (zdc l) k)=zek (zdc l) (k+1):=rfl;have CP:=qrf (fun(W:World)=>zsq (w:=W) (zek (zdc l) k) (zsr _ _) (zos (zdc l) k) hb (zxk HM8.out));rw[hst] at CP;have hi:=qkd hb;have HI:=qrf (show(Tryz.prog.info? 101).map (·.size)=some (zah .u8 (zos (zdc l) k)).toArray.size by rw[qmz];exact hi);clear hj64 hb hx x1 X hst hi;go_wp2_with (first
      |(refine wpList_load_row rfl 98 (.tmp 4) rfl G rfl _ (za2 (zek (zdc l) k)) _ _ (zaf S.out) z5q rfl (i8w _) ?_)
      |(refine wpList_load_row rfl 101 (.tmp 6) rfl E rfl _ (zah .u8 (zos (zdc l) k)).toArray _ _ (zaf X1.out) z5p rfl HI.out ?_))
     (with_reducible refine(CP.out _).mono ?_)
     rintro e9 w9 ⟨rfl,c9⟩;have S9:=S.out.below c9 S.out.lt;have D9:=D.out.below c9 D.out.lt;have T9:=T.out.below c9;have b9:=qr0 b.out c9;have hF:=za3 (g:=G) w9 (za2 (zek (zdc l) (k+1)));have S10:=qrf (zau S9 (za2 (zek (zdc l) (k+1))));have D10:=qrf (D9.grown hF (by simp;omega));have T10:=qrf (T9.keep hF S9 (by decide));have B10:=qrf (qr6 b9 hF (by omega));have HS9:=qrf S9;obtain⟨a2,ha2⟩:∃x,x=a+64:=⟨_,rfl⟩;have HA3:=qrf (show a2=64*(k+1) by rw[ha2,HA.out];omega);have e4:(a:Int)+64=(a2:Int):=by omega
     have hle:a2<=m:=by omega
     clear S9 D9 T9 b9 hF c9 CP X1 S D T b HI ha2;go_wp2_with (refine wpList_store_row rfl 98 (.tmp 4) (.tmp 40) rfl G (za2 (zek (zdc l) (k+1))) rfl rfl _ _ (zaf HS9.out) (i8w _) rfl (zfe _) ?_)
     go_roundw
     case rel=>exact⟨k+1,a2,HA3,hle,rfl,T10,S10,D10,B10⟩
     case measure=>simp[intOf];omega
  ·have hltI: ¬(a:Int)+64<=(m:Int):=by omega
   have d1:decide ((a:Int)+64<=(m:Int))=false:=by simpa using hltI
   have hk:zek (zdc l) k=zil l:=by
    unfold zil;congr 1
    have:=HM.out;have:=HA.out;have:=HMM.out;omega
   rw[hk] at S;obtain⟨W5,hW5⟩:∃W,W=wr.alloc (.cells (zap .u8 (zl6 ((zl5 (zil l)).take 0))).toArray 35):=⟨_,rfl⟩;have c5:New wr W5:=by rw[hW5];exact(qq8 _ _).alloc (ql6 _) _
   have E5:Blk W5 wr.heap.size 35 (zap .u8 (zl6 ((zl5 (zil l)).take 0))).toArray:=by rw[hW5];exact qrv _ _ _
   have hE0:G<wr.heap.size:=S.out.lt;have HE5:=qrf E5;have S5:=qrf (S.out.below c5 S.out.lt);have D5:=qrf (D.out.below c5 D.out.lt);have B5:=qrf (qr0 b.out c5);have HW5:=qrf (show W5=wr.alloc (.cells qsy 35) from hW5);clear hk hW5 c5 E5 T S D b HA hlt hltI;go_wp2
   rw[<-HW5.out];clear HW5 d1;generalize wr.heap.size=E at*;go_loopw [9] (fun i wr=>∃k:Nat,k<=8/\i= .int .i64 (k:Int)/\Hid (Blk wr E 35 (zap .u8 (zl6 ((zl5 (zil l)).take (4*k)))).toArray)/\Hid (Blk wr G 98 (za2 (zil l)))/\Hid (Blk wr w.heap.size 35 (zap .u8 zad).toArray)/\Hid (New w wr)) (fun i _=>8-(intOf i).toNat)
   case atStart=>exact⟨0,by omega,rfl,HE5,S5,D5,B5⟩
   case round=>
    clear HE5 S5 D5 B5;obtain⟨k,hk,rfl,T,S,D,b⟩:=hrel;by_cases hlk:k<8
    ·have d2:decide ((k:Int)<8)=true:=by simp;omega
     go_wp2
     go_loopw [10] (fun i wr=>∃j:Nat,j<=4/\i= .int .i64 (j:Int)/\Hid (Blk wr E 35 (zap .u8 (zl6 ((zl5 (zil l)).take (4*k+j)))).toArray)/\Hid (Blk wr G 98 (za2 (zil l)))/\Hid (Blk wr w.heap.size 35 (zap .u8 zad).toArray)/\Hid (New w wr)) (fun i _=>4-(intOf i).toNat)
     case atStart=>exact⟨0,by omega,rfl,T,S,D,b⟩
     case round=>
      clear T S D b;obtain⟨j,hj,rfl,T,S,D,b⟩:=hrel;by_cases hlj:j<4
      ·obtain⟨q,hq⟩:∃x,x=4*k+j:=⟨_,rfl⟩
       obtain⟨sh,hsh⟩:∃x,x=24-j*8:=⟨_,rfl⟩;have i1:(4:Int)*(k:Int)+(j:Int)=(q:Int):=by omega
       have i5:(24:Int)-8*(j:Int)=(sh:Int):=by omega
       have j1:(k:Int)<8:=by omega
       have j2:(q:Int)<32:=by omega
       have s1:=S.out;rw[zm5] at s1;have c1:=zcr (i:=k) s1 (by simp[zks];omega);obtain⟨y,hy⟩:∃y,y=qf3 (zil l) q:=⟨_,rfl⟩;have v1:(zks (zil l)).getD k 0/2^sh%256=y:=by rw[hy,hq,qf5 _ _ _ hlj,hsh]
       have t0:=T.out;rw[<-hq] at t0;have htk:((zl5 (zil l)).take q).length=q:=by rw[ql2,zd8];omega
       have c2:=zcr (i:=q) t0 (by rw[zun (by rw[htk];omega)];omega);have f2:=t0.frozen q;have t3:=zi8 t0 (i:=q) y;have hset:=zuo (l:=(zl5 (zil l)).take q) (by rw[htk];omega) y;rw[htk,hy,<-zum (by omega),<-hy] at hset;rw[hset,show q+1=4*k+(j+1) by omega] at t3;have hF:Far E wr (wr.setCell ⟨E,q,none⟩ (.int .u8 y)):=zj6 _ _;have T3:=qrf t3;have S3:=qrf (S.out.grown hF (by simp;omega));have D3:=qrf (D.out.grown hF (by simp;omega));have B3:=qrf (qr6 b.out hF (by omega));generalize(zks (zil l)).getD k 0=x at*;have hs24:sh<=24:=by omega
       clear hq hsh s1 hy htk t3 t0 hset hF T S D b;go_wp2
       go_roundw
       case rel=>exact⟨j+1,by omega,by go_num,T3,S3,D3,B3⟩
       case measure=>simp[intOf];omega
      ·have t0:=T.out
       rw[show 4*k+j=4*(k+1) by omega] at t0;have T3:=qrf t0;clear t0 T;go_wp2
       go_roundw
       case rel=>exact⟨k+1,by omega,by go_num,T3,S,D,b⟩
       case measure=>simp[intOf];omega
    ·have t3:=T.out
     rw[qm0 (by rw[zd8];omega),zrh (zd8 _)] at t3;have hz:(zap .u8 zad).toArray.size=(zap .u8 (zl5 (zil l))).toArray.size:=by simp[zap,zad,zd8]
     have H:=qrf (qok (zaf t3) (qok (zaf D.out) (qok (zxd (zd8 (zil l))) (qok hz (qok (zcs .u8 (zl5 (zil l))) (zau D.out (zap .u8 (zl5 (zil l))).toArray))))));have bE:=qr6 b.out (za3 (g:=w.heap.size) wr (zap .u8 (zl5 (zil l))).toArray) (ql6 _);have BE:=qrf bE;have hS:zl5 (zil l)=zi9 l:=rfl;rw[hS] at H BE;generalize(zap .u8 (zi9 l)).toArray=cs at*;clear t3 hz bE hS T S D b;go_wp2_with (first
      |(refine wpList_load_row rfl 35 (.tmp 8) rfl E rfl _ cs _ _ H.out.1 zbp rfl H.out.2.2.1 ?_)
      |(refine wpList_store_row rfl 35 (.tmp 2) (.tmp 63) rfl w.heap.size cs rfl rfl _ _ H.out.2.1 H.out.2.2.1 H.out.2.2.2.1 H.out.2.2.2.2.1 ?_))
     exact bodyPost_ret (results_cell_row rfl _ _ w.heap.size _ cs (0,0) _ rfl H.out.2.2.2.2.2 zbp rfl H.out.2.2.1) rfl ⟨rfl,BE.out⟩
end Go.Proofs.Y
namespace Go.Hm
open Go Go.RowKit Go.WideShapes Go.ChangeShapes Go.Deep
section
variable{H:Type}{enc:TypeId × Value->H}{P:Program}{W:World}{t e:TypeId}{cs:List Value}{n:Nat}
def zf3(P:Program)(t:TypeId):Array Field:=match P.underlying t with|some (.struct fs)=>fs|_=> #[]
theorem Held.part(h:Held enc P W t cs)(hs:P.underlying t=some (.struct (zf3 P t)))(i off n:Nat){ft:TypeId}(hf:((zf3 P t)[i]?.map fun f=>(f.type,f.offset))=some (ft,off))(hn:P.cellsOf ft=n):Held enc P W ft ((cs.drop off).take n):=by
 obtain⟨_,hall⟩:=h.field hs;cases hfi:(zf3 P t)[i]? with
 |none=>rw[hfi] at hf;cases hf
 |some f=>
  rw[hfi] at hf;simp only[qo5,qll,qlk] at hf;obtain⟨h1,h2⟩:=hf;have:=hall i f hfi;rw[h1,h2,hn] at this;exact this
end
open Go Go.RowKit
def zqx(p:List Nat):List Nat:=low p.length 8++p
def zc2(s:List Nat)(L:List (List Nat)):List Nat:=s.length::(s++L.length::L.flatMap zqx)
def za5(s:List Nat)(L:List (List Nat)):Option (List Nat):=if 1<=s.length/\s.length<=255/\L.length<=255 then some (zc2 s L) else none
theorem z5y(p:List Nat):(zqx p).length=8+p.length:=by simp[zqx,zbe]
theorem qbc{p:List Nat}(h:∀x∈p,x<256):∀x∈zqx p,x<256:=by
 intro x hx;rcases qnd.1 hx with hx|hx
 ·exact zgf _ _ x hx
 ·exact h x hx
theorem qbd{L:List (List Nat)}(h:∀p∈L,∀x∈p,x<256):∀x∈L.flatMap zqx,x<256:=by intro x hx;obtain⟨p,hp,hx⟩:=qov.1 hx;exact qbc (h p hp) x hx
theorem zfr{s:List Nat}{L:List (List Nat)}{f:List Nat}(hs:∀x∈s,x<256)(hL:∀p∈L,∀x∈p,x<256)(h:za5 s L=some f):∀x∈f,x<256:=by
 unfold za5 at h;split at h
 ·rename_i hc
  obtain rfl:=qlj h;intro x hx;simp only[zc2,qnu,qnd] at hx;rcases hx with rfl|hx|rfl|hx
  ·omega
  ·exact hs x hx
  ·omega
  ·exact qbd hL x hx
 ·cases h
theorem z5z(L:List (List Nat)):(L.flatMap zqx).length=8*L.length+(L.map List.length).sum:=by
 induction L with
 |nil=>rfl
 |cons p L ih=>rw[qpe,qmv,ih,z5y,qm9,qmp,qpf];omega
theorem z18(s:List Nat)(L:List (List Nat)):(zc2 s L).length=2+s.length+8*L.length+(L.map List.length).sum:=by simp only[zc2,qm9,qmv,z5z];omega
def zdj(s:List Nat)(L:List (List Nat)):List Int:=((za5 s L).map zi9).getD (List.replicate 32 0)
theorem zfs(s:List Nat)(L:List (List Nat)):(zdj s L).length=32:=by
 unfold zdj;cases za5 s L with
 |none=>simp
 |some f=>exact zd8 _
abbrev zcx:=Option Addr × Nat × List Nat
def zdr(d:zcx):List Value:=[.slice d.1 d.2.2.length d.2.1]
def PartsIn(w:World)(D:List zcx):Prop:=∀d∈D,Reads w w.heap.size 1 d.1 d.2.2.length (zah .u8 d.2.2)/\d.2.2.length<=d.2.1/\d.2.1<=9223372036854775807
theorem PartsIn.later{w w':World}{D:List zcx}(h:PartsIn w D)(hb:New w w'):PartsIn w' D:=fun d hd=>⟨qsg (h d hd).1 hb,(h d hd).2⟩
theorem PartsIn.at_{w:World}{D:List zcx}(h:PartsIn w D){k:Nat}(hk:k<D.length):Reads w w.heap.size 1 (D.getD k (none,0,[])).1 (D.getD k (none,0,[])).2.2.length (zah .u8 (D.getD k (none,0,[])).2.2)/\(D.getD k (none,0,[])).2.2.length<=(D.getD k (none,0,[])).2.1/\(D.getD k (none,0,[])).2.1<=9223372036854775807:=by refine h _ ?_;rw[qnp,qlx hk];exact qml hk
def bytesOf(D:List zcx):List (List Nat):=D.map fun d=>d.2.2
theorem zby(D:List zcx):(bytesOf D).length=D.length:=by simp[bytesOf]
theorem zff(D:List zcx)(k:Nat):(bytesOf D).getD k []=(D.getD k (none,0,[])).2.2:=by unfold bytesOf;rw[qnp,qou,qnp];cases D[k]? <;> rfl
structure RowsAt(w:World)(A:Option Addr)(n c:Nat)(D:List zcx):Prop where
 row:Reads w w.heap.size 1 A n (recs zdr D)
 parts:PartsIn w D
 cap:n<=c
theorem RowsAt.later{w w':World}{A:Option Addr}{n c:Nat}{D:List zcx}(h:RowsAt w A n c D)(hb:New w w'):RowsAt w' A n c D:=⟨qsg h.row hb,h.parts.later hb,h.cap⟩
theorem RowsAt.len{w:World}{A:Option Addr}{n c:Nat}{D:List zcx}(h:RowsAt w A n c D):n=D.length:=by have:=h.row.1;rw[zaz (sz:=1) (fun _=>rfl)] at this;omega
open Go Go.RowKit
theorem RowsAt.at_{w:World}{A:Option Addr}{n c:Nat}{D:List zcx}(h:RowsAt w A n c D){k:Nat}(hk:k<D.length):
 ∃ad,A=some ad/\ad.block<w.heap.size/\w.cell? (ad.add k)=some (.slice (D.getD k (none,0,[])).1 (D.getD k (none,0,[])).2.2.length (D.getD k (none,0,[])).2.1):=by
 obtain⟨ad,u,e,hb,hu,hc⟩:=h.row.at_ (k:=k) (by rw[h.len];exact hk);have:=zot (f:=zdr) (sz:=1) (fun _=>rfl) D (none,0,[]) k 0 hk (by omega);rw[qmd,qph] at this;rw[this] at hu;obtain rfl:=qlj hu;exact⟨ad,e,hb,hc⟩
def zem(L:List (List Nat)):Nat:=(L.map List.length).sum
theorem z51(L:List (List Nat))(p:List Nat):zem (L++[p])=zem L+p.length:=by simp[zem]
theorem zgt(L:List (List Nat))(k:Nat):zem (L.take k)<=zem L:=by
 have e:zem L=zem (L.take k)+zem (L.drop k):=by unfold zem;rw[<-qpi,<-qpj,qoz]
 omega
theorem zkv{L:List (List Nat)}{k:Nat}(hk:k<L.length):zem (L.take (k+1))=zem (L.take k)+(L.getD k []).length:=by rw[zae _ k [] hk,z51]
theorem qgd{L:List (List Nat)}{M:Nat}(h:∀p∈L,p.length<=M):zem L<=L.length*M:=by
 induction L with
 |nil=>simp[zem]
 |cons p L ih=>
  have h1:=ih fun q hq=>h q (by simp[hq])
  have h2:=h p (by simp);simp only[zem,qmp,qpf,qm9,qn2] at*;omega
def qj7(L:List (List Nat)):Bool:=decide (L.length<=260/\zem L<=1500)
theorem zgu{L:List (List Nat)}{k:Nat}(hk:k<L.length):L.getD k []∈L:=by rw[qnp,qlx hk];exact qml hk
end Go.Hm
namespace Go.Proofs.Y
open Go.RowKit Go.Hm
theorem qbf{w:World}{A:Option Addr}{n c:Nat}{D:List zcx}(h:RowsAt w A n c D)(hn:n<=9223372036854775806)(hl:∀p∈bytesOf D,p.length<=140737488351232):
 Calls Tryz.prog 8 #[.slice A n c] w (zcv (.bool (qj7 (bytesOf D))) w):=by
 obtain rfl:=h.len;have HR:=qrf h;have HL:=qrf hl;have HB:=qrf (zby D);clear h hl;go_enter Tryz.func8,Tryz.ntmps8
 go_wp2
 go_loop [3,4] (fun s i=>∃(k:Nat) (m:Int),k<=D.length/\i= .int .i64 (k:Int)/\s= .int .i64 m/\Hid (D.length<=260->m=(zem ((bytesOf D).take k):Nat))) (fun _ i=>D.length-(intOf i).toNat)
 case atStart=>exact⟨0,0,by omega,rfl,rfl,qrf fun _=>by simp[zem]⟩
 case round=>
  obtain⟨k,m,hk,rfl,rfl,HM⟩:=hrel;by_cases hlt:k<D.length
  ·obtain⟨ad,rfl,hb,hc⟩:=HR.out.at_ hlt
   have e1:=zff D k;generalize D.getD k (none,0,[])=d at*;have HM2:Hid (D.length<=260->wrap64 (m+(d.2.2.length:Int))=(zem ((bytesOf D).take (k+1)):Nat)):=qrf fun h2=>by have h3:=HM.out h2;have h4:=zkv (L:=bytesOf D) (k:=k) (by rw[HB.out];exact hlt);rw[e1] at h4;have h5:=qgd HL.out;have h6:=zgt (bytesOf D) (k+1);have h7:=ql4 140737488351232 h2;rw[HB.out] at h5;rw[h4,h3];unfold wrap64;rw[h4] at h6;omega
   clear e1;go_wp2
   go_round
   case rel=>exact⟨k+1,_,by omega,by go_num,rfl,HM2⟩
   case measure=>simp[intOf];omega
  ·obtain rfl:k=D.length:=by omega
   have hm:=HM.out;rw[qm0 (by rw[HB.out];omega)] at hm;have E:Hid (qj7 (bytesOf D)=(decide (D.length<=260)&&decide (m<=1500))):=qrf (by
    unfold qj7;rw[HB.out];by_cases h2:D.length<=260
    ·rw[hm h2]
     simp only[h2,true_and,decide_true,qpk];exact decide_eq_decide.2 (by omega)
    ·simp[h2])
   clear hm HM;by_cases h2:D.length<=260
   ·have d1:decide (D.length<=260)=true:=by simpa using h2
    have d2:decide ((D.length:Int)<=260)=true:=by simp;omega
    go_wp2
    go_ret
    exact⟨by rw[E.out,d1];simp,rfl⟩
   ·have d1:decide (D.length<=260)=false:=by simpa using h2
    have d2:decide ((D.length:Int)<=260)=false:=by simp;omega
    go_wp2
    go_ret
    exact⟨by rw[E.out,d1];simp,rfl⟩
end Go.Proofs.Y
set_option maxRecDepth 100000
namespace Go.Proofs.Y
open Go.RowKit Go.Hm Go.WideShapes Go.ChangeShapes
section
variable{H:Type}{enc:TypeId × Value->H}{W:World}{base:Nat}{v:Value}{d:DataW H}{ps:List MemPlace}
theorem qij(hval:Value.okWide Tryz.prog W .any base 24 v)(h:DataW.Trod enc Tryz.prog W 0 (fun _=>true) true 24 v d ps)(hlt:∀p∈ps,p.block<W.heap.size)(hw:∀n∈d.weights Tryz.prog 24,n<=reachBytes):
 ∃A c,∃l:List Nat,v= .slice A l.length c/\l.length<=c/\c<=140737488351232/\Reads W W.heap.size 1 A l.length (zah .u8 l)/\ ∀x∈l,x<256:=by
 obtain⟨A,c,l,h1,h2,_,h4,h5,h6⟩:=z5u (k:= .u8) (sz:=1) elB.ht (by kernel_rfl) (by kernel_rfl) rfl (by kernel_rfl) hval h hlt hw;exact⟨A,c,l,h1,h2,by unfold reachBytes at h4;omega,h5,fun x hx=>by have:=h6 x hx;simp[IntKind.max,IntKind.signed,IntKind.bits] at this;omega⟩
end
end Go.Proofs.Y
set_option maxRecDepth 100000
namespace Go.Hm
open Go Go.RowKit
abbrev ze9:=Option Addr × Nat × List zab
def zle(d:ze9):List Value:=[.slice d.1 d.2.2.length d.2.1]
def CellFine(c:zab):Prop:=(c.2.2.1.length<=140737488351232/\ ∀z∈c.2.2.1,z<256)/\(-9223372036854775808<=c.2.1/\c.2.1<=9223372036854775807)/\(-9223372036854775808<=c.2.2.2.1/\c.2.2.2.1<=9223372036854775807)/\(-9223372036854775808<=c.2.2.2.2/\c.2.2.2.2<=9223372036854775807)
end Go.Hm
namespace Go.Proofs.Y
open Go.RowKit Go.Hm Go.WideShapes Go.ChangeShapes
open Go.RowKit Go.Hm
def zmi(t:Int)(l:List zab):Option (List Nat):=
 match plO t (zin l).1 with
 |none=>none
 |some V=>if l.length<=65536 then some (vp (zin l).1.length++vp V.length++V++z0p (zin l).2) else none
structure IsDic(t:Int)(b:List Nat)(n:Int)(o:Option (List zab)):Prop where
 sound:∀l,o=some l->(l.length:Int)=n/\zmi t l=some b/\ ∀c∈l,zat c
 compl:∀l,(∀c∈l,zat c)->(l.length:Int)=n->zmi t l=some b->o=some l
theorem IsDic.uniq{t:Int}{b:List Nat}{n:Int}{o p:Option (List zab)}(h:IsDic t b n o)(k:IsDic t b n p):o=p:=by
 cases o with
 |some l=>obtain⟨a,b,c⟩:=h.sound l rfl;exact(k.compl l c a b).symm
 |none=>
  cases p with
  |none=>rfl
  |some l=>obtain⟨a,b,c⟩:=k.sound l rfl;exact h.compl l c a b
theorem zpi{l:List zab}(hl:l.length<=65536):∀x∈(zin l).2,x<=18446744073709551615:=fun x hx=>by have:=(zpa l).lt x hx;have:=ztf l;omega
theorem z8d{t:Int}{b:List Nat}{n:Int}(h: ¬(0<=t/\t<=3/\0<=n/\n<=65536)):IsPl zat t b n none:=
 ⟨fun l e=>(by cases e),fun l _ hl hp=>by have:=(plOk_iff.1 (plO_iff.1 hp).1).1;omega⟩
theorem zym{w:World}{A:Option Addr}{c m:Nat}{b:List Nat}{t n:Int}(h:Reads w w.heap.size 1 A m (zah .u8 b))(h8:∀x∈b,x<256)(hm:m<=140737488351232):
 Calls Tryz.prog 154 #[.int .i64 t,.slice A m c,.int .i64 n] w (qkz t b n w):=by
 by_cases hk:0<=t/\t<=3/\0<=n/\n<=65536
 ·obtain⟨n,rfl⟩:=qn1 hk.2.2.1
  by_cases h1:t=1
  ·subst h1
   have KN:=zlb (w:=w) (t:=1) (n:=(n:Int));rw[decide_eq_true hk] at KN;have KN:=qrf KN;have U:=qrf (zpp (c:=c) (n:=n) h h8 hm (by omega));have HI:=qrf (zvu (n:=(n:Int)) h8);clear h h8 hk;generalize(zfz b 1 (n:Int)).map (fun l=>l.map zvt)=O at*;go_enter Tryz.func154,Tryz.ntmps154
   go_wp2_with fail
   refine KN.out.mono ?_;rintro e w1 ⟨rfl,rfl⟩;go_wp2_with fail
   refine U.out.mono ?_;intro e w2 h2;cases O with
   |none=>
    obtain⟨rfl,b2⟩:=h2;go_wp2_with fail
    go_ret2
    exact⟨none,HI.out,rfl,b2⟩
   |some l=>
    obtain⟨A2,n2,c2,rfl,o2,b2⟩:=h2;go_wp2_with fail
    go_ret2
    exact⟨some l,HI.out,_,_,_,rfl,o2,b2⟩
  ·exact zx8 h h8 hm (by omega) (by omega)
 ·have KN:=zlb (w:=w) (t:=t) (n:=n)
  rw[decide_eq_false hk] at KN;have KN:=qrf KN;have HI:=qrf (z8d (b:=b) hk);clear h h8 hk;go_enter Tryz.func154,Tryz.ntmps154
  go_wp2_with fail
  refine KN.out.mono ?_;rintro e w1 ⟨rfl,rfl⟩;go_wp2_with fail
  go_ret2
  exact⟨none,HI.out,rfl,qrz _⟩
end Go.Proofs.Y
namespace Go.Hm
open Go Go.RowKit
theorem z4e(a b:Value)(n:Nat):(madeCells #[a,b] (n*2)).toList=(List.replicate n [a,b]).flatten:=by
 induction n with
 |zero=>simp[madeCells]
 |succ n ih=>
  rw[qon,qpm,<-ih];have e:∀m,m%2=0->(madeCells #[a,b] (m+2)).toList=(madeCells #[a,b] m).toList++[a,b]:=by intro m hm;simp only[madeCells,qpn,qpo,qpp,qpj,qmp,qmq,qmi,qm8,qmx,qmz,qm9,qpg];rw[hm,show(m+1)%2=1 by omega];rfl
  rw[qn2,e (n*2) (by omega)];simp
theorem z4f(n:Nat):(List.replicate n [Value.int .i64 0,.int .i64 0]).flatten=zdu (List.replicate n (0,0)):=by
 induction n with
 |zero=>rfl
 |succ n ih=>
  rw[qn7,qpw,ih,qn7];rfl
theorem zwy(l m:List (Int × Int)):zdu (l++m)=zdu l++zdu m:=by simp[zdu]
section
variable{P:Program}{ops:Array Oper}{rest:List Oper}{o:Oper}{a:Act}{Q:Exit->Act->World->Prop}
theorem zy8{w:World}{t e:TypeId}{x y:Value}{bytes:Nat}(E:ElT P t e (.agg #[x,y]) 2 bytes)(hgd:o.guard=none)(lo co:Operand)(ho:o.op=Op.makeSlice t lo co)
 {W:World}{B:Nat}{kl kc:IntKind}{L C:Int}(n:Nat)(hl:a.eval lo= .int kl L)(hc:a.eval co= .int kc C)(hL:L=(n:Int))(hC:C=(n:Int))(hb:Below B W w)(hbase:B<=w.heap.size)
 (hn:n*bytes<=140737488355328)(hm:n<=maxLen)
 (h:∀w',w'.ownsRow w.heap.size e 2 (.slice (some ⟨w.heap.size,0,none⟩) n n) n (List.replicate n [x,y]).flatten->w.grownBy w' none->Below B W w'->w'.heap.size=w.heap.size+1->wpList P ops Q rest (a.put o.dst (.slice (some ⟨w.heap.size,0,none⟩) n n)) w'):
 wpList P ops Q (o::rest) a w:=by
 obtain⟨i,hi,hz0,hs1,hb1⟩:=info_parts E.hi;subst hL hC;have hmC:(n:Int)<=9223372036854775807:=by have h:=hm;simp only[maxLen] at h;omega
 have hbC:(i.bytes:Int)*(n:Int)<=281474976710656:=by
  have h:((i.bytes*n:Nat):Int)<=281474976710656:=by rw[hb1,qmr];omega
  rwa[qms] at h
 have hrun:=run_make (P:=P) w t e i (.agg #[x,y]) E.ht hi hz0 kl kc (n:Int) (n:Int) (by omega) (by omega) hbC hmC;rw[qmt,hs1] at hrun;refine wpList_plain hgd fun K hK=>?_
 unfold Oper.wp;simp[execOp,ho,hl,hc,hrun,Result.andThen];refine hK _ _ (h _ ?_ (qra _ _ _) (hb.alloc hbase _) (by simp));refine⟨by simp,.inr ⟨_,n,_,rfl,ql6 _,heap_alloc_new w _,ql6 _,hm,by simp[size_madeCells],?_⟩⟩;rw[qm0 (by simp[size_madeCells])];exact z4e x y n
theorem zwz{w:World}(hgd:o.guard=none)(ty:TypeId)(x y:Operand)(ho:o.op= .store ty x y)
 {base:Nat}{e:TypeId}{g n m:Nat}{A B:List (Int × Int)}{old new:Int × Int}(hown:w.ownsRow base e 2 (.slice (some ⟨g,0,none⟩) n n) n (zdu (A++old::B)))(hm:A.length=m)(hmn:m<n)
 (hx:a.eval x= .pointer (some ⟨g,m*2,none⟩))(hy:a.eval y= .agg #[.int .i64 new.1,.int .i64 new.2])(hi:(P.info? ty).map (·.size)=some 2)
 (h:∀W,W.ownsRow base e 2 (.slice (some ⟨g,0,none⟩) n n) n (zdu (A++new::B))->w.grownBy W (some g)->wpList P ops Q rest (a.put o.dst undef) W):wpList P ops Q (o::rest) a w:=by
 obtain⟨cs,hB⟩:=zxl hown;obtain⟨ad,ea,-,c0,c1⟩:=(qrt hown).pair2 (i:=m) hmn;injection ea with ea;subst ea;have ead:(⟨g,0,none⟩:Addr).add (m*2)=⟨g,m*2,none⟩:=by unfold Addr.add;split<;> simp_all
 rw[ead] at c0 c1;dsimp only at c0 c1;have ht:w.there g (m*2) (#[Value.int .i64 new.1,.int .i64 new.2]:Array Value).size:=by
  intro j hj;have hj:j<2:=hj;refine⟨?_,hB.frozen _⟩;have:j=0\/j=1:=by omega
  rcases this with rfl|rfl
  ·rw[qph,c0];rfl
  ·rw[c1];rfl
 refine wpList_store_mid hgd ty x y ho g (m*2) #[.int .i64 new.1,.int .i64 new.2] hx hy ht hi (by simp[Value.oneCell']) ?_;obtain⟨o1,g1⟩:=qlu hown (m*2) (.int .i64 new.1);obtain⟨o2,g2⟩:=qlu o1 (m*2+1) (.int .i64 new.2);have hl:(zdu A).length=m*2:=by rw[zgv,hm]
 have e2:((zdu (A++old::B)).set (m*2) (.int .i64 new.1)).set (m*2+1) (.int .i64 new.2)=zdu (A++new::B):=by rw[zwy,zwy,qn5 _ _ (by omega),qn5 _ _ (by omega),hl,qn6,show m*2+1-m*2=1 by omega];rfl
 rw[e2] at o2;exact h _ o2 (g1.trans g2)
end
end Go.Hm
