/- Merged. -/
import Derived.Test.YtmgfkpnghlmheaaGreatBun17
import Derived.Test.YtmgfkpnghlmheaaGreatBun18
import Derived.Test.YtmgfkpnghlmheaaGreatBun20
import Derived.Test.YtmgfkpnghlmheaaGreatBun33
set_option maxHeartbeats 4000000
namespace Go.Proofs.Y
open Go.RowKit Go.Hm
theorem zex:∀(k n:Nat),n<=k-> ∀x∈vp n,x<256:=by
 intro k;induction k with
 |zero=>
  intro n hn x hx;rw[zez (by omega)] at hx;simp at hx;omega
 |succ k ih=>
  intro n hn x hx;by_cases h:n<128
  ·rw[zez h] at hx
   simp at hx;omega
  ·rw[zfr (by omega)] at hx
   rcases List.mem_cons.1 hx with rfl|hx
   ·omega
   ·exact ih _ (by omega) x hx
theorem z5h{p:List Nat}(hw:∀x∈p,x<=18446744073709551615):∀x∈encP p,x<256:=by
 intro x hx;have:=zjo p hw;unfold encP at hx;split at hx
 ·rcases List.mem_append.1 hx with hx|hx
  ·exact zex _ _ (Nat.le_refl _) x hx
  ·exact zex _ _ (Nat.le_refl _) x hx
 ·rcases List.mem_append.1 hx with hx|hx
  ·exact zex _ _ (Nat.le_refl _) x hx
  ·rcases List.mem_cons.1 hx with rfl|hx
   ·omega
   ·exact zmb _ _ x hx
theorem zon{l:List Nat}(hw:∀x∈l,x<=18446744073709551615):∀x∈encL l,x<256:=by intro x hx;unfold encL at hx;obtain⟨p,hp,hx⟩:=List.mem_flatMap.1 hx;exact z5h (zlq hw hp).1 x hx
theorem zlt{w:World}{A B:Option Addr}{n m c e:Nat}{l k:List Nat}(h:Reads w w.heap.size 1 A n (za3 .u8 l))(hk:Reads w w.heap.size 1 B m (za3 .u8 k))(h8:∀x∈l,x<256)(k8:∀x∈k,x<256):
 Calls Tryz.prog 226 #[.slice A n c,.slice B m e] w (zdw (.bool (decide (l=k))) w):=by
 have BB:=Hz (zhh h8 k8);have q1:=zeu (c:=c) h;have q2:=zeu (c:=e) hk;clear h8 k8 h hk;go_enter Tryz.func226,Tryz.ntmps226
 go_wp2
 go_ret
 exact⟨by simp[BB.out],rfl⟩
theorem z5i{most:Nat}{S:St}(hS:S.ok):∀x∈(rpS most S).1,x<=18446744073709551615:=by
 intro x hx;unfold rpS at hx;dsimp only at hx;split at hx
 ·split at hx
  ·rename_i l hl
   unfold zbf at hl;split at hl
   ·rename_i hg
    injection hl with hl;subst hl;have a:=z36 _ _ _ x hx;have b:2^((zbc (lenS (2*(most:Int)+1) S).2).1:Int).toNat<=2^64:=Nat.pow_le_pow_right (by omega) (by omega);omega
   ·cases hl
  ·simp at hx
 ·have a:=zjx (za6 (m:=2*(most:Int)+1) hS)
  have:=(List.mem_replicate.1 hx).2;omega
theorem z5j{m:Int}{c:Nat}{r:List Nat}(hS:St.ok (some (c::r))):((lenS m (some (c::r))).2.getD []).length<=r.length:=by
 rcases zbq m _ hS with e|⟨N,r',e,-,-,e2⟩
 ·rw[e];simp
 ·rw[e2]
  injection e with e;have a:=congrArg List.length e;have b:=zma N;rw[List.length_append,List.length_cons] at a;simp;omega
theorem z5k{S:St}(hS:S.ok):((zh4 S).2.getD []).length<=(S.getD []).length:=by
 rcases zgx S hS with e|⟨N,r',rfl,-,e2⟩
 ·rw[e];simp
 ·rw[e2];simp
theorem zg3{n:Int}(S:St):((zbt n S).2.getD []).length<=(S.getD []).length:=by
 rcases zca n S with e|⟨l,rfl,-,-,e2⟩
 ·rw[e];simp
 ·rw[e2];simp
theorem z1q(S:St):((zbc S).2.getD []).length<=(S.getD []).length:=by
 match S with
 |none=>simp[zbc]
 |some []=>simp[zbc]
 |some (c::r)=>simp[zbc]
theorem qa5{most c:Nat}{r:List Nat}(hS:St.ok (some (c::r))):((rpS most (some (c::r))).2.getD []).length<=r.length:=by
 have h1:=z5j (m:=2*(most:Int)+1) hS;have h2:=za6 (m:=2*(most:Int)+1) hS;unfold rpS;dsimp only;split
 ·split
  ·have a:=z1q (lenS (2*(most:Int)+1) (some (c::r))).2
   exact Nat.le_trans (Nat.le_trans (zg3 _) a) h1
  ·simp
 ·exact Nat.le_trans (z5k h2) h1
theorem zzf{n k:Nat}{out:List Nat}{S:St}(h:∀c r,S≠some (c::r)):decS n k out S=(out,S):=by
 cases k with
 |zero=>rfl
 |succ k=>
  match S,h with
  |none,_=>rfl
  |some [],_=>rfl
  |some (c::r),h=>exact absurd rfl (h c r)
open Go.RowKit Go.Hm
def zxa(w:World)(g:Nat):Nat:=match w.cell? ⟨g,0,none⟩ with
 |some (.slice _ n _)=>n
 |_=>0
theorem zqx{w:World}{g:Nat}{S:St}(h:CurS w g S):zxa w g=(S.getD []).length:=by obtain⟨A,c,hB,-⟩:=h;have:=hB.cell 0;simp at this;unfold zxa;rw[this]
def DecPost(b:List Nat)(n:Int)(w:World)(e:Ending)(w':World):Prop:=∃o,IsDec b n o/\OptW o w e w'
theorem isDec_none{b:List Nat}{n:Int}(h:∀l:List Nat,(l.length:Int)=n->l.length<=65536->(∀x∈l,x<=18446744073709551615)->encL l=b->False):IsDec b n none:=
 fun l=>⟨fun e=>(by cases e),fun⟨h1,h2,h3,h4⟩=>(h l h1 h2 h3 h4).elim⟩
theorem z1r{b l:List Nat}(h1:l.length<=65536)(h2:∀x∈l,x<=18446744073709551615)(h3:encL l=b):IsDec b (l.length:Int) (some l):=
 fun m=>⟨fun e=>by injection e with e;subst e;exact⟨rfl,h1,h2,h3⟩,fun⟨_,k2,k3,k4⟩=>by rw[zza h1 k2 h2 k3 (h3.trans k4.symm)]⟩
theorem zqy{w:World}{A:Option Addr}{c m:Nat}{b:List Nat}{n:Int}(hn:n<0\/65536<n):Calls Tryz.prog 208 #[.slice A m c,.int .i64 n] w (DecPost b n w):=by
 have hI:Hid (IsDec b n none):=Hz (isDec_none fun l h1 h2 _ _=>by omega);by_cases h0:n<0
 ·go_enter Tryz.func208,Tryz.ntmps208
  go_wp2
  go_ret2
  exact⟨none,hI.out,rfl,Below.refl _ _⟩
 ·have h1:65536<n:=by omega
  go_enter Tryz.func208,Tryz.ntmps208
  go_wp2
  go_ret2
  exact⟨none,hI.out,rfl,Below.refl _ _⟩
theorem zqz{w:World}{A:Option Addr}{c:Nat}{b:List Nat}{n:Nat}(h:Reads w w.heap.size 1 A b.length (za3 .u8 b))(h8:∀x∈b,x<256)(hb:b.length<=140737488355200)(hn:n<=65536):
 Calls Tryz.prog 208 #[.slice A b.length c,.int .i64 (n:Int)] w (DecPost b (n:Int) w):=by
 have OV:=Hz (zfa (c:=c) h (by omega) h8);obtain⟨D,hD⟩:∃D,D=decS n b.length [] (some b):=⟨_,rfl⟩;have HD:=Hz hD;have HE:Hid (∀l:List Nat,(l.length:Int)=(n:Int)->(∀x∈l,x<=18446744073709551615)->encL l=b->D=(l,some [])):=Hz fun l h1 h2 h3=>by rw[hD,<-h3];exact zsl h2 hn (by omega) (Nat.le_refl _)
 clear hD;have H8:=Hz h8;have HR:=Hz h;clear h h8;go_enter Tryz.func208,Tryz.ntmps208
 go_wp2_with fail
 refine OV.out.mono ?_;rintro e w1 ⟨g,rfl,hg,hcur,b1⟩;have s1:=CurS.of hcur;clear hcur OV;go_wp2_with fail
 go_loopw [7] (fun v wr=>∃(Ao:Option Addr) (co k:Nat) (out:List Nat) (S:St),v= .slice Ao out.length co/\Go.Hm.Own wr w.heap.size 87 (.slice Ao out.length co) (za3 .u64 out)/\CurS wr g S/\Below w.heap.size w wr/\out.length<=n/\Hid (∀x∈out,x<=18446744073709551615)/\(S.getD []).length<=k/\Hid (decS n k out S=D)) (fun _ wr=>zxa wr g)
 case atStart=>exact⟨none,0,b.length,[],some b,rfl,Own.nil_,s1,b1,Nat.zero_le _,Hz (by simp),Nat.le_refl _,Hz HD.out.symm⟩
 case round=>
  obtain⟨Ao,co,k,out,S,rfl,hown,hs,hbl,hol,hw,hk,hdec⟩:=hrel;have hok:=hs.ok;have hml:=zqx hs;have BD:=Hz (zy5 hs);have LF:=Hz (zud hs)
  match S,hs,hok,hk,hdec,hml,BD,LF with
  |some (x::r),hs,hok,hk,hdec,hml,BD,LF=>
   simp only[Option.getD_some,List.length_cons] at hk hml;obtain⟨k,rfl⟩:∃j,k=j+1:=⟨k-1,by omega⟩;have RP:=Hz (zsm (most:=n-out.length) hs (by omega));have hrl:=qfn (n-out.length) _ hok;have hrw:=z5i (most:=n-out.length) hok;have hls:=qa5 (most:=n-out.length) hok;have hd:=hdec.out;rw[decS] at hd;have hD':=Hz hd;clear hd hdec;generalize rpS (n-out.length) (some (x::r))=R at*;obtain⟨y,S2⟩:=R;dsimp only at*;have hsub:(n:Int)-(out.length:Int)=((n-out.length:Nat):Int):=by omega
   have HS:=Hz hs;clear hs hok;go_wp2_with fail
   refine BD.out.mono ?_;rintro e w2 ⟨rfl,rfl⟩;go_wp2_with fail
   refine LF.out.mono ?_;rintro e w2 ⟨rfl,rfl⟩;clear BD LF;go_wp2_with fail
   refine RP.out.mono ?_;rintro e w3 ⟨A3,n3,c3,rfl,e3,o3,s3,g3⟩;subst e3;clear RP;obtain⟨cs,hB⟩:=HS.out.blk;have hown3:=hown.keepT g3 hB (by decide);have hbl3:Below w.heap.size w w3:=hbl.grown g3 hbl.size (fun k e=>by injection e with e;omega);have hz3:=hbl3.size;have G3:=Hz g3;have S3:=Hz s3;clear g3 s3 hB HS hown hbl;go_wp2_with (first
    |(refine zas elW rfl (.tmp 26) (.tmp 32) rfl (W:=w) (B:=w.heap.size) hown3 o3.reads rfl rfl hbl3 (Nat.le_refl _) hz3 (by omega) (by simp only[maxLen];omega) ?_
      intro A4 c4 w4 _ _ o4 g4 b4 _))
   have s4:=S3.out.push hown3 g4 (by decide) (by decide);go_roundw
   case rel=>exact⟨A4,c4,k,out++y,S2,by simp,by simpa using o4,s4,b4,by rw[List.length_append];omega,Hz (fun z hz=>by rcases List.mem_append.1 hz with hz|hz;exact hw.out z hz;exact hrw z hz),by omega,hD'⟩
   case measure=>rw[zqx s4];omega
  |some [],hs,hok,hk,hdec,hml,BD,LF=>
   have hd:=hdec.out;rw[zzf (by simp)] at hd;have HNo:Hid ((out.length:Int)=(n:Int)->encL out=b->False)->Hid (IsDec b (n:Int) none):=fun hh=>Hz (isDec_none fun l h1 _ h3 h4=>by have e:=HE.out l h1 h3 h4;rw[<-hd] at e;injection e with e1 _;subst e1;exact hh.out h1 h4)
   clear hd hdec HE HD hs;by_cases hno:out.length=n
   ·subst hno
    have EN:=Hz (zqw (c:=co) hown.reads hown.cap.1 hw.out hn);go_wp2_with fail
    refine BD.out.mono ?_;rintro e w2 ⟨rfl,rfl⟩;go_wp2_with fail
    refine LF.out.mono ?_;rintro e w2 ⟨rfl,rfl⟩;go_wp2_with fail
    refine BD.out.mono ?_;rintro e w2 ⟨rfl,rfl⟩;go_wp2_with fail
    refine EN.out.mono ?_;rintro e w5 ⟨A5,n5,c5,rfl,o5,b5⟩;clear BD LF EN;have hbl5:Below w.heap.size w w5:=hbl.trans (Below.mono b5 hbl.size);have EQ:=Hz (zlt (c:=c5) (e:=c) o5.reads ((HR.out.below hbl5).more hbl5.size) (zon hw.out) H8.out);have hown5:=hown.later b5;by_cases heq:encL out=b
    ·have dq:decide (encL out=b)=true:=decide_eq_true heq
     rw[dq] at EQ;go_wp2_with fail
     refine EQ.out.mono ?_;rintro e w6 ⟨rfl,rfl⟩;go_wp2
     go_ret2
     exact⟨some out,z1r hn hw.out heq,_,_,_,rfl,hown5,hbl5⟩
    ·have dq:decide (encL out=b)=false:=decide_eq_false heq
     rw[dq] at EQ;have hI:=HNo (Hz fun _ e=>heq e);go_wp2_with fail
     refine EQ.out.mono ?_;rintro e w6 ⟨rfl,rfl⟩;go_wp2
     go_ret2
     exact⟨none,hI.out,rfl,hbl5⟩
   ·have hI:=HNo (Hz fun e _=>hno (by omega))
    go_wp2_with fail
    refine BD.out.mono ?_;rintro e w2 ⟨rfl,rfl⟩;go_wp2_with fail
    refine LF.out.mono ?_;rintro e w2 ⟨rfl,rfl⟩;go_wp2_with fail
    refine BD.out.mono ?_;rintro e w2 ⟨rfl,rfl⟩;go_wp2
    go_ret2
    exact⟨none,hI.out,rfl,hbl⟩
  |none,hs,hok,hk,hdec,hml,BD,LF=>
   have hd:=hdec.out;rw[zzf (by simp)] at hd;have hI:Hid (IsDec b (n:Int) none):=Hz (isDec_none fun l h1 _ h3 h4=>by have e:=HE.out l h1 h3 h4;rw[<-hd] at e;injection e with _ e2;cases e2)
   clear hd hdec HE HD hs;go_wp2_with fail
   refine BD.out.mono ?_;rintro e w2 ⟨rfl,rfl⟩;go_wp2_with fail
   refine BD.out.mono ?_;rintro e w2 ⟨rfl,rfl⟩;go_wp2
   go_ret2
   exact⟨none,hI.out,rfl,hbl⟩
open Go.RowKit Go.Hm
theorem z1s{w:World}{A:Option Addr}{k c:Nat}{b:List Nat}{n:Int}(h:Reads w w.heap.size 1 A k (za3 .u8 b))(h8:∀x∈b,x<256)(hk:k<=140737488355200):
 Calls Tryz.prog 208 #[.slice A k c,.int .i64 n] w (DecPost b n w):=by
 obtain rfl:k=b.length:=h.len;by_cases hn:n<0\/65536<n
 ·exact zqy hn
 ·obtain⟨m,rfl⟩:=Int.eq_ofNat_of_zero_le (show 0<=n by omega)
  exact zqz h h8 hk (by omega)
theorem z5l{w:World}{A:Option Addr}{n c:Nat}{L:List Nat}(h:Reads w w.heap.size 1 A n (za3 .u64 L))(hc:n<=c)(hL:∀x∈L,x<=18446744073709551615)(hn:n<=65536):
 Calls Tryz.prog 206 #[.slice A n c] w (OptB (some (encL L)) w):=by
 obtain rfl:n=L.length:=h.len;exact zqw h hc hL hn
theorem IsDec.few{b:List Nat}{n:Int}{o:Option (List Nat)}(h:IsDec b n o):(o.getD []).length<=65536:=by
 cases o with
 |none=>simp
 |some l=>exact((h l).1 rfl).2.1
theorem DecPost.u{b:List Nat}{n:Int}{w w':World}{e:Ending}(h:DecPost b n w e w'):∃o A m c,IsDec b n o/\e= .returned (.tuple #[.slice A m c,.bool o.isSome])/\m<=65536/\Go.Hm.Own w' w.heap.size 87 (.slice A m c) (za3 .u64 (o.getD []))/\New w w':=by obtain⟨o,hI,h⟩:=h;obtain⟨A,m,c,e,k,b⟩:=OptW.u h;have l:=k.len;rw[zaa] at l;exact⟨o,A,m,c,hI,e,by have:=hI.few;omega,k,b⟩
theorem zh5:∀ps:List (List Nat),(∀p∈ps,0<p.length/\(encP p).length<=600000)->(ps.flatMap encP).length<=ps.flatten.length*600000
 | [],_=>by simp
 |p::ps,h=>by
  have:=zh5 ps fun q hq=>h q (by simp[hq])
  have:=h p (by simp);rw[List.flatMap_cons,List.flatten_cons,List.length_append,List.length_append];omega
theorem zso{l:List Nat}(hw:∀x∈l,x<=18446744073709551615)(hl:l.length<=65536):(encL l).length<=l.length*600000:=by
 have:=zh5 (pcs l) fun p hp=>⟨(z5b l p hp).1,zze (zlq hw hp).1 (Nat.le_trans (zlq hw hp).2 hl)⟩
 rwa[zks] at this
open Go.RowKit Go.Hm
theorem zkw{c:zab}(h:CellFine c):zai c:=⟨h.1,h.2.1⟩
theorem zsp{t:Int}{l:List zab}(h:zhs t l=true):(plB t l).length<=4300000000:=by
 obtain⟨⟨_,_,h1⟩,h2⟩:=plOk_iff.1 h;unfold plB;split
 ·rw[zbg];omega
 ·have:=zsi l h2 (fun c hc=>zg1 (h2 c hc))
  omega
set_option maxRecDepth 100000 in
theorem zxb{w:World}{A:Option Addr}{n c:Nat}{t:Int}{L:List zab}(h:Reads w w.heap.size 5 A n (recs zam L))(hL:∀y∈L,CellFine y)(hn:n<=65536):
 Calls Tryz.prog 182 #[.int .i64 t,.slice A n c] w (OptB (zg2 t L) w):=by
 obtain rfl:=h.lenCell;have C:=Hz (zoe (c:=c) h hL (by omega));have hED:∀y∈(ze7 L).1,zai y:=fun y hy=>zkw (hL y ((zgd L y).1 hy))
 have hle:=zii L;have hw:=zij (l:=L) hn;have hel:=zso hw (by have:=(zj1 L).len;omega);have hpl:=(zj1 L).len;obtain⟨M,hM⟩:∃M,M=zg2 t L:=⟨_,rfl⟩;rw[<-hM];unfold zg2 at hM;simp only[hn,if_true] at hM;unfold z4v at C;generalize(ze7 L).1=E at*;generalize(ze7 L).2=P at*;have hvl:∀V,plO t E=some V->V.length<=4300000000:=fun V hV=>by obtain⟨a,b⟩:=plO_iff.1 hV;rw[<-b];exact zsp a
 have HM:=Hz hM;have HED:=Hz hED;have HW:=Hz hw;have HPL:=Hz hpl;have HVL:=Hz hvl;have HEL:Hid ((encL P).length<=40000000000):=Hz (by rw[hpl] at hel;omega);clear hM hED hw h hL hvl hel hpl;go_enter Tryz.func182,Tryz.ntmps182
 go_wp2_with fail
 refine C.out.mono ?_;rintro e w1 ⟨A1,n1,c1,A2,c2,rfl,o1,o2,b1⟩;have hn1:n1=E.length:=(Reads.of_own o1).lenCell;have hz1:=b1.size;have PE:=zkq (t:=t) (c:=c1) (Reads.of_own o1) HED.out (by omega);have RE:=Hz (fun(W:World) (hW:New w1 W)=>z5l (c:=c2) (o2.later hW).reads o2.cap.1 HW.out (by omega));have hq1:n1<=65536:=by omega
 have HN1:=Hz hn1;generalize plO t E=O at*;have PE:=Hz PE;clear C hle o1 hn1 o2;go_wp2_with fail
 refine PE.out.mono ?_;intro e w2 h2;cases O with
 |none=>
  obtain⟨rfl,b2⟩:=h2;go_wp2_with fail
  go_ret2
  have hM:=HM.out;rw[hM];exact⟨rfl,New.trans b1 b2⟩
 |some V=>
  obtain⟨A3,n3,c3,rfl,o3,b2⟩:=h2;have hn3:n3=V.length:=by have:=o3.len;rwa[zaa] at this
  have hV:=HVL.out V rfl;have RW:=Hz (RE.out w2 b2);have b02:=New.trans b1 b2;have hz2:=b02.size;have HN3:=Hz hn3;have hq3:n3<=4300000000:=by omega
  have hw1:IntKind.u64.wrap (n1:Int)=(n1:Int):=by rw[IntKind.wrap_u64];omega
  have hw3:IntKind.u64.wrap (n3:Int)=(n3:Int):=by rw[IntKind.wrap_u64];omega
  have P1:Hid (∀W,Calls Tryz.prog 93 #[.slice none 0 0,.int .u64 (n1:Int)] W (zc6 ([]++vp E.length) W)):=Hz (fun W=>by rw[HN1.out];exact zcx none 0 0 [] E.length W Reads.none_ (by omega) (by have:=HN1.out;omega));have P3:Hid (∀W,Calls Tryz.prog 93 #[.slice none 0 0,.int .u64 (n3:Int)] W (zc6 ([]++vp V.length) W)):=Hz (fun W=>by rw[HN3.out];exact zcx none 0 0 [] V.length W Reads.none_ (by omega) (by omega));have V1:=zaj (n:=E.length) (by have:=HN1.out;omega);have V3:=zaj (n:=V.length) (by omega);clear hn3 hV RE;go_wp2_with fail
  refine RW.out.mono ?_;rintro e w3 ⟨A4,n4,c4,rfl,o4,b3⟩;have hq4:n4<=40000000000:=by have:=o4.len;rw[zaa] at this;have:=HEL.out;omega
  have o3:=o3.later b3;have b03:=New.trans b02 b3;have hz3:=b03.size;clear RW b02 b2 b3 b1;go_wp2_with fail
  refine(P1.out _).mono ?_;rintro e w4 ⟨A5,n5,c5,rfl,k5,b4⟩;rw[List.nil_append] at k5;have hq5:n5<=10:=by have:=k5.len;rw[zaa] at this;omega
  have h35:=zfv (zgg k5 (o3.base_le (Nat.zero_le _)));have h45:=zfv (zgg k5 (o4.base_le (Nat.zero_le _)));have o3:=o3.later b4;have o4:=o4.later b4;have b04:=New.trans b03 b4;have hz4:=b04.size;have k5:=k5.base_le hz3;clear b4 b03 P1;go_wp2_with fail
  refine(P3.out _).mono ?_;rintro e w5 ⟨A6,n6,c6,rfl,k6,b5⟩;rw[List.nil_append] at k6;have hq6:n6<=10:=by have:=k6.len;rw[zaa] at this;omega
  have o3:=o3.later b5;have o4:=o4.later b5;have k5:=k5.later b5;have b05:=New.trans b04 b5;have hz5:=b05.size;clear b5 b04 P3;go_wp2_with (first
   |(refine zas elB rfl (.tmp 36) (.tmp 40) rfl (W:=w) (B:=w.heap.size) k5 k6.reads rfl rfl b05 (Nat.le_refl _) (by omega) (by omega) (by simp only[maxLen];omega) ?_
     intro A7 c7 w7 _ _ o7 g7 b7 d7;have h37:=zik h35 d7 o3;have h47:=zik h45 d7 o4;have p3:=o3.kept g7 h35;have p4:=o4.kept g7 h45;have hz7:=b7.size;clear k5 k6 o3 o4 g7 d7 h35 h45)
   |(refine zas elB rfl (.tmp 42) (.tmp 43) rfl (W:=w) (B:=w.heap.size) o7 p3.reads rfl rfl b7 (Nat.le_refl _) (by omega) (by omega) (by simp only[maxLen];omega) ?_
     intro A8 c8 w8 _ _ o8 g8 b8 d8;have q4:=p4.kept g8 h47;have hz8:=b8.size;clear o7 p3 p4 g8 h37 h47)
   |(refine zas elB rfl (.tmp 45) (.tmp 46) rfl (W:=w) (B:=w.heap.size) o8 q4.reads rfl rfl b8 (Nat.le_refl _) (by omega) (by omega) (by simp only[maxLen];omega) ?_
     intro A9 c9 w9 _ _ o9 _ b9 _))
  go_ret2
  have hM:=HM.out;rw[hM];exact⟨_,_,_,rfl,o9,b9⟩
open Go.RowKit Go.Hm
theorem z5m{t:Int}{l:List zab}{b:List Nat}(h:zg2 t l=some b):b.length<=50000000000:=by
 unfold zg2 at h;split at h
 ·cases h
 ·rename_i V hV
  split at h
  ·rename_i hl
   injection h with h;have p1:=(zj1 l).len;have e1:=zii l;have v1:V.length<=4300000000:=by rw[<-(plO_iff.1 hV).2];exact zsp (plO_iff.1 hV).1
   have el:=zso (zij hl) (by omega);have a:=zaj (n:=(ze7 l).1.length) (by omega);have b:=zaj (n:=V.length) (by omega);rw[<-h];simp only[List.length_append];omega
  ·cases h
theorem qa6{t:Int}{l:List zab}{b:List Nat}(hd:∀c∈l,zai c)(h:zg2 t l=some b):∀x∈b,x<256:=by
 unfold zg2 at h;split at h
 ·cases h
 ·rename_i V hV
  split at h
  ·rename_i hl
   injection h with h;intro x hx;rw[<-h] at hx;simp only[List.mem_append] at hx;rcases hx with((hx|hx)|hx)|hx
   ·exact zex _ _ (Nat.le_refl _) x hx
   ·exact zex _ _ (Nat.le_refl _) x hx
   ·rw[<-(plO_iff.1 hV).2] at hx
    unfold plB at hx;split at hx
    ·exact zmb _ _ x hx
    ·obtain⟨c,hc,hx⟩:=List.mem_flatMap.1 hx
     have hcd:=hd c ((zgd l c).1 hc);unfold plE at hx;split at hx
     ·exact zmb _ _ x hx
     ·split at hx
      ·rcases List.mem_append.1 hx with k|k
       ·exact zex _ _ (Nat.le_refl _) x k
       ·exact hcd.1.2 x k
      ·split at hx
       ·rcases List.mem_append.1 hx with k|k
        ·exact zex _ _ (Nat.le_refl _) x k
        ·exact zex _ _ (Nat.le_refl _) x k
       ·simp at hx
   ·exact zon (zij hl) x hx
  ·cases h
open Go.RowKit Go.Hm
theorem z7r{l:List Int}(h:∀x∈l,zew x):∀x∈blockD l,x<256:=by
 intro x hx;have hw:=zjo _ (zkm h);unfold blockD at hx;rcases List.mem_append.1 hx with hx|hx
 ·exact zex _ _ (Nat.le_refl _) x hx
 ·rcases List.mem_cons.1 hx with rfl|hx
  ·omega
  ·exact zmb _ _ x hx
theorem ztf{l:List Int}{b:List Nat}(h:zjq l=some b):∀x∈b,x<256:=by
 unfold zjq at h;split at h
 ·cases h
 ·split at h
  ·injection h with h
   subst h;intro x hx;cases hx
  ·injection h with h
   subst h;intro x hx;rcases List.mem_append.1 hx with hx|hx
   ·exact zex _ _ (Nat.le_refl _) x hx
   ·unfold zcd at hx
    obtain⟨k,hk,hx⟩:=List.mem_flatMap.1 hx;exact z7r (zt5 (zgy l) k) x hx
def qf7(b:List Nat)(n:Int)(w:World)(e:Ending)(w':World):Prop:=∃o,IsDel b n o/\OptI o w e w'
theorem zvu{b P:List Nat}{n:Nat}{Q:List Int}{S:St}(h:IsDel b (n:Int) (if S=some []/\zjq Q=some b then some Q else none))(h1:S=some [])(h2:zjq Q=some P)(h3:P=b):IsDel b (n:Int) (some Q):=by rw[if_pos ⟨h1,by rw[h2,h3]⟩] at h;exact h
theorem zpo{b:List Nat}{n:Nat}{Q:List Int}{S:St}(h:IsDel b (n:Int) (if S=some []/\zjq Q=some b then some Q else none))(h1: ¬(S=some []/\zjq Q=some b)):IsDel b (n:Int) none:=by rw[if_neg h1] at h;exact h
set_option maxRecDepth 100000 in
theorem ziy{w:World}{A:Option Addr}{c:Nat}{b:List Nat}{n:Int}(h:Reads w w.heap.size 1 A b.length (za3 .u8 b))(h8:∀x∈b,x<256)(hb:b.length<=140737488355200):
 Calls Tryz.prog 215 #[.slice A b.length c,.int .i64 n] w (qf7 b n w):=by
 by_cases hfar:n<0\/65536<n
 ·have hI:=Hz (zt8 (b:=b) hfar)
  clear h h8;by_cases h0:n<0
  ·clear hfar
   go_enter Tryz.func215,Tryz.ntmps215
   go_wp2
   go_ret2
   exact⟨none,hI.out,rfl,Below.refl _ _⟩
  ·have h1:65536<n:=by omega
   clear hfar;go_enter Tryz.func215,Tryz.ntmps215
   go_wp2
   go_ret2
   exact⟨none,hI.out,rfl,Below.refl _ _⟩
 obtain⟨n,rfl⟩:=Int.eq_ofNat_of_zero_le (show 0<=n by omega);have i1: ¬(n:Int)<0:=by omega
 have i2: ¬(65536:Int)<(n:Int):=by omega
 have OV:=Hz (zfa (c:=c) h (by omega) h8);have HI:=Hz (zy0 (n:=n) h8);have HIN:=Hz (zyz (n:=n) h8);have HLE:=qad n b;have HZ:Hid (n=0->zjz n b=([],some b)):=Hz (fun e=>by rw[e];rfl);have HP:Hid (0<n->zjz n b=zqb n (some b)):=Hz (fun e=>by unfold zjz;rw[if_neg (by omega)]);have HR:=Hz h;have H8:=Hz h8;clear h h8 hfar;by_cases h0:n=0
 ·have hz:=HZ.out h0
  rw[hz] at HI HIN;have i3: ¬(0:Int)<(n:Int):=by omega
  have EN:=Hz (fun W=>ze6 (w:=W) (A:=none) (n:=0) (c:=0) (l:=[]) Reads.none_ (by simp) (by omega));have HN:=Hz h0;clear HZ HP hz HLE h0;go_enter Tryz.func215,Tryz.ntmps215
  go_wp2_with fail
  refine OV.out.mono ?_;rintro e w1 ⟨g,rfl,hg,hcur,b1⟩;have s1:=CurS.of hcur;have EB:=Hz (zgf s1);clear hcur OV s1 hg;by_cases hend:b=[]
  ·have hE:zqa (some b)=true:=by rw[hend];rfl
   rw[hE] at EB;have e0:zjq []=some []:=rfl;have HY:=Hz (zvu HI.out (by rw[hend]) e0 hend.symm);have HEND:=Hz hend;clear hend hE;go_wp2_with fail
   refine EB.out.mono ?_;rintro e w2 ⟨rfl,rfl⟩;go_wp2_with fail
   refine(EN.out _).mono ?_;rintro e w3 ⟨A3,n3,c3,rfl,o3,b3⟩;have b03:=New.trans b1 b3;obtain rfl:n3=0:=by have:=o3.len;rwa[zaa] at this
   have EQ:=Hz (zlt (c:=c3) (e:=c) o3.reads ((HR.out.below b03).more b03.size) (by simp) H8.out);have dq:decide ([]=b)=true:=decide_eq_true HEND.out.symm;rw[dq] at EQ;clear EB EN b1 b3 o3 dq;go_wp2_with fail
   refine EQ.out.mono ?_;rintro e w4 ⟨rfl,rfl⟩;go_wp2
   go_ret2
   exact⟨some [],HY.out,none,0,0,rfl,Own.nil_,b03⟩
  ·have hE:zqa (some b)=false:=by unfold zqa;rw[decide_eq_false_iff_not];intro e;injection e with e;exact hend e
   rw[hE] at EB;have HY:=Hz (zpo HI.out (fun q=>by have:=q.1;injection this with this;exact hend this));clear hend hE;go_wp2_with fail
   refine EB.out.mono ?_;rintro e w2 ⟨rfl,rfl⟩;go_wp2
   go_ret2
   exact⟨none,HY.out,rfl,b1⟩
 ·have hp:=HP.out (by omega)
  rw[hp] at HI HIN HLE;have i3:(0:Int)<(n:Int):=by omega
  have i4:0<n:=by omega
  have i5:n<=65536:=by omega
  clear HZ HP hp h0;have RN:=Hz (fun(W:World) (g:Nat) (s:CurS W g (some b))=>zpn s i4 i5);generalize zqb n (some b)=p at*;obtain⟨P,S⟩:=p;dsimp only at*;go_enter Tryz.func215,Tryz.ntmps215
  go_wp2_with fail
  refine OV.out.mono ?_;rintro e w1 ⟨g,rfl,hg,hcur,b1⟩;have s1:=CurS.of hcur;have RN1:=Hz (RN.out _ _ s1);clear hcur OV s1 RN;go_wp2_with fail
  refine RN1.out.mono ?_;rintro e w2 ⟨A2,n2,c2,rfl,rfl,o2,s2,g2⟩;have b2:New w w2:=Far.below b1 g2 hg (Nat.le_refl _);have EB:=Hz (zgf s2);have hz1:=b1.size;have o2:=o2.base_le (b':=w.heap.size) hz1;clear RN1 b1 g2;by_cases hend:S=some []
  ·have hE:zqa S=true:=by rw[hend];rfl
   rw[hE] at EB;have EN:=Hz (ze6 (c:=c2) o2.reads HIN.out (by omega));have HEL:=Hz (fun d (e:zjq P=some d)=>And.intro (ztf e) (zf9 HIN.out e));have HY:=Hz (fun d (e:zjq P=some d) (q:d=b)=>zvu HI.out hend e q);have HNo:=Hz (fun(q:zjq P≠some b)=>zpo HI.out (fun z=>q z.2));clear hend hE HI HIN;generalize zjq P=E at*;go_wp2_with fail
   refine EB.out.mono ?_;rintro e w3 ⟨rfl,rfl⟩;go_wp2_with fail
   refine EN.out.mono ?_;intro e w3 h3;cases E with
   |none=>
    obtain⟨rfl,b3⟩:=h3;have HN:=Hz (HNo.out (by simp));clear EB EN;go_wp2
    go_ret2
    exact⟨none,HN.out,rfl,New.trans b2 b3⟩
   |some d=>
    obtain⟨A3,n3,c3,rfl,o3,b3⟩:=h3;have b03:=New.trans b2 b3;obtain rfl:n3=d.length:=by have:=o3.len;rwa[zaa] at this
    have EQ:=Hz (zlt (c:=c3) (e:=c) o3.reads ((HR.out.below b03).more b03.size) (HEL.out d rfl).1 H8.out);have o4:=o2.later b3;clear EB EN b2 b3 o3 o2;by_cases hdb:d=b
    ·have dq:decide (d=b)=true:=decide_eq_true hdb
     rw[dq] at EQ;have HY2:=Hz (HY.out d rfl hdb);clear hdb dq;go_wp2_with fail
     refine EQ.out.mono ?_;rintro e w4 ⟨rfl,rfl⟩;go_wp2
     go_ret2
     exact⟨some P,HY2.out,_,_,_,rfl,o4,b03⟩
    ·have dq:decide (d=b)=false:=decide_eq_false hdb
     rw[dq] at EQ;have HN:=Hz (HNo.out (by intro e;injection e with e;exact hdb e));clear hdb dq;go_wp2_with fail
     refine EQ.out.mono ?_;rintro e w4 ⟨rfl,rfl⟩;go_wp2
     go_ret2
     exact⟨none,HN.out,rfl,b03⟩
  ·have hE:zqa S=false:=by unfold zqa;rw[decide_eq_false_iff_not];exact hend
   rw[hE] at EB;have HY:=Hz (zpo HI.out (fun q=>hend q.1));clear hend hE;go_wp2_with fail
   refine EB.out.mono ?_;rintro e w3 ⟨rfl,rfl⟩;go_wp2
   go_ret2
   exact⟨none,HY.out,rfl,b2⟩
end Go.Proofs.Y
