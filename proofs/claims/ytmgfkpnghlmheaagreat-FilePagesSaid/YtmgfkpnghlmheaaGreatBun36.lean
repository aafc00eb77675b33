/- Merged. -/
import Derived.Test.YtmgfkpnghlmheaaGreatBun20
import Derived.Test.YtmgfkpnghlmheaaGreatBun22
import Derived.Test.YtmgfkpnghlmheaaGreatBun23
import Derived.Test.YtmgfkpnghlmheaaGreatBun35
set_option maxHeartbeats 4000000
namespace Go.Proofs.Y
open Go.RowKit Go.Hm
theorem z18{w:World}{A:Option Addr}{k c:Nat}{b:List Nat}{n:Int}(h:Reads w w.heap.size 1 A k (za2 .u8 b))(h8:∀x∈b,x<256)(hk:k<=140737488355200):
 Calls Tryz.prog 208 #[.slice A k c,.int .i64 n] w (DecPost b n w):=by
 obtain rfl:k=b.length:=h.len;by_cases hn:n<0\/65536<n
 ·exact zqt hn
 ·obtain⟨m,rfl⟩:=Int.eq_ofNat_of_zero_le (show 0<=n by omega)
  exact zqu h h8 hk (by omega)
theorem z5x{w:World}{A:Option Addr}{n c:Nat}{L:List Nat}(h:Reads w w.heap.size 1 A n (za2 .u64 L))(hc:n<=c)(hL:∀x∈L,x<=18446744073709551615)(hn:n<=65536):
 Calls Tryz.prog 206 #[.slice A n c] w (OptB (some (encL L)) w):=by
 obtain rfl:n=L.length:=h.len;exact zqr h hc hL hn
theorem IsDec.few{b:List Nat}{n:Int}{o:Option (List Nat)}(h:IsDec b n o):(o.getD []).length<=65536:=by
 cases o with
 |none=>simp
 |some l=>exact((h l).1 rfl).2.1
theorem DecPost.u{b:List Nat}{n:Int}{w w':World}{e:Ending}(h:DecPost b n w e w'):∃o A m c,IsDec b n o/\e= .returned (.tuple #[.slice A m c,.bool o.isSome])/\m<=65536/\Go.Hm.Own w' w.heap.size 87 (.slice A m c) (za2 .u64 (o.getD []))/\New w w':=by obtain⟨o,hI,h⟩:=h;obtain⟨A,m,c,e,k,b⟩:=OptW.u h;have l:=k.len;rw[zaa] at l;exact⟨o,A,m,c,hI,e,by have:=hI.few;omega,k,b⟩
theorem zh1:∀ps:List (List Nat),(∀p∈ps,0<p.length/\(encP p).length<=600000)->(ps.flatMap encP).length<=ps.flatten.length*600000
 | [],_=>by simp
 |p::ps,h=>by
  have:=zh1 ps fun q hq=>h q (by simp[hq])
  have:=h p (by simp);rw[List.flatMap_cons,List.flatten_cons,List.length_append,List.length_append];omega
theorem zsm{l:List Nat}(hw:∀x∈l,x<=18446744073709551615)(hl:l.length<=65536):(encL l).length<=l.length*600000:=by
 have:=zh1 (pcs l) fun p hp=>⟨(qdv l p hp).1,zzr (zsi hw hp).1 (Nat.le_trans (zsi hw hp).2 hl)⟩
 rwa[zmz] at this
open Go.RowKit Go.Hm
theorem zi3{c:zab}(h:CellFine c):zai c:=⟨h.1,h.2.1⟩
theorem zxg{t:Int}{l:List zab}(h:zh5 t l=true):(plB t l).length<=4300000000:=by
 obtain⟨⟨_,_,h1⟩,h2⟩:=plOk_iff.1 h;unfold plB;split
 ·rw[zbk];omega
 ·have:=zsf l h2 (fun c hc=>zi0 (h2 c hc))
  omega
set_option maxRecDepth 100000 in
theorem zxh{w:World}{A:Option Addr}{n c:Nat}{t:Int}{L:List zab}(h:Reads w w.heap.size 5 A n (recs zan L))(hL:∀y∈L,CellFine y)(hn:n<=65536):
 Calls Tryz.prog 182 #[.int .i64 t,.slice A n c] w (OptB (zjc t L) w):=by
 obtain rfl:=h.lenCell;have C:=Hz (zn2 (c:=c) h hL (by omega));have hED:∀y∈(zgf L).1,zai y:=fun y hy=>zi3 (hL y ((ziz L y).1 hy))
 have hle:=zla L;have hw:=zkh (l:=L) hn;have hel:=zsm hw (by have:=(zk9 L).len;omega);have hpl:=(zk9 L).len;obtain⟨M,hM⟩:∃M,M=zjc t L:=⟨_,rfl⟩;rw[<-hM];unfold zjc at hM;simp only[hn,if_true] at hM;unfold z49 at C;generalize(zgf L).1=E at*;generalize(zgf L).2=P at*;have hvl:∀V,plO t E=some V->V.length<=4300000000:=fun V hV=>by obtain⟨a,b⟩:=plO_iff.1 hV;rw[<-b];exact zxg a
 have HM:=Hz hM;have HED:=Hz hED;have HW:=Hz hw;have HPL:=Hz hpl;have HVL:=Hz hvl;have HEL:Hid ((encL P).length<=40000000000):=Hz (by rw[hpl] at hel;omega);clear hM hED hw h hL hvl hel hpl;go_enter Tryz.func182,Tryz.ntmps182
 go_wp2_with fail
 refine C.out.mono ?_;rintro e w1 ⟨A1,n1,c1,A2,c2,rfl,o1,o2,b1⟩;have hn1:n1=E.length:=(Reads.of_own o1).lenCell;have hz1:=b1.size;have PE:=zkf (t:=t) (c:=c1) (Reads.of_own o1) HED.out (by omega);have RE:=Hz (fun(W:World) (hW:New w1 W)=>z5x (c:=c2) (o2.later hW).reads o2.cap.1 HW.out (by omega));have hq1:n1<=65536:=by omega
 have HN1:=Hz hn1;generalize plO t E=O at*;have PE:=Hz PE;clear C hle o1 hn1 o2;go_wp2_with fail
 refine PE.out.mono ?_;intro e w2 h2;cases O with
 |none=>
  obtain⟨rfl,b2⟩:=h2;go_wp2_with fail
  go_ret2
  have hM:=HM.out;rw[hM];exact⟨rfl,New.trans b1 b2⟩
 |some V=>
  obtain⟨A3,n3,c3,rfl,o3,b2⟩:=h2;have hn3:n3=V.length:=by have:=o3.len;rwa[zaa] at this
  have hV:=HVL.out V rfl;have RW:=Hz (RE.out w2 b2);have b02:=New.trans b1 b2;have hz2:=b02.size;have HN3:=Hz hn3;have hq3:n3<=4300000000:=by omega
  have hw1:IntKind.u64.wrap (n1:Int)=(n1:Int):=by rw[IntKind.wrap_u64];omega
  have hw3:IntKind.u64.wrap (n3:Int)=(n3:Int):=by rw[IntKind.wrap_u64];omega
  have P1:Hid (∀W,Calls Tryz.prog 93 #[.slice none 0 0,.int .u64 (n1:Int)] W (zc4 ([]++vp E.length) W)):=Hz (fun W=>by rw[HN1.out];exact zcz none 0 0 [] E.length W Reads.none_ (by omega) (by have:=HN1.out;omega));have P3:Hid (∀W,Calls Tryz.prog 93 #[.slice none 0 0,.int .u64 (n3:Int)] W (zc4 ([]++vp V.length) W)):=Hz (fun W=>by rw[HN3.out];exact zcz none 0 0 [] V.length W Reads.none_ (by omega) (by omega));have V1:=zap (n:=E.length) (by have:=HN1.out;omega);have V3:=zap (n:=V.length) (by omega);clear hn3 hV RE;go_wp2_with fail
  refine RW.out.mono ?_;rintro e w3 ⟨A4,n4,c4,rfl,o4,b3⟩;have hq4:n4<=40000000000:=by have:=o4.len;rw[zaa] at this;have:=HEL.out;omega
  have o3:=o3.later b3;have b03:=New.trans b02 b3;have hz3:=b03.size;clear RW b02 b2 b3 b1;go_wp2_with fail
  refine(P1.out _).mono ?_;rintro e w4 ⟨A5,n5,c5,rfl,k5,b4⟩;rw[List.nil_append] at k5;have hq5:n5<=10:=by have:=k5.len;rw[zaa] at this;omega
  have h35:=zf0 (zgj k5 (o3.base_le (Nat.zero_le _)));have h45:=zf0 (zgj k5 (o4.base_le (Nat.zero_le _)));have o3:=o3.later b4;have o4:=o4.later b4;have b04:=New.trans b03 b4;have hz4:=b04.size;have k5:=k5.base_le hz3;clear b4 b03 P1;go_wp2_with fail
  refine(P3.out _).mono ?_;rintro e w5 ⟨A6,n6,c6,rfl,k6,b5⟩;rw[List.nil_append] at k6;have hq6:n6<=10:=by have:=k6.len;rw[zaa] at this;omega
  have o3:=o3.later b5;have o4:=o4.later b5;have k5:=k5.later b5;have b05:=New.trans b04 b5;have hz5:=b05.size;clear b5 b04 P3;go_wp2_with (first
   |(refine zau elB rfl (.tmp 36) (.tmp 40) rfl (W:=w) (B:=w.heap.size) k5 k6.reads rfl rfl b05 (Nat.le_refl _) (by omega) (by omega) (by simp only[maxLen];omega) ?_
     intro A7 c7 w7 _ _ o7 g7 b7 d7;have h37:=zif h35 d7 o3;have h47:=zif h45 d7 o4;have p3:=o3.kept g7 h35;have p4:=o4.kept g7 h45;have hz7:=b7.size;clear k5 k6 o3 o4 g7 d7 h35 h45)
   |(refine zau elB rfl (.tmp 42) (.tmp 43) rfl (W:=w) (B:=w.heap.size) o7 p3.reads rfl rfl b7 (Nat.le_refl _) (by omega) (by omega) (by simp only[maxLen];omega) ?_
     intro A8 c8 w8 _ _ o8 g8 b8 d8;have q4:=p4.kept g8 h47;have hz8:=b8.size;clear o7 p3 p4 g8 h37 h47)
   |(refine zau elB rfl (.tmp 45) (.tmp 46) rfl (W:=w) (B:=w.heap.size) o8 q4.reads rfl rfl b8 (Nat.le_refl _) (by omega) (by omega) (by simp only[maxLen];omega) ?_
     intro A9 c9 w9 _ _ o9 _ b9 _))
  go_ret2
  have hM:=HM.out;rw[hM];exact⟨_,_,_,rfl,o9,b9⟩
open Go.RowKit Go.Hm
theorem z5y{t:Int}{l:List zab}{b:List Nat}(h:zjc t l=some b):b.length<=50000000000:=by
 unfold zjc at h;split at h
 ·cases h
 ·rename_i V hV
  split at h
  ·rename_i hl
   injection h with h;have p1:=(zk9 l).len;have e1:=zla l;have v1:V.length<=4300000000:=by rw[<-(plO_iff.1 hV).2];exact zxg (plO_iff.1 hV).1
   have el:=zsm (zkh hl) (by omega);have a:=zap (n:=(zgf l).1.length) (by omega);have b:=zap (n:=V.length) (by omega);rw[<-h];simp only[List.length_append];omega
  ·cases h
theorem qbb{t:Int}{l:List zab}{b:List Nat}(hd:∀c∈l,zai c)(h:zjc t l=some b):∀x∈b,x<256:=by
 unfold zjc at h;split at h
 ·cases h
 ·rename_i V hV
  split at h
  ·rename_i hl
   injection h with h;intro x hx;rw[<-h] at hx;simp only[List.mem_append] at hx;rcases hx with((hx|hx)|hx)|hx
   ·exact ze2 _ _ (Nat.le_refl _) x hx
   ·exact ze2 _ _ (Nat.le_refl _) x hx
   ·rw[<-(plO_iff.1 hV).2] at hx
    unfold plB at hx;split at hx
    ·exact zlx _ _ x hx
    ·obtain⟨c,hc,hx⟩:=List.mem_flatMap.1 hx
     have hcd:=hd c ((ziz l c).1 hc);unfold plE at hx;split at hx
     ·exact zlx _ _ x hx
     ·split at hx
      ·rcases List.mem_append.1 hx with k|k
       ·exact ze2 _ _ (Nat.le_refl _) x k
       ·exact hcd.1.2 x k
      ·split at hx
       ·rcases List.mem_append.1 hx with k|k
        ·exact ze2 _ _ (Nat.le_refl _) x k
        ·exact ze2 _ _ (Nat.le_refl _) x k
       ·simp at hx
   ·exact zob (zkh hl) x hx
  ·cases h
open Go.RowKit Go.Hm
def zij(x:Int):zab:=(false,x,[],0,0)
def zfv(s:List Nat):zab:=(false,0,s,0,0)
def cPt(p:Int × Int):zab:=(false,0,[],p.1,p.2)
theorem z2m{x:Int}:zaf (zij x) 0 false=true:=by simp[zaf,zij]
theorem z2n{s:List Nat}(h:s.length<=65536):zaf (zfv s) 2 false=true:=by simp[zaf,zfv,h]
theorem z6v{p:Int × Int}:zaf (cPt p) 3 false=inBox p.1 p.2:=by simp[zaf,cPt]
theorem z6w{c:zab}{t:Int}(ht:t=0\/t=1)(h:zaf c t false=true):c=zij c.2.1:=by
 have h0:=zgh h;obtain⟨y0,y1,y2,y3,y4⟩:=c;dsimp only at h0;subst h0;rcases ht with rfl|rfl
 ·have e:y2=[]/\y3=0/\y4=0:=by simpa[zaf] using h
  obtain⟨rfl,rfl,rfl⟩:=e;rfl
 ·have e:(y2=[]/\y3=0/\y4=0)/\(y1=0\/y1=1):=by simpa[zaf] using h
  obtain⟨⟨rfl,rfl,rfl⟩,-⟩:=e;rfl
theorem qfw{c:zab}(h:zaf c 2 false=true):c=zfv c.2.2.1:=by
 have h0:=zgh h;obtain⟨y0,y1,y2,y3,y4⟩:=c;dsimp only at h0;subst h0;have e:(y1=0/\y3=0/\y4=0)/\y2.length<=65536:=by simpa[zaf] using h
 obtain⟨⟨rfl,rfl,rfl⟩,-⟩:=e;rfl
theorem qhk{c:zab}(h:zaf c 3 false=true):c=cPt (c.2.2.2.1,c.2.2.2.2):=by
 have h0:=zgh h;obtain⟨y0,y1,y2,y3,y4⟩:=c;dsimp only at h0;subst h0;have e:(y1=0/\y2=[])/\inBox y3 y4=true:=by simpa[zaf] using h
 obtain⟨⟨rfl,rfl⟩,-⟩:=e;rfl
theorem zf4{t e:Int}(h:fitsV t e=true):(0<=e/\e<=4)/\0<=t/\t<=3:=by unfold fitsV at h;rw[decide_eq_true_eq] at h;omega
def zew(l:List zab):List Nat:=l.map fun c=>zig c.2.1
def zf5(l:List zab):List Int:=l.map fun c=>c.2.1
def zfk(l:List zab):List (List Nat):=l.map fun c=>c.2.2.1
def xsV(l:List zab):List Int:=l.map fun c=>c.2.2.2.1
def ysV(l:List zab):List Int:=l.map fun c=>c.2.2.2.2
def zjv(a:Int):List Int->List Int
 | []=>[]
 |x::l=>(x-a)::zjv x l
theorem zkn:∀(l:List Int) (a:Int),(zjv a l).length=l.length
 | [],_=>rfl
 |x::l,a=>by rw[zjv,List.length_cons,List.length_cons,zkn l]
theorem zsw{l:List Int}:∀{a:Int},(-1048576<=a/\a<=1048576)->(∀x∈l,-1048576<=x/\x<=1048576)-> ∀d∈zjv a l,-2097152<=d/\d<=2097152:=by
 induction l with
 |nil=>intro a _ _ d hd;simp[zjv] at hd
 |cons x l ih=>
  intro a ha h d hd;have hx:=h x (by simp);rw[zjv] at hd;rcases List.mem_cons.1 hd with rfl|hd
  ·omega
  ·exact ih hx (fun y hy=>h y (by simp[hy])) d hd
def encPts(l:List zab):Option (List Nat):=
 match zjz (zjv 0 (xsV l)),zjz (zjv 0 (ysV l)) with
 |some a,some b=>some (vp a.length++a++b)
 |_,_=>none
theorem zz7:∀(P:List (Int × Int)) (h:Int × Int),inBox h.1 h.2=true->(∀p∈P,inBox p.1 p.2=true)->zf2 h ((zjv h.1 (P.map (·.1))).zip (zjv h.2 (P.map (·.2))))=some P
 | [],_,_,_=>rfl
 |p::P,h,hh,hP=>by
  have hp:=hP p (by simp);have ih:=zz7 P p hp (fun q hq=>hP q (by simp[hq]));have h1:=inBox_iff.1 hh;have h2:=inBox_iff.1 hp;have hn:nearB (p.1-h.1) (p.2-h.2)=true:=nearB_iff.2 (by omega);simp only[List.map_cons,zjv,List.zip_cons_cons,zf2];rw[show h.1+(p.1-h.1)=p.1 by omega,show h.2+(p.2-h.2)=p.2 by omega,hn,hp,if_pos (show(true&&true)=true from rfl)];have ih2:zf2 (p.1,p.2) ((zjv p.1 (P.map (·.1))).zip (zjv p.2 (P.map (·.2))))=some P:=ih;rw[ih2];rfl
theorem zlj:∀(X Y:List Int) (h:Int × Int) (P:List (Int × Int)),X.length=Y.length->zf2 h (X.zip Y)=some P->
 P.length=X.length/\zjv h.1 (P.map (·.1))=X/\zjv h.2 (P.map (·.2))=Y/\ ∀p∈P,inBox p.1 p.2=true
 | [],[],h,P,_,e=>by
   simp[zf2] at e;subst e;simp[zjv]
 | [],b::Y,h,P,hl,e=>by simp at hl
 |a::X,[],h,P,hl,e=>by simp at hl
 |a::X,b::Y,h,P,hl,e=>by
  rw[List.zip_cons_cons,zf2] at e;split at e
  ·rename_i hc
   rw[Bool.and_eq_true] at hc;cases e2:zf2 (h.1+a,h.2+b) (X.zip Y) with
   |none=>rw[e2] at e;cases e
   |some P2=>
    rw[e2] at e;injection e with e;subst e;obtain⟨h1,h2,h3,h4⟩:=zlj X Y (h.1+a,h.2+b) P2 (by simpa using hl) e2;simp only[List.map_cons,zjv,List.length_cons,h1,h2,h3];refine⟨trivial,by congr 1;omega,by congr 1;omega,?_⟩;intro p hp;rcases List.mem_cons.1 hp with rfl|hp
    ·exact hc.2
    ·exact h4 p hp
  ·cases e
theorem zux:∀(P:List (Int × Int)) (h:Int × Int),(∀p∈P,inBox p.1 p.2=true)->zf3 h P=some ((zjv h.1 (P.map (·.1))).zip (zjv h.2 (P.map (·.2))))
 | [],_,_=>rfl
 |p::P,h,hP=>by
  rw[zf3,if_pos (hP p (by simp)),zux P p (fun q hq=>hP q (by simp[hq]))];rfl
def zdz(t e:Int)(l:List zab):Option (List Nat):=
 if e=0 then plO t l else if e=1 then zjc t l else if zh5 t l=true then
  (if e=2 then some (encL (zew l)) else if e=3 then(if t=3 then encPts l else zjz (zf5 l)) else zxj (zfk l)) else none
theorem qbw{t:Int}{l:List zab}{b:List Nat}(h:zjc t l=some b):zh5 t l=true:=by
 unfold zjc at h;split at h
 ·cases h
 ·rename_i V hV
  split at h
  ·rename_i hl
   obtain⟨⟨h0,h1,-⟩,h2⟩:=plOk_iff.1 (plO_iff.1 hV).1;exact plOk_iff.2 ⟨⟨h0,h1,hl⟩,fun c hc=>h2 c ((ziz l c).2 hc)⟩
  ·cases h
theorem zok{t e:Int}{l:List zab}{b:List Nat}(h:zdz t e l=some b):zh5 t l=true:=by
 unfold zdz at h;split at h
 ·exact(plO_iff.1 h).1
 ·split at h
  ·exact qbw h
  ·split at h
   ·assumption
   ·cases h
structure IsVal(t e:Int)(b:List Nat)(n:Int)(o:Option (List zab)):Prop where
 sound:∀l,o=some l->(l.length:Int)=n/\zdz t e l=some b/\ ∀c∈l,zai c
 compl:∀l,(∀c∈l,zai c)->(l.length:Int)=n->zdz t e l=some b->o=some l
theorem IsVal.uniq{t e:Int}{b:List Nat}{n:Int}{o p:Option (List zab)}(h:IsVal t e b n o)(k:IsVal t e b n p):o=p:=by
 cases o with
 |some l=>obtain⟨a,b,c⟩:=h.sound l rfl;exact(k.compl l c a b).symm
 |none=>
  cases p with
  |none=>rfl
  |some l=>obtain⟨a,b,c⟩:=k.sound l rfl;exact h.compl l c a b
theorem zol{t:Int}{b:List Nat}{n:Int}{o:Option (List zab)}(h:IsPl zai t b n o):IsVal t 0 b n o:=
 ⟨fun l e=>(by obtain⟨a,b,c⟩:=h.sound l e;exact⟨a,b,c⟩),fun l a b c=>h.compl l a b c⟩
theorem zq0{t:Int}{b:List Nat}{n:Int}{o:Option (List zab)}(h:IsDic t b n o):IsVal t 1 b n o:=
 ⟨fun l e=>(by obtain⟨a,b,c⟩:=h.sound l e;exact⟨a,b,c⟩),fun l a b c=>h.compl l a b c⟩
theorem z6x(m:List Nat):zew (m.map fun x=>zij (zag x))=m:=by
 unfold zew;rw[List.map_map];conv=>rhs;rw[<-List.map_id m]
 exact List.map_congr_left fun x _=>zwx x
theorem zko{l:List zab}(h:∀c∈l,zai c):∀x∈zew l,x<=18446744073709551615:=fun x hx=>by obtain⟨c,hc,rfl⟩:=List.mem_map.1 hx;have:=zj8 (x:=c.2.1) (h c hc).2;omega
def zh3(m:List Nat):List zab:=m.map fun x=>zij (zag x)
def qie(t:Int)(o:Option (List Nat)):Option (List zab):=
 match o with
 |none=>none
 |some m=>if(zh3 m).all (fun c=>zaf c t false)=true then some (zh3 m) else none
theorem zq1{t:Int}(ht:t=0\/t=1){b:List Nat}{n:Int}{o:Option (List Nat)}(h:IsDec b n o):IsVal t 2 b n (qie t o):=by
 have hv:∀l,zdz t 2 l=if zh5 t l=true then some (encL (zew l)) else none:=fun l=>by unfold zdz;simp
 constructor
 ·intro l hl
  cases o with
  |none=>cases hl
  |some m=>
   unfold qie zh3 at hl;dsimp only at hl;split at hl
   ·rename_i hr
    injection hl with hl;obtain⟨h1,h2,h3,h4⟩:=(h m).1 rfl;rw[List.all_eq_true] at hr;subst hl;refine⟨by simpa using h1,?_,fun c hc=>?_⟩
    ·rw[hv,if_pos (plOk_iff.2 ⟨⟨by omega,by omega,by simpa using h2⟩,hr⟩),z6x,h4]
    ·obtain⟨x,hx,rfl⟩:=List.mem_map.1 hc
     have:=zy6 (n:=x) (by have:=h3 x hx;omega);exact⟨⟨by simp[zij],by simp[zij]⟩,this⟩
   ·cases hl
 ·intro l hd hn hB
  rw[hv] at hB;split at hB
  ·rename_i hok
   injection hB with hB;obtain⟨⟨-,-,hl6⟩,hr⟩:=plOk_iff.1 hok;have e:=(h (zew l)).2 ⟨by unfold zew;simpa using hn,by unfold zew;simpa using hl6,zko hd,hB⟩;have hm:(zew l).map (fun x=>zij (zag x))=l:=by
    unfold zew;rw[List.map_map];conv=>rhs;rw[<-List.map_id l]
    refine List.map_congr_left fun c hc=>?_
    simp only[Function.comp,znt];exact(z6w ht (hr c hc)).symm
   rw[e];unfold qie zh3;dsimp only;rw[hm,if_pos (List.all_eq_true.2 hr)]
  ·cases hB
theorem zq2{b:List Nat}{n:Int}{o:Option (List Int)}(h:IsDel b n o):IsVal 0 3 b n (o.map fun l=>l.map zij):=by
 have hv:∀l,zdz 0 3 l=if zh5 0 l=true then zjz (zf5 l) else none:=fun l=>by unfold zdz;simp
 have hi:∀m:List Int,zf5 (m.map zij)=m:=fun m=>by
  unfold zf5;rw[List.map_map];conv=>rhs;rw[<-List.map_id m]
  exact List.map_congr_left fun x _=>rfl
 constructor
 ·intro l hl
  cases o with
  |none=>cases hl
  |some m=>
   injection hl with hl;subst hl;obtain⟨h1,h2,h3⟩:=h.sound m rfl;refine⟨by simpa using h1,?_,fun c hc=>?_⟩
   ·rw[hv,hi,if_pos]
    ·exact h2
    ·refine plOk_iff.2 ⟨⟨by omega,by omega,by have:=zho h2;simpa using this⟩,fun c hc=>?_⟩
     obtain⟨x,hx,rfl⟩:=List.mem_map.1 hc;exact z2m
   ·obtain⟨x,hx,rfl⟩:=List.mem_map.1 hc
    exact⟨⟨by simp[zij],by simp[zij]⟩,h3 x hx⟩
 ·intro l hd hn hB
  rw[hv] at hB;split at hB
  ·rename_i hok
   obtain⟨-,hr⟩:=plOk_iff.1 hok;have e:=h.compl (zf5 l) (fun x hx=>by obtain⟨c,hc,rfl⟩:=List.mem_map.1 hx;exact(hd c hc).2) (by unfold zf5;simpa using hn) hB;rw[e];simp only[Option.map_some,Option.some.injEq];unfold zf5;rw[List.map_map];conv=>rhs;rw[<-List.map_id l]
   refine List.map_congr_left fun c hc=>?_
   exact(z6w (.inl rfl) (hr c hc)).symm
  ·cases hB
theorem zq3{b:List Nat}{n:Int}(h8:∀x∈b,x<256):IsVal 2 4 b n ((zts b n).map fun l=>l.map zfv):=by
 have hv:∀l,zdz 2 4 l=if zh5 2 l=true then zxj (zfk l) else none:=fun l=>by unfold zdz;simp
 have hi:∀m:List (List Nat),zfk (m.map zfv)=m:=fun m=>by
  unfold zfk;rw[List.map_map];conv=>rhs;rw[<-List.map_id m]
  exact List.map_congr_left fun x _=>rfl
 constructor
 ·intro l hl
  cases e:zts b n with
  |none=>rw[e] at hl;cases hl
  |some m=>
   rw[e] at hl;injection hl with hl;subst hl;obtain⟨h1,h2⟩:=(zm1 h8).1 e;have h3:=qdx (n:=n) h8;rw[e] at h3;simp only[Option.getD_some] at h3;refine⟨by simpa using h1,?_,fun c hc=>?_⟩
   ·rw[hv,hi,if_pos]
    ·exact h2
    ·refine plOk_iff.2 ⟨⟨by omega,by omega,by simpa using h3.2.1⟩,fun c hc=>?_⟩
     obtain⟨x,hx,rfl⟩:=List.mem_map.1 hc;exact z2n (h3.2.2 x hx)
   ·obtain⟨x,hx,rfl⟩:=List.mem_map.1 hc
    have:=h3.2.2 x hx;exact⟨⟨by simp only[zfv];omega,h3.1 x hx⟩,by simp[zfv]⟩
 ·intro l hd hn hB
  rw[hv] at hB;split at hB
  ·rename_i hok
   obtain⟨-,hr⟩:=plOk_iff.1 hok;have e:=(zm1 h8).2 ⟨show((zfk l).length:Int)=n by unfold zfk;simpa using hn,hB⟩;rw[e];simp only[Option.map_some,Option.some.injEq];unfold zfk;rw[List.map_map];conv=>rhs;rw[<-List.map_id l]
   refine List.map_congr_left fun c hc=>?_
   exact(qfw (hr c hc)).symm
  ·cases hB
theorem qd0{l:List zab}(h:∀c∈l,zaf c 3 false=true):(∀x∈zjv 0 (xsV l),ze5 x)/\ ∀y∈zjv 0 (ysV l),ze5 y:=by have a:=zsw (l:=xsV l) (a:=0) (by omega) (fun x hx=>by obtain⟨c,hc,rfl⟩:=List.mem_map.1 hx;exact(zl1 (h c hc)).1);have b:=zsw (l:=ysV l) (a:=0) (by omega) (fun x hx=>by obtain⟨c,hc,rfl⟩:=List.mem_map.1 hx;exact(zl1 (h c hc)).2);exact⟨fun x hx=>by have:=a x hx;unfold ze5;omega,fun x hx=>by have:=b x hx;unfold ze5;omega⟩
def qfx(S:St)(ox oy:Option (List Int)):Option (List zab):=
 match S,ox,oy with
 |some _,some X,some Y=>(zf2 (0,0) (X.zip Y)).map fun P=>P.map cPt
 |_,_,_=>none
theorem zuy{b x y:List Nat}{n:Int}{sz:Nat}{S1 S2:St}{ox oy:Option (List Int)}(h8:∀x∈b,x<256)(hb:b.length<=140737488355200)
 (k1:lenS (b.length:Int) (some b)=(sz,S1))(k2:zbr (sz:Int) S1=(x,S2))(k3:S2.getD []=y)(hx:IsDel x n ox)(hy:IsDel y n oy):IsVal 3 3 b n (qfx S2 ox oy):=by
 have hv:∀l,zdz 3 3 l=if zh5 3 l=true then encPts l else none:=fun l=>by unfold zdz;simp
 constructor
 ·intro l hl
  unfold qfx at hl;split at hl
  ·rename_i r X Y
   cases e:zf2 (0,0) (X.zip Y) with
   |none=>rw[e] at hl;cases hl
   |some P=>
    rw[e] at hl;injection hl with hl;subst hl;obtain⟨x1,x2,x3⟩:=hx.sound X rfl;obtain⟨y1,y2,y3⟩:=hy.sound Y rfl;obtain⟨p1,p2,p3,p4⟩:=zlj X Y (0,0) P (by omega) e;have ex:xsV (P.map cPt)=P.map (·.1):=by unfold xsV;rw[List.map_map];rfl
    have ey:ysV (P.map cPt)=P.map (·.2):=by unfold ysV;rw[List.map_map];rfl
    have hlen:=zho x2;have hbyt:b=vp x.length++x++y:=by
     rcases zbp (b.length:Int) (some b) (St.ok_some h8) with q|⟨N,r1,e1,q1,_,q⟩
     ·rw[q] at k1
      injection k1 with k1 k1';subst k1 k1';rw[zdx] at k2;injection k2 with _ k2;cases k2
     ·rw[q] at k1
      injection k1 with k1 k1';subst k1 k1';injection e1 with e1;rcases zcd (N:Int) (some r1) with q4|⟨l2,e3,_,e5,q4⟩
      ·rw[q4] at k2
       injection k2 with _ k2;cases k2
      ·rw[q4] at k2
       injection e3 with e3;injection k2 with k2 k2';injection k2' with k2';subst e3;rw[Int.toNat_natCast] at k2 k2';have hxl:x.length=N:=by rw[<-k2,List.length_take];omega
       simp only[Option.getD_some] at k3;rw[e1,hxl,<-k3,<-k2',<-k2];simp
    refine⟨by rw[List.length_map];omega,?_,fun c hc=>?_⟩
    ·rw[hv,if_pos]
     ·unfold encPts
      rw[ex,ey,p2,p3,x2,y2];dsimp only;rw[hbyt]
     ·refine plOk_iff.2 ⟨⟨by omega,by omega,by rw[List.length_map];omega⟩,fun c hc=>?_⟩
      obtain⟨p,hp,rfl⟩:=List.mem_map.1 hc;rw[z6v];exact p4 p hp
    ·obtain⟨p,hp,rfl⟩:=List.mem_map.1 hc
     exact⟨⟨by simp[cPt],by simp[cPt]⟩,by simp[cPt]⟩
  ·cases hl
 ·intro l hd hn hB
  rw[hv] at hB;split at hB
  ·rename_i hok
   obtain⟨-,hr⟩:=plOk_iff.1 hok;obtain⟨i1,i2⟩:=qd0 hr;unfold encPts at hB;split at hB
   ·rename_i a c ha hc
    injection hB with hB;have hal:=zhp i1 ha;have hbl:=congrArg List.length hB;simp only[List.length_append] at hbl;have a1:lenS (b.length:Int) (some b)=(a.length,some (a++c)):=by rw[<-hB,List.append_assoc];refine zby _ _ ?_ (by simp only[List.length_append] at hbl⊢;omega);simp only[List.length_append];omega
    rw[a1] at k1;injection k1 with k1 k1';subst k1 k1';rw[zdh] at k2;injection k2 with k2 k2';subst k2 k2';simp only[Option.getD_some] at k3;subst k3;have ex:=hx.compl _ i1 (by rw[zkn];unfold xsV;simpa using hn) ha;have ey:=hy.compl _ i2 (by rw[zkn];unfold ysV;simpa using hn) hc;rw[ex,ey];unfold qfx;dsimp only;have hP:=zz7 (l.map fun c=>(c.2.2.2.1,c.2.2.2.2)) (0,0) (by decide) (fun p hp=>by obtain⟨c,hc,rfl⟩:=List.mem_map.1 hp;have:=zl1 (hr c hc);exact inBox_iff.2 (by dsimp only;omega))
    rw[List.map_map,List.map_map] at hP;have e1:(l.map ((fun x:Int × Int=>x.1) ∘ fun c:zab=>(c.2.2.2.1,c.2.2.2.2)))=xsV l:=rfl;have e2:(l.map ((fun x:Int × Int=>x.2) ∘ fun c:zab=>(c.2.2.2.1,c.2.2.2.2)))=ysV l:=rfl;rw[e1,e2] at hP;rw[hP];simp only[Option.map_some,Option.some.injEq];rw[List.map_map];conv=>rhs;rw[<-List.map_id l]
    refine List.map_congr_left fun c hc=>?_
    exact(qhk (hr c hc)).symm
   ·cases hB
  ·cases hB
def zcw(t:Int)(l:List zab):Nat->Int × Nat
 |0=>(-1,0)
 |k+1=>match(if fitsV t (k:Int)=true then zdz t (k:Int) l else none) with
  |some b=>if(zcw t l k).1<0\/b.length<(zcw t l k).2 then((k:Int),b.length) else zcw t l k
  |none=>zcw t l k
def bestV(t:Int)(l:List zab):Int:=(zcw t l 5).1
theorem zsx(t:Int)(l:List zab):∀k,(zcw t l k).1= -1/\(zcw t l k).2=0\/(0<=(zcw t l k).1/\(zcw t l k).1<(k:Int)/\fitsV t (zcw t l k).1=true/\ ∃b,zdz t (zcw t l k).1 l=some b/\b.length=(zcw t l k).2)
 |0=> .inl ⟨rfl,rfl⟩
 |k+1=>by
  have ih:(zcw t l k).1= -1/\(zcw t l k).2=0\/(0<=(zcw t l k).1/\(zcw t l k).1<((k+1:Nat):Int)/\fitsV t (zcw t l k).1=true/\ ∃b,zdz t (zcw t l k).1 l=some b/\b.length=(zcw t l k).2):=by
   rcases zsx t l k with h|⟨h1,h2,h3⟩
   ·exact .inl h
   ·exact .inr ⟨h1,by omega,h3⟩
  rw[zcw];split
  ·rename_i b hb
   split at hb
   ·rename_i hf
    split
    ·exact .inr ⟨by dsimp only;omega,by dsimp only;omega,hf,b,hb,rfl⟩
    ·exact ih
   ·cases hb
  ·exact ih
theorem zi5(t:Int)(l:List zab){k:Nat}(h:0<=(zcw t l k).1):0<=(zcw t l (k+1)).1:=by
 rw[zcw];split
 ·split
  ·dsimp only;omega
  ·exact h
 ·exact h
theorem zuz{t:Int}{l:List zab}(h:zh5 t l=true):fitsV t (bestV t l)=true/\ ∃b,zdz t (bestV t l) l=some b:=by
 obtain⟨⟨h0,h1,-⟩,-⟩:=plOk_iff.1 h;have e1:0<=(zcw t l 1).1:=by
  have hv:zdz t ((0:Nat):Int) l=some (plB t l):=by unfold zdz;rw[if_pos (show((0:Nat):Int)=0 from rfl)];exact plO_iff.2 ⟨h,rfl⟩
  have hf:fitsV t ((0:Nat):Int)=true:=by unfold fitsV;rw[decide_eq_true_eq];omega
  rw[zcw,if_pos hf,hv];dsimp only;rw[if_pos (.inl (by rw[zcw];omega))];exact Int.le_refl _
 have e5:=zi5 t l (zi5 t l (zi5 t l (zi5 t l e1)));rcases zsx t l 5 with h|⟨_,_,h3,b,h4,_⟩
 ·exact absurd e5 (by rw[h.1];omega)
 ·exact⟨h3,b,h4⟩
end Go.Proofs.Y
namespace Go.Hm
open Go Go.RowKit
theorem Own.str0{w:World}{base:Nat}{e:TypeId}{g n c i:Nat}{l:List (List Nat)}(h:Own w base e (.slice (some ⟨g,0,none⟩) n c) (zmn l))(hi:i<n):
 base<=g/\g<w.heap.size/\w.cell? ⟨g,i,none⟩=some (.string (zac (l.getD i [])))/\w.frozen? ⟨g,i,none⟩=false/\
  ∀y:List Nat,Own (w.setCell ⟨g,i,none⟩ (.string (zac y))) base e (.slice (some ⟨g,0,none⟩) n c) (zmn (l.set i y)):=by
 have hn:=h.len;rw[zet] at hn;obtain⟨u,h3,h1,h2,h4,h5,h6⟩:=h.at0 hi;rw[z4n l i (by omega)] at h3;injection h3 with h3;subst h3;refine⟨h1,h2,h4,h5,fun y=>?_⟩;have e:zmn (l.set i y)=(zmn l).set i (.string (zac y)):=by simp[zmn]
 rw[e];exact h6 _
theorem z7x{P:List (List Nat)}{n k:Nat}(q:List Nat)(hP:P.length=k)(hk:k<n):(P++List.replicate (n-k) []).set k q=(P++[q])++List.replicate (n-(k+1)) []:=by rw[List.set_append_right _ _ (by omega),hP,Nat.sub_self,show n-k=(n-(k+1))+1 by omega,List.replicate_succ,List.set_cons_zero,List.append_assoc];rfl
end Go.Hm
namespace Go.Proofs.Y
open Go.RowKit Go.Hm
def OptX(o:Option (List Nat))(w:World)(e:Ending)(w':World):Prop:=
 match o with
 |none=>(∃v,e= .returned (.tuple #[v,.bool false]))/\New w w'
 |some l=>∃A n c,e= .returned (.tuple #[.slice A n c,.bool true])/\Go.Hm.Own w' w.heap.size 5 (.slice A n c) (za2 .u8 l)/\New w w'
theorem OptB.x{o:Option (List Nat)}{w w':World}{e:Ending}(h:OptB o w e w'):OptX o w e w':=by
 cases o with
 |none=>exact⟨⟨_,h.1⟩,h.2⟩
 |some l=>exact h
theorem OptX.later{o:Option (List Nat)}{w w1 w':World}{e:Ending}(h:OptX o w1 e w')(b:New w w1):OptX o w e w':=by
 cases o with
 |none=>exact⟨h.1,New.trans b h.2⟩
 |some l=>
  obtain⟨A,n,c,h1,h2,h3⟩:=h;exact⟨A,n,c,h1,h2.base_le b.size,New.trans b h3⟩
theorem zhb{w:World}{t:Int}{A:Option Addr}{n c:Nat}{L:List zab}(h:Reads w w.heap.size 5 A n (recs zan L))(hL:∀y∈L,zai y)(hn:n<=4611686018427387903):
 Calls Tryz.prog 210 #[.int .i64 t,.slice A n c] w (zak (.bool (zh5 t L)) w):=by
 have P:=Hz (zkf (t:=t) (c:=c) h hL hn);have e:(plO t L).isSome=zh5 t L:=by unfold plO;cases zh5 t L<;> rfl
 rw[<-e];clear h hL e;generalize plO t L=O at*;go_enter Tryz.func210,Tryz.ntmps210
 go_wp2_with fail
 refine P.out.mono ?_;intro e w1 h1;cases O with
 |none=>
  obtain⟨rfl,b1⟩:=h1;go_wp2
  go_ret
  exact⟨rfl,b1⟩
 |some l=>
  obtain⟨A1,n1,c1,rfl,-,b1⟩:=h1;go_wp2
  go_ret
  exact⟨rfl,b1⟩
set_option maxRecDepth 100000 in
theorem zp9{w:World}{t:Int}{A:Option Addr}{n c:Nat}{L:List zab}(h:Reads w w.heap.size 5 A n (recs zan L))(hL:∀y∈L,zai y)(hn:n<=4611686018):
 Calls Tryz.prog 184 #[.int .i64 t,.slice A n c] w (OptX (zdz t 2 L) w):=by
 obtain rfl:=h.lenCell;have RI:=Hz (zhb (t:=t) (c:=c) h hL (by omega));have hv:zdz t 2 L=if zh5 t L=true then some (encL (zew L)) else none:=by unfold zdz;simp
 have hlen:zh5 t L=true->L.length<=65536:=fun e=>(plOk_iff.1 e).1.2.2
 obtain⟨X,hX⟩:∃X,X=zdz t 2 L:=⟨_,rfl⟩;rw[<-hX];have HX:=Hz (hX.trans hv);have HR:=Hz h;have HL:=Hz hL;have HW:=Hz (zko hL);clear hv hX h hL;generalize zh5 t L=O at*;go_enter Tryz.func184,Tryz.ntmps184
 go_wp2_with fail
 refine RI.out.mono ?_;rintro e W0 ⟨rfl,b0⟩;clear RI;cases O with
 |false=>
  have hx:X=none:=by rw[HX.out];rfl
  subst hx;go_wp2
  go_ret2
  exact⟨⟨_,rfl⟩,b0⟩
 |true=>
  have hx:=HX.out;rw[if_pos rfl] at hx;replace HX:=Hz hx;clear hx;have hl6:=hlen rfl;clear hlen
  go_wp2_with (refine zcf elW rfl (.tmp 14) (.tmp 14) rfl (W:=W0) (B:=W0.heap.size) L.length L.length rfl rfl rfl rfl (Nat.le_refl _) (Below.refl _ _) (Nat.le_refl _) rfl (by omega) (by simp only[maxLen];omega) ?_
               intro w1 o1 _ b1 s1)
  go_loopw [18] (fun i wr=>∃k:Nat,k<=L.length/\i= .int .i64 (k:Int)/\Go.Hm.Own wr W0.heap.size 87 (.slice (some ⟨W0.heap.size,0,none⟩) L.length L.length) (za2 .u64 (zew (L.take k)++List.replicate (L.length-k) 0))/\New W0 wr) (fun i _=>L.length-(intOf i).toNat)
  case atStart=>exact⟨0,Nat.zero_le _,rfl,by simpa[zew,zbt,zdj,zmn,zac] using o1,b1⟩
  case round=>
   clear o1 b1 s1;obtain⟨k,hk,rfl,o,b⟩:=hrel;by_cases hlt:k<L.length
   ·obtain⟨ad,rfl,_,d0,d1,d2,d3,d4⟩:=(Reads.later HR.out (New.trans b0 b)).cell5 hlt
    have hd:=HL.out _ (zc5 (false,0,[],0,0) hlt);have hst:zew (L.take (k+1))=zew (L.take k)++zew [L.getD k (false,0,[],0,0)]:=by rw[zae L k (false,0,[],0,0) hlt];simp[zew]
    have hll:(zew (L.take k)).length=k:=by unfold zew;rw[List.length_map,List.length_take];omega
    have i1:(k:Int)<(L.length:Int):=by omega
    generalize L.getD k (false,0,[],0,0)=x at*;obtain⟨xb,xn,xs,xx,xy⟩:=x;have hst:zew (L.take (k+1))=zew (L.take k)++[zig xn]:=hst;dsimp only at d0 d1 d2 d3 d4;have b2:New wr (wr.alloc (.cells #[.bool xb,.int .i64 xn,.string (zac xs),.int .i64 xx,.int .i64 xy] 61)):=(Below.refl _ _).alloc (Nat.le_refl _) _;have B2:=Blk.new wr 61 #[.bool xb,.int .i64 xn,.string (zac xs),.int .i64 xx,.int .i64 xy];have o2:=o.later b2;have b02:=New.trans b b2;obtain⟨p0,p1,p2,p3,p4⟩:=zcb B2;obtain⟨hg0,hgl,hc,hf,hset⟩:=o2.num0 (i:=k) hlt;have hs2:=hset (zig xn);rw[zvs _ hll hlt,<-hst] at hs2;have HSet:=Hz hs2;have HB2:=Hz (fun q=>b02.setCell (p:=⟨W0.heap.size,k,none⟩) (Nat.le_refl _) q);generalize(zew (L.take k)++List.replicate (L.length-k) 0).getD k 0=q0 at*;have ZG:=Hz (fun W=>znu xn W hd.2.1 hd.2.2);clear hst hll hset hs2 o b b2 o2 b02 B2 hd;go_wp2_with fail
    refine(ZG.out _).mono ?_;rintro e w5 ⟨rfl,rfl⟩;go_wp2_with fail
    go_roundw
    case rel=>exact⟨k+1,by omega,by go_num,HSet.out,HB2.out _⟩
    case measure=>simp[intOf];omega
   ·obtain rfl:k=L.length:=by omega
    have hS:zew (L.take L.length)=zew L:=by rw[List.take_length]
    rw[hS,Nat.sub_self,List.replicate_zero,List.append_nil] at o;clear hS hlt;have b00:=New.trans b0 b;have E:=Hz (z5x (c:=L.length) o.reads (Nat.le_refl _) HW.out hl6);go_wp2_with fail
    refine E.out.mono ?_;rintro e w6 ⟨A6,n6,c6,rfl,o6,b6⟩;go_wp2_with fail
    go_ret2
    rw[HX.out];exact⟨_,_,_,rfl,o6.base_le b00.size,New.trans b00 b6⟩
set_option maxRecDepth 100000 in
theorem zqa{w:World}{A:Option Addr}{n c:Nat}{L:List zab}(h:Reads w w.heap.size 5 A n (recs zan L))(hL:∀y∈L,zai y)(hn:n<=4611686018):
 Calls Tryz.prog 186 #[.int .i64 0,.slice A n c] w (OptX (zdz 0 3 L) w):=by
 obtain rfl:=h.lenCell;have RI:=Hz (zhb (t:=0) (c:=c) h hL (by omega));have hv:zdz 0 3 L=if zh5 0 L=true then zjz (zf5 L) else none:=by unfold zdz;simp
 obtain⟨X,hX⟩:∃X,X=zdz 0 3 L:=⟨_,rfl⟩;rw[<-hX];have HX:=Hz (hX.trans hv);have HR:=Hz h;have HL:=Hz hL;have HW:Hid (∀x∈zf5 L,ze5 x):=Hz (fun x hx=>by obtain⟨c,hc,rfl⟩:=List.mem_map.1 hx;exact(hL c hc).2);clear hv hX h hL;generalize zh5 0 L=O at*;go_enter Tryz.func186,Tryz.ntmps186
 go_wp2_with fail
 refine RI.out.mono ?_;rintro e W0 ⟨rfl,b0⟩;clear RI;cases O with
 |false=>
  have hx:X=none:=by rw[HX.out];rfl
  subst hx;go_wp2
  go_ret2
  exact⟨⟨_,rfl⟩,b0⟩
 |true=>
  have hx:=HX.out;rw[if_pos rfl] at hx;replace HX:=Hz hx;clear hx
  go_wp2_with (refine zcf elI rfl (.tmp 20) (.tmp 20) rfl (W:=W0) (B:=W0.heap.size) L.length L.length rfl rfl rfl rfl (Nat.le_refl _) (Below.refl _ _) (Nat.le_refl _) rfl (by omega) (by simp only[maxLen];omega) ?_
               intro w1 o1 _ b1 s1)
  go_loopw [24] (fun i wr=>∃k:Nat,k<=L.length/\i= .int .i64 (k:Int)/\Go.Hm.Own wr W0.heap.size 3 (.slice (some ⟨W0.heap.size,0,none⟩) L.length L.length) (zeq .i64 (zf5 (L.take k)++List.replicate (L.length-k) 0))/\New W0 wr) (fun i _=>L.length-(intOf i).toNat)
  case atStart=>exact⟨0,Nat.zero_le _,rfl,by simpa[zf5,zbt,zdj,zmn,zac] using o1,b1⟩
  case round=>
   clear o1 b1 s1;obtain⟨k,hk,rfl,o,b⟩:=hrel;by_cases hlt:k<L.length
   ·obtain⟨ad,rfl,_,d0,d1,d2,d3,d4⟩:=(Reads.later HR.out (New.trans b0 b)).cell5 hlt
    have hd:=HL.out _ (zc5 (false,0,[],0,0) hlt);have hst:zf5 (L.take (k+1))=zf5 (L.take k)++zf5 [L.getD k (false,0,[],0,0)]:=by rw[zae L k (false,0,[],0,0) hlt];simp[zf5]
    have hll:(zf5 (L.take k)).length=k:=by unfold zf5;rw[List.length_map,List.length_take];omega
    have i1:(k:Int)<(L.length:Int):=by omega
    generalize L.getD k (false,0,[],0,0)=x at*;obtain⟨xb,xn,xs,xx,xy⟩:=x;have hst:zf5 (L.take (k+1))=zf5 (L.take k)++[xn]:=hst;dsimp only at d0 d1 d2 d3 d4;have b2:New wr (wr.alloc (.cells #[.bool xb,.int .i64 xn,.string (zac xs),.int .i64 xx,.int .i64 xy] 61)):=(Below.refl _ _).alloc (Nat.le_refl _) _;have B2:=Blk.new wr 61 #[.bool xb,.int .i64 xn,.string (zac xs),.int .i64 xx,.int .i64 xy];have o2:=o.later b2;have b02:=New.trans b b2;obtain⟨p0,p1,p2,p3,p4⟩:=zcb B2;obtain⟨hg0,hgl,hc,hf,hset⟩:=o2.int0 (i:=k) hlt;have hs2:=hset (xn);rw[zis _ hll hlt,<-hst] at hs2;have HSet:=Hz hs2;have HB2:=Hz (fun q=>b02.setCell (p:=⟨W0.heap.size,k,none⟩) (Nat.le_refl _) q);generalize(zf5 (L.take k)++List.replicate (L.length-k) 0).getD k 0=q0 at*;clear hst hll hset hs2 o b b2 o2 b02 B2 hd;go_wp2_with fail
    go_roundw
    case rel=>exact⟨k+1,by omega,by go_num,HSet.out,HB2.out _⟩
    case measure=>simp[intOf];omega
   ·obtain rfl:k=L.length:=by omega
    have hS:zf5 (L.take L.length)=zf5 L:=by rw[List.take_length]
    rw[hS,Nat.sub_self,List.replicate_zero,List.append_nil] at o;clear hS hlt;have b00:=New.trans b0 b;have E:=Hz (zfb (c:=L.length) o.reads HW.out (by omega));go_wp2_with fail
    refine E.out.mono ?_;intro e w6 h6;have h6:=OptX.later (OptB.x h6) b00;rw[<-HX.out] at h6;cases X with
    |none=>
     obtain⟨⟨v,rfl⟩,b6⟩:=h6;go_wp2_with fail
     go_ret2
     exact⟨⟨_,rfl⟩,b6⟩
    |some d=>
     obtain⟨A6,n6,c6,rfl,o6,b6⟩:=h6;go_wp2_with fail
     go_ret2
     exact⟨_,_,_,rfl,o6,b6⟩
set_option maxRecDepth 100000 in
theorem zo8{w:World}{t:Int}{A:Option Addr}{n c:Nat}{L:List zab}(h:Reads w w.heap.size 5 A n (recs zan L))(hL:∀y∈L,zai y)(hn:n<=4611686018):
 Calls Tryz.prog 188 #[.int .i64 t,.slice A n c] w (OptX (zdz t 4 L) w):=by
 obtain rfl:=h.lenCell;have RI:=Hz (fun(W:World) (hW:New w W)=>zhb (t:=t) (c:=c) (Reads.later h hW) hL (by omega));have hv:zdz t 4 L=if zh5 t L=true then zxj (zfk L) else none:=by unfold zdz;simp
 obtain⟨X,hX⟩:∃X,X=zdz t 4 L:=⟨_,rfl⟩;rw[<-hX];have HX:=Hz (hX.trans hv);have HR:=Hz h;have HL:=Hz hL;have HW:Hid (∀s∈zfk L,(∀x∈s,x<256)/\s.length<=140737488351232):=Hz (fun x hx=>by obtain⟨c,hc,rfl⟩:=List.mem_map.1 hx;exact⟨(hL c hc).1.2,(hL c hc).1.1⟩);clear hv hX h hL;generalize zh5 t L=O at*;have b0:New w w:=New.refl w;go_enter Tryz.func188,Tryz.ntmps188
 go_wp2_with (refine zcf elS rfl (.tmp 12) (.tmp 12) rfl (W:=w) (B:=w.heap.size) L.length L.length rfl rfl rfl rfl (Nat.le_refl _) (Below.refl _ _) (Nat.le_refl _) rfl (by omega) (by simp only[maxLen];omega) ?_
              intro w1 o1 _ b1 s1)
 go_loopw [16] (fun i wr=>∃k:Nat,k<=L.length/\i= .int .i64 (k:Int)/\Go.Hm.Own wr w.heap.size 9 (.slice (some ⟨w.heap.size,0,none⟩) L.length L.length) (zmn (zfk (L.take k)++List.replicate (L.length-k) []))/\New w wr) (fun i _=>L.length-(intOf i).toNat)
 case atStart=>exact⟨0,Nat.zero_le _,rfl,by simpa[zfk,zbt,zdj,zmn,zac] using o1,b1⟩
 case round=>
  clear o1 b1 s1;obtain⟨k,hk,rfl,o,b⟩:=hrel;by_cases hlt:k<L.length
  ·obtain⟨ad,rfl,_,d0,d1,d2,d3,d4⟩:=(Reads.later HR.out (New.trans b0 b)).cell5 hlt
   have hd:=HL.out _ (zc5 (false,0,[],0,0) hlt);have hst:zfk (L.take (k+1))=zfk (L.take k)++zfk [L.getD k (false,0,[],0,0)]:=by rw[zae L k (false,0,[],0,0) hlt];simp[zfk]
   have hll:(zfk (L.take k)).length=k:=by unfold zfk;rw[List.length_map,List.length_take];omega
   have i1:(k:Int)<(L.length:Int):=by omega
   generalize L.getD k (false,0,[],0,0)=x at*;obtain⟨xb,xn,xs,xx,xy⟩:=x;have hst:zfk (L.take (k+1))=zfk (L.take k)++[xs]:=hst;dsimp only at d0 d1 d2 d3 d4;have b2:New wr (wr.alloc (.cells #[.bool xb,.int .i64 xn,.string (zac xs),.int .i64 xx,.int .i64 xy] 61)):=(Below.refl _ _).alloc (Nat.le_refl _) _;have B2:=Blk.new wr 61 #[.bool xb,.int .i64 xn,.string (zac xs),.int .i64 xx,.int .i64 xy];have o2:=o.later b2;have b02:=New.trans b b2;obtain⟨p0,p1,p2,p3,p4⟩:=zcb B2;obtain⟨hg0,hgl,hc,hf,hset⟩:=o2.str0 (i:=k) hlt;have hs2:=hset (xs);rw[z7x _ hll hlt,<-hst] at hs2;have HSet:=Hz hs2;have HB2:=Hz (fun q=>b02.setCell (p:=⟨w.heap.size,k,none⟩) (Nat.le_refl _) q);generalize(zfk (L.take k)++List.replicate (L.length-k) []).getD k []=q0 at*;clear hst hll hset hs2 o b b2 o2 b02 B2 hd;go_wp2_with fail
   go_roundw
   case rel=>exact⟨k+1,by omega,by go_num,HSet.out,HB2.out _⟩
   case measure=>simp[intOf];omega
  ·obtain rfl:k=L.length:=by omega
   have hS:zfk (L.take L.length)=zfk L:=by rw[List.take_length]
   rw[hS,Nat.sub_self,List.replicate_zero,List.append_nil] at o;clear hS hlt;have b00:=New.trans b0 b;have E:=Hz (qcf (c:=L.length) o.reads (fun s hs=>(HW.out s hs).1) (fun s hs=>(HW.out s hs).2) (by omega));go_wp2_with fail
   refine E.out.mono ?_;intro e w6 h6;generalize zxj (zfk L)=E6 at*;cases E6 with
   |none=>
    have hx:X=none:=by rw[HX.out];cases O<;> rfl
    subst hx;obtain⟨rfl,b6⟩:=h6;go_wp2_with fail
    go_ret2
    exact⟨⟨_,rfl⟩,New.trans b00 b6⟩
   |some d=>
    obtain⟨A6,n6,c6,rfl,o6,b6⟩:=h6;have b06:=New.trans b00 b6;have RW:=Hz (RI.out _ b06);have o6:=o6.base_le (b':=w.heap.size) b00.size;clear b6 E RI;go_wp2_with fail
    refine RW.out.mono ?_;rintro e w7 ⟨rfl,b7⟩;have o7:=o6.later b7;cases O with
    |false=>
     have hx:X=none:=by rw[HX.out];rfl
     subst hx;go_wp2_with fail
     go_ret2
     exact⟨⟨_,rfl⟩,New.trans b06 b7⟩
    |true=>
     have hx:X=some d:=by rw[HX.out];rfl
     subst hx;go_wp2_with fail
     go_ret2
     exact⟨_,_,_,rfl,o7,New.trans b06 b7⟩
end Go.Proofs.Y
