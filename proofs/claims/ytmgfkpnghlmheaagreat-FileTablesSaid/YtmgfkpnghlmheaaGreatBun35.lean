/- Merged. -/
import Derived.Test.YtmgfkpnghlmheaaGreatBun21
import Derived.Test.YtmgfkpnghlmheaaGreatBun22
import Derived.Test.YtmgfkpnghlmheaaGreatBun34
set_option maxHeartbeats 8000000
namespace Go.Proofs.Y
open Go.RowKit Go.Hm
def zin(x:Int):zab:=(false,x,[],0,0)
def zfl(s:List Nat):zab:=(false,0,s,0,0)
def cPt(p:Int × Int):zab:=(false,0,[],p.1,p.2)
theorem z17{x:Int}:zac (zin x) 0 false=true:=by simp[zac,zin]
theorem z18{s:List Nat}(h:s.length<=65536):zac (zfl s) 2 false=true:=by simp[zac,zfl,h]
theorem z6h{p:Int × Int}:zac (cPt p) 3 false=inBox p.1 p.2:=by simp[zac,cPt]
theorem z6i{c:zab}{t:Int}(ht:t=0\/t=1)(h:zac c t false=true):c=zin c.2.1:=by
 have h0:=zge h;obtain⟨y0,y1,y2,y3,y4⟩:=c;dsimp only at h0;subst h0;rcases ht with rfl|rfl
 ·have e:y2=[]/\y3=0/\y4=0:=by simpa[zac] using h
  obtain⟨rfl,rfl,rfl⟩:=e;rfl
 ·have e:(y2=[]/\y3=0/\y4=0)/\(y1=0\/y1=1):=by simpa[zac] using h
  obtain⟨⟨rfl,rfl,rfl⟩,-⟩:=e;rfl
theorem qfx{c:zab}(h:zac c 2 false=true):c=zfl c.2.2.1:=by
 have h0:=zge h;obtain⟨y0,y1,y2,y3,y4⟩:=c;dsimp only at h0;subst h0;have e:(y1=0/\y3=0/\y4=0)/\y2.length<=65536:=by simpa[zac] using h
 obtain⟨⟨rfl,rfl,rfl⟩,-⟩:=e;rfl
theorem qhj{c:zab}(h:zac c 3 false=true):c=cPt (c.2.2.2.1,c.2.2.2.2):=by
 have h0:=zge h;obtain⟨y0,y1,y2,y3,y4⟩:=c;dsimp only at h0;subst h0;have e:(y1=0/\y2=[])/\inBox y3 y4=true:=by simpa[zac] using h
 obtain⟨⟨rfl,rfl⟩,-⟩:=e;rfl
theorem zf0{t e:Int}(h:fitsV t e=true):(0<=e/\e<=4)/\0<=t/\t<=3:=by unfold fitsV at h;rw[decide_eq_true_eq] at h;omega
def zee(l:List zab):List Nat:=l.map fun c=>zig c.2.1
def ze4(l:List zab):List Int:=l.map fun c=>c.2.1
def zbi(l:List zab):List (List Nat):=l.map fun c=>c.2.2.1
def xsV(l:List zab):List Int:=l.map fun c=>c.2.2.2.1
def ysV(l:List zab):List Int:=l.map fun c=>c.2.2.2.2
def zjk(a:Int):List Int->List Int
 | []=>[]
 |x::l=>(x-a)::zjk x l
theorem zgk:∀(l:List Int) (a:Int),(zjk a l).length=l.length
 | [],_=>rfl
 |x::l,a=>by rw[zjk,List.length_cons,List.length_cons,zgk l]
theorem zsw{l:List Int}:∀{a:Int},(-1048576<=a/\a<=1048576)->(∀x∈l,-1048576<=x/\x<=1048576)-> ∀d∈zjk a l,-2097152<=d/\d<=2097152:=by
 induction l with
 |nil=>intro a _ _ d hd;simp[zjk] at hd
 |cons x l ih=>
  intro a ha h d hd;have hx:=h x (by simp);rw[zjk] at hd;rcases List.mem_cons.1 hd with rfl|hd
  ·omega
  ·exact ih hx (fun y hy=>h y (by simp[hy])) d hd
def encPts(l:List zab):Option (List Nat):=
 match zjq (zjk 0 (xsV l)),zjq (zjk 0 (ysV l)) with
 |some a,some b=>some (vp a.length++a++b)
 |_,_=>none
theorem zzq:∀(P:List (Int × Int)) (h:Int × Int),inBox h.1 h.2=true->(∀p∈P,inBox p.1 p.2=true)->zfy h ((zjk h.1 (P.map (·.1))).zip (zjk h.2 (P.map (·.2))))=some P
 | [],_,_,_=>rfl
 |p::P,h,hh,hP=>by
  have hp:=hP p (by simp);have ih:=zzq P p hp (fun q hq=>hP q (by simp[hq]));have h1:=inBox_iff.1 hh;have h2:=inBox_iff.1 hp;have hn:nearB (p.1-h.1) (p.2-h.2)=true:=nearB_iff.2 (by omega);simp only[List.map_cons,zjk,List.zip_cons_cons,zfy];rw[show h.1+(p.1-h.1)=p.1 by omega,show h.2+(p.2-h.2)=p.2 by omega,hn,hp,if_pos (show(true&&true)=true from rfl)];have ih2:zfy (p.1,p.2) ((zjk p.1 (P.map (·.1))).zip (zjk p.2 (P.map (·.2))))=some P:=ih;rw[ih2];rfl
theorem zlv:∀(X Y:List Int) (h:Int × Int) (P:List (Int × Int)),X.length=Y.length->zfy h (X.zip Y)=some P->
 P.length=X.length/\zjk h.1 (P.map (·.1))=X/\zjk h.2 (P.map (·.2))=Y/\ ∀p∈P,inBox p.1 p.2=true
 | [],[],h,P,_,e=>by
   simp[zfy] at e;subst e;simp[zjk]
 | [],b::Y,h,P,hl,e=>by simp at hl
 |a::X,[],h,P,hl,e=>by simp at hl
 |a::X,b::Y,h,P,hl,e=>by
  rw[List.zip_cons_cons,zfy] at e;split at e
  ·rename_i hc
   rw[Bool.and_eq_true] at hc;cases e2:zfy (h.1+a,h.2+b) (X.zip Y) with
   |none=>rw[e2] at e;cases e
   |some P2=>
    rw[e2] at e;injection e with e;subst e;obtain⟨h1,h2,h3,h4⟩:=zlv X Y (h.1+a,h.2+b) P2 (by simpa using hl) e2;simp only[List.map_cons,zjk,List.length_cons,h1,h2,h3];refine⟨trivial,by congr 1;omega,by congr 1;omega,?_⟩;intro p hp;rcases List.mem_cons.1 hp with rfl|hp
    ·exact hc.2
    ·exact h4 p hp
  ·cases e
theorem zuy:∀(P:List (Int × Int)) (h:Int × Int),(∀p∈P,inBox p.1 p.2=true)->zfz h P=some ((zjk h.1 (P.map (·.1))).zip (zjk h.2 (P.map (·.2))))
 | [],_,_=>rfl
 |p::P,h,hP=>by
  rw[zfz,if_pos (hP p (by simp)),zuy P p (fun q hq=>hP q (by simp[hq]))];rfl
def zdh(t e:Int)(l:List zab):Option (List Nat):=
 if e=0 then plO t l else if e=1 then zg2 t l else if zhs t l=true then
  (if e=2 then some (encL (zee l)) else if e=3 then(if t=3 then encPts l else zjq (ze4 l)) else ztt (zbi l)) else none
theorem qbs{t:Int}{l:List zab}{b:List Nat}(h:zg2 t l=some b):zhs t l=true:=by
 unfold zg2 at h;split at h
 ·cases h
 ·rename_i V hV
  split at h
  ·rename_i hl
   obtain⟨⟨h0,h1,-⟩,h2⟩:=plOk_iff.1 (plO_iff.1 hV).1;exact plOk_iff.2 ⟨⟨h0,h1,hl⟩,fun c hc=>h2 c ((zgd l c).2 hc)⟩
  ·cases h
theorem zlw{t e:Int}{l:List zab}{b:List Nat}(h:zdh t e l=some b):zhs t l=true:=by
 unfold zdh at h;split at h
 ·exact(plO_iff.1 h).1
 ·split at h
  ·exact qbs h
  ·split at h
   ·assumption
   ·cases h
structure IsVal(t e:Int)(b:List Nat)(n:Int)(o:Option (List zab)):Prop where
 sound:∀l,o=some l->(l.length:Int)=n/\zdh t e l=some b/\ ∀c∈l,zai c
 compl:∀l,(∀c∈l,zai c)->(l.length:Int)=n->zdh t e l=some b->o=some l
theorem IsVal.uniq{t e:Int}{b:List Nat}{n:Int}{o p:Option (List zab)}(h:IsVal t e b n o)(k:IsVal t e b n p):o=p:=by
 cases o with
 |some l=>obtain⟨a,b,c⟩:=h.sound l rfl;exact(k.compl l c a b).symm
 |none=>
  cases p with
  |none=>rfl
  |some l=>obtain⟨a,b,c⟩:=k.sound l rfl;exact h.compl l c a b
theorem zou{t:Int}{b:List Nat}{n:Int}{o:Option (List zab)}(h:IsPl zai t b n o):IsVal t 0 b n o:=
 ⟨fun l e=>(by obtain⟨a,b,c⟩:=h.sound l e;exact⟨a,b,c⟩),fun l a b c=>h.compl l a b c⟩
theorem zq5{t:Int}{b:List Nat}{n:Int}{o:Option (List zab)}(h:IsDic t b n o):IsVal t 1 b n o:=
 ⟨fun l e=>(by obtain⟨a,b,c⟩:=h.sound l e;exact⟨a,b,c⟩),fun l a b c=>h.compl l a b c⟩
theorem z6j(m:List Nat):zee (m.map fun x=>zin (zag x))=m:=by
 unfold zee;rw[List.map_map];conv=>rhs;rw[<-List.map_id m]
 exact List.map_congr_left fun x _=>zws x
theorem zio{l:List zab}(h:∀c∈l,zai c):∀x∈zee l,x<=18446744073709551615:=fun x hx=>by obtain⟨c,hc,rfl⟩:=List.mem_map.1 hx;have:=zjp (x:=c.2.1) (h c hc).2;omega
def zh6(m:List Nat):List zab:=m.map fun x=>zin (zag x)
def qif(t:Int)(o:Option (List Nat)):Option (List zab):=
 match o with
 |none=>none
 |some m=>if(zh6 m).all (fun c=>zac c t false)=true then some (zh6 m) else none
theorem zq6{t:Int}(ht:t=0\/t=1){b:List Nat}{n:Int}{o:Option (List Nat)}(h:IsDec b n o):IsVal t 2 b n (qif t o):=by
 have hv:∀l,zdh t 2 l=if zhs t l=true then some (encL (zee l)) else none:=fun l=>by unfold zdh;simp
 constructor
 ·intro l hl
  cases o with
  |none=>cases hl
  |some m=>
   unfold qif zh6 at hl;dsimp only at hl;split at hl
   ·rename_i hr
    injection hl with hl;obtain⟨h1,h2,h3,h4⟩:=(h m).1 rfl;rw[List.all_eq_true] at hr;subst hl;refine⟨by simpa using h1,?_,fun c hc=>?_⟩
    ·rw[hv,if_pos (plOk_iff.2 ⟨⟨by omega,by omega,by simpa using h2⟩,hr⟩),z6j,h4]
    ·obtain⟨x,hx,rfl⟩:=List.mem_map.1 hc
     have:=zyu (n:=x) (by have:=h3 x hx;omega);exact⟨⟨by simp[zin],by simp[zin]⟩,this⟩
   ·cases hl
 ·intro l hd hn hB
  rw[hv] at hB;split at hB
  ·rename_i hok
   injection hB with hB;obtain⟨⟨-,-,hl6⟩,hr⟩:=plOk_iff.1 hok;have e:=(h (zee l)).2 ⟨by unfold zee;simpa using hn,by unfold zee;simpa using hl6,zio hd,hB⟩;have hm:(zee l).map (fun x=>zin (zag x))=l:=by
    unfold zee;rw[List.map_map];conv=>rhs;rw[<-List.map_id l]
    refine List.map_congr_left fun c hc=>?_
    simp only[Function.comp,zn5];exact(z6i ht (hr c hc)).symm
   rw[e];unfold qif zh6;dsimp only;rw[hm,if_pos (List.all_eq_true.2 hr)]
  ·cases hB
theorem zq7{b:List Nat}{n:Int}{o:Option (List Int)}(h:IsDel b n o):IsVal 0 3 b n (o.map fun l=>l.map zin):=by
 have hv:∀l,zdh 0 3 l=if zhs 0 l=true then zjq (ze4 l) else none:=fun l=>by unfold zdh;simp
 have hi:∀m:List Int,ze4 (m.map zin)=m:=fun m=>by
  unfold ze4;rw[List.map_map];conv=>rhs;rw[<-List.map_id m]
  exact List.map_congr_left fun x _=>rfl
 constructor
 ·intro l hl
  cases o with
  |none=>cases hl
  |some m=>
   injection hl with hl;subst hl;obtain⟨h1,h2,h3⟩:=h.sound m rfl;refine⟨by simpa using h1,?_,fun c hc=>?_⟩
   ·rw[hv,hi,if_pos]
    ·exact h2
    ·refine plOk_iff.2 ⟨⟨by omega,by omega,by have:=zf8 h2;simpa using this⟩,fun c hc=>?_⟩
     obtain⟨x,hx,rfl⟩:=List.mem_map.1 hc;exact z17
   ·obtain⟨x,hx,rfl⟩:=List.mem_map.1 hc
    exact⟨⟨by simp[zin],by simp[zin]⟩,h3 x hx⟩
 ·intro l hd hn hB
  rw[hv] at hB;split at hB
  ·rename_i hok
   obtain⟨-,hr⟩:=plOk_iff.1 hok;have e:=h.compl (ze4 l) (fun x hx=>by obtain⟨c,hc,rfl⟩:=List.mem_map.1 hx;exact(hd c hc).2) (by unfold ze4;simpa using hn) hB;rw[e];simp only[Option.map_some,Option.some.injEq];unfold ze4;rw[List.map_map];conv=>rhs;rw[<-List.map_id l]
   refine List.map_congr_left fun c hc=>?_
   exact(z6i (.inl rfl) (hr c hc)).symm
  ·cases hB
theorem zq8{b:List Nat}{n:Int}(h8:∀x∈b,x<256):IsVal 2 4 b n ((ztu b n).map fun l=>l.map zfl):=by
 have hv:∀l,zdh 2 4 l=if zhs 2 l=true then ztt (zbi l) else none:=fun l=>by unfold zdh;simp
 have hi:∀m:List (List Nat),zbi (m.map zfl)=m:=fun m=>by
  unfold zbi;rw[List.map_map];conv=>rhs;rw[<-List.map_id m]
  exact List.map_congr_left fun x _=>rfl
 constructor
 ·intro l hl
  cases e:ztu b n with
  |none=>rw[e] at hl;cases hl
  |some m=>
   rw[e] at hl;injection hl with hl;subst hl;obtain⟨h1,h2⟩:=(znd h8).1 e;have h3:=qdv (n:=n) h8;rw[e] at h3;simp only[Option.getD_some] at h3;refine⟨by simpa using h1,?_,fun c hc=>?_⟩
   ·rw[hv,hi,if_pos]
    ·exact h2
    ·refine plOk_iff.2 ⟨⟨by omega,by omega,by simpa using h3.2.1⟩,fun c hc=>?_⟩
     obtain⟨x,hx,rfl⟩:=List.mem_map.1 hc;exact z18 (h3.2.2 x hx)
   ·obtain⟨x,hx,rfl⟩:=List.mem_map.1 hc
    have:=h3.2.2 x hx;exact⟨⟨by simp only[zfl];omega,h3.1 x hx⟩,by simp[zfl]⟩
 ·intro l hd hn hB
  rw[hv] at hB;split at hB
  ·rename_i hok
   obtain⟨-,hr⟩:=plOk_iff.1 hok;have e:=(znd h8).2 ⟨show((zbi l).length:Int)=n by unfold zbi;simpa using hn,hB⟩;rw[e];simp only[Option.map_some,Option.some.injEq];unfold zbi;rw[List.map_map];conv=>rhs;rw[<-List.map_id l]
   refine List.map_congr_left fun c hc=>?_
   exact(qfx (hr c hc)).symm
  ·cases hB
theorem qdz{l:List zab}(h:∀c∈l,zac c 3 false=true):(∀x∈zjk 0 (xsV l),zew x)/\ ∀y∈zjk 0 (ysV l),zew y:=by have a:=zsw (l:=xsV l) (a:=0) (by omega) (fun x hx=>by obtain⟨c,hc,rfl⟩:=List.mem_map.1 hx;exact(zmf (h c hc)).1);have b:=zsw (l:=ysV l) (a:=0) (by omega) (fun x hx=>by obtain⟨c,hc,rfl⟩:=List.mem_map.1 hx;exact(zmf (h c hc)).2);exact⟨fun x hx=>by have:=a x hx;unfold zew;omega,fun x hx=>by have:=b x hx;unfold zew;omega⟩
def qfy(S:St)(ox oy:Option (List Int)):Option (List zab):=
 match S,ox,oy with
 |some _,some X,some Y=>(zfy (0,0) (X.zip Y)).map fun P=>P.map cPt
 |_,_,_=>none
theorem zuz{b x y:List Nat}{n:Int}{sz:Nat}{S1 S2:St}{ox oy:Option (List Int)}(h8:∀x∈b,x<256)(hb:b.length<=140737488355200)
 (k1:lenS (b.length:Int) (some b)=(sz,S1))(k2:zbt (sz:Int) S1=(x,S2))(k3:S2.getD []=y)(hx:IsDel x n ox)(hy:IsDel y n oy):IsVal 3 3 b n (qfy S2 ox oy):=by
 have hv:∀l,zdh 3 3 l=if zhs 3 l=true then encPts l else none:=fun l=>by unfold zdh;simp
 constructor
 ·intro l hl
  unfold qfy at hl;split at hl
  ·rename_i r X Y
   cases e:zfy (0,0) (X.zip Y) with
   |none=>rw[e] at hl;cases hl
   |some P=>
    rw[e] at hl;injection hl with hl;subst hl;obtain⟨x1,x2,x3⟩:=hx.sound X rfl;obtain⟨y1,y2,y3⟩:=hy.sound Y rfl;obtain⟨p1,p2,p3,p4⟩:=zlv X Y (0,0) P (by omega) e;have ex:xsV (P.map cPt)=P.map (·.1):=by unfold xsV;rw[List.map_map];rfl
    have ey:ysV (P.map cPt)=P.map (·.2):=by unfold ysV;rw[List.map_map];rfl
    have hlen:=zf8 x2;have hbyt:b=vp x.length++x++y:=by
     rcases zbq (b.length:Int) (some b) (St.ok_some h8) with q|⟨N,r1,e1,q1,_,q⟩
     ·rw[q] at k1
      injection k1 with k1 k1';subst k1 k1';rw[zdr] at k2;injection k2 with _ k2;cases k2
     ·rw[q] at k1
      injection k1 with k1 k1';subst k1 k1';injection e1 with e1;rcases zca (N:Int) (some r1) with q4|⟨l2,e3,_,e5,q4⟩
      ·rw[q4] at k2
       injection k2 with _ k2;cases k2
      ·rw[q4] at k2
       injection e3 with e3;injection k2 with k2 k2';injection k2' with k2';subst e3;rw[Int.toNat_natCast] at k2 k2';have hxl:x.length=N:=by rw[<-k2,List.length_take];omega
       simp only[Option.getD_some] at k3;rw[e1,hxl,<-k3,<-k2',<-k2];simp
    refine⟨by rw[List.length_map];omega,?_,fun c hc=>?_⟩
    ·rw[hv,if_pos]
     ·unfold encPts
      rw[ex,ey,p2,p3,x2,y2];dsimp only;rw[hbyt]
     ·refine plOk_iff.2 ⟨⟨by omega,by omega,by rw[List.length_map];omega⟩,fun c hc=>?_⟩
      obtain⟨p,hp,rfl⟩:=List.mem_map.1 hc;rw[z6h];exact p4 p hp
    ·obtain⟨p,hp,rfl⟩:=List.mem_map.1 hc
     exact⟨⟨by simp[cPt],by simp[cPt]⟩,by simp[cPt]⟩
  ·cases hl
 ·intro l hd hn hB
  rw[hv] at hB;split at hB
  ·rename_i hok
   obtain⟨-,hr⟩:=plOk_iff.1 hok;obtain⟨i1,i2⟩:=qdz hr;unfold encPts at hB;split at hB
   ·rename_i a c ha hc
    injection hB with hB;have hal:=zf9 i1 ha;have hbl:=congrArg List.length hB;simp only[List.length_append] at hbl;have a1:lenS (b.length:Int) (some b)=(a.length,some (a++c)):=by rw[<-hB,List.append_assoc];refine zb2 _ _ ?_ (by simp only[List.length_append] at hbl⊢;omega);simp only[List.length_append];omega
    rw[a1] at k1;injection k1 with k1 k1';subst k1 k1';rw[zdf] at k2;injection k2 with k2 k2';subst k2 k2';simp only[Option.getD_some] at k3;subst k3;have ex:=hx.compl _ i1 (by rw[zgk];unfold xsV;simpa using hn) ha;have ey:=hy.compl _ i2 (by rw[zgk];unfold ysV;simpa using hn) hc;rw[ex,ey];unfold qfy;dsimp only;have hP:=zzq (l.map fun c=>(c.2.2.2.1,c.2.2.2.2)) (0,0) (by decide) (fun p hp=>by obtain⟨c,hc,rfl⟩:=List.mem_map.1 hp;have:=zmf (hr c hc);exact inBox_iff.2 (by dsimp only;omega))
    rw[List.map_map,List.map_map] at hP;have e1:(l.map ((fun x:Int × Int=>x.1) ∘ fun c:zab=>(c.2.2.2.1,c.2.2.2.2)))=xsV l:=rfl;have e2:(l.map ((fun x:Int × Int=>x.2) ∘ fun c:zab=>(c.2.2.2.1,c.2.2.2.2)))=ysV l:=rfl;rw[e1,e2] at hP;rw[hP];simp only[Option.map_some,Option.some.injEq];rw[List.map_map];conv=>rhs;rw[<-List.map_id l]
    refine List.map_congr_left fun c hc=>?_
    exact(qhj (hr c hc)).symm
   ·cases hB
  ·cases hB
def zct(t:Int)(l:List zab):Nat->Int × Nat
 |0=>(-1,0)
 |k+1=>match(if fitsV t (k:Int)=true then zdh t (k:Int) l else none) with
  |some b=>if(zct t l k).1<0\/b.length<(zct t l k).2 then((k:Int),b.length) else zct t l k
  |none=>zct t l k
def bestV(t:Int)(l:List zab):Int:=(zct t l 5).1
theorem zsx(t:Int)(l:List zab):∀k,(zct t l k).1= -1/\(zct t l k).2=0\/(0<=(zct t l k).1/\(zct t l k).1<(k:Int)/\fitsV t (zct t l k).1=true/\ ∃b,zdh t (zct t l k).1 l=some b/\b.length=(zct t l k).2)
 |0=> .inl ⟨rfl,rfl⟩
 |k+1=>by
  have ih:(zct t l k).1= -1/\(zct t l k).2=0\/(0<=(zct t l k).1/\(zct t l k).1<((k+1:Nat):Int)/\fitsV t (zct t l k).1=true/\ ∃b,zdh t (zct t l k).1 l=some b/\b.length=(zct t l k).2):=by
   rcases zsx t l k with h|⟨h1,h2,h3⟩
   ·exact .inl h
   ·exact .inr ⟨h1,by omega,h3⟩
  rw[zct];split
  ·rename_i b hb
   split at hb
   ·rename_i hf
    split
    ·exact .inr ⟨by dsimp only;omega,by dsimp only;omega,hf,b,hb,rfl⟩
    ·exact ih
   ·cases hb
  ·exact ih
theorem zja(t:Int)(l:List zab){k:Nat}(h:0<=(zct t l k).1):0<=(zct t l (k+1)).1:=by
 rw[zct];split
 ·split
  ·dsimp only;omega
  ·exact h
 ·exact h
theorem zov{t:Int}{l:List zab}(h:zhs t l=true):fitsV t (bestV t l)=true/\ ∃b,zdh t (bestV t l) l=some b:=by
 obtain⟨⟨h0,h1,-⟩,-⟩:=plOk_iff.1 h;have e1:0<=(zct t l 1).1:=by
  have hv:zdh t ((0:Nat):Int) l=some (plB t l):=by unfold zdh;rw[if_pos (show((0:Nat):Int)=0 from rfl)];exact plO_iff.2 ⟨h,rfl⟩
  have hf:fitsV t ((0:Nat):Int)=true:=by unfold fitsV;rw[decide_eq_true_eq];omega
  rw[zct,if_pos hf,hv];dsimp only;rw[if_pos (.inl (by rw[zct];omega))];exact Int.le_refl _
 have e5:=zja t l (zja t l (zja t l (zja t l e1)));rcases zsx t l 5 with h|⟨_,_,h3,b,h4,_⟩
 ·exact absurd e5 (by rw[h.1];omega)
 ·exact⟨h3,b,h4⟩
end Go.Proofs.Y
namespace Go.Hm
open Go Go.RowKit
theorem Own.str0{w:World}{base:Nat}{e:TypeId}{g n c i:Nat}{l:List (List Nat)}(h:Own w base e (.slice (some ⟨g,0,none⟩) n c) (zm1 l))(hi:i<n):
 base<=g/\g<w.heap.size/\w.cell? ⟨g,i,none⟩=some (.string (zad (l.getD i [])))/\w.frozen? ⟨g,i,none⟩=false/\
  ∀y:List Nat,Own (w.setCell ⟨g,i,none⟩ (.string (zad y))) base e (.slice (some ⟨g,0,none⟩) n c) (zm1 (l.set i y)):=by
 have hn:=h.len;rw[zeq] at hn;obtain⟨u,h3,h1,h2,h4,h5,h6⟩:=h.at0 hi;rw[z4b l i (by omega)] at h3;injection h3 with h3;subst h3;refine⟨h1,h2,h4,h5,fun y=>?_⟩;have e:zm1 (l.set i y)=(zm1 l).set i (.string (zad y)):=by simp[zm1]
 rw[e];exact h6 _
theorem z7j{P:List (List Nat)}{n k:Nat}(q:List Nat)(hP:P.length=k)(hk:k<n):(P++List.replicate (n-k) []).set k q=(P++[q])++List.replicate (n-(k+1)) []:=by rw[List.set_append_right _ _ (by omega),hP,Nat.sub_self,show n-k=(n-(k+1))+1 by omega,List.replicate_succ,List.set_cons_zero,List.append_assoc];rfl
end Go.Hm
namespace Go.Proofs.Y
open Go.RowKit Go.Hm
def OptX(o:Option (List Nat))(w:World)(e:Ending)(w':World):Prop:=
 match o with
 |none=>(∃v,e= .returned (.tuple #[v,.bool false]))/\New w w'
 |some l=>∃A n c,e= .returned (.tuple #[.slice A n c,.bool true])/\Go.Hm.Own w' w.heap.size 5 (.slice A n c) (za3 .u8 l)/\New w w'
theorem OptB.x{o:Option (List Nat)}{w w':World}{e:Ending}(h:OptB o w e w'):OptX o w e w':=by
 cases o with
 |none=>exact⟨⟨_,h.1⟩,h.2⟩
 |some l=>exact h
theorem OptX.later{o:Option (List Nat)}{w w1 w':World}{e:Ending}(h:OptX o w1 e w')(b:New w w1):OptX o w e w':=by
 cases o with
 |none=>exact⟨h.1,New.trans b h.2⟩
 |some l=>
  obtain⟨A,n,c,h1,h2,h3⟩:=h;exact⟨A,n,c,h1,h2.base_le b.size,New.trans b h3⟩
theorem zhd{w:World}{t:Int}{A:Option Addr}{n c:Nat}{L:List zab}(h:Reads w w.heap.size 5 A n (recs zam L))(hL:∀y∈L,zai y)(hn:n<=4611686018427387903):
 Calls Tryz.prog 210 #[.int .i64 t,.slice A n c] w (zap (.bool (zhs t L)) w):=by
 have P:=Hz (zkq (t:=t) (c:=c) h hL hn);have e:(plO t L).isSome=zhs t L:=by unfold plO;cases zhs t L<;> rfl
 rw[<-e];clear h hL e;generalize plO t L=O at*;go_enter Tryz.func210,Tryz.ntmps210
 go_wp2_with fail
 refine P.out.mono ?_;intro e w1 h1;cases O with
 |none=>
  obtain⟨rfl,b1⟩:=h1;go_wp2
  go_ret
  exact⟨rfl,b1⟩
 |some l=>
  obtain⟨A1,n1,c1,rfl,-,b1⟩:=h1;go_wp2
  go_ret
  exact⟨rfl,b1⟩
set_option maxRecDepth 100000 in
theorem zqi{w:World}{t:Int}{A:Option Addr}{n c:Nat}{L:List zab}(h:Reads w w.heap.size 5 A n (recs zam L))(hL:∀y∈L,zai y)(hn:n<=4611686018):
 Calls Tryz.prog 184 #[.int .i64 t,.slice A n c] w (OptX (zdh t 2 L) w):=by
 obtain rfl:=h.lenCell;have RI:=Hz (zhd (t:=t) (c:=c) h hL (by omega));have hv:zdh t 2 L=if zhs t L=true then some (encL (zee L)) else none:=by unfold zdh;simp
 have hlen:zhs t L=true->L.length<=65536:=fun e=>(plOk_iff.1 e).1.2.2
 obtain⟨X,hX⟩:∃X,X=zdh t 2 L:=⟨_,rfl⟩;rw[<-hX];have HX:=Hz (hX.trans hv);have HR:=Hz h;have HL:=Hz hL;have HW:=Hz (zio hL);clear hv hX h hL;generalize zhs t L=O at*;go_enter Tryz.func184,Tryz.ntmps184
 go_wp2_with fail
 refine RI.out.mono ?_;rintro e W0 ⟨rfl,b0⟩;clear RI;cases O with
 |false=>
  have hx:X=none:=by rw[HX.out];rfl
  subst hx;go_wp2
  go_ret2
  exact⟨⟨_,rfl⟩,b0⟩
 |true=>
  have hx:=HX.out;rw[if_pos rfl] at hx;replace HX:=Hz hx;clear hx;have hl6:=hlen rfl;clear hlen
  go_wp2_with (refine zb7 elW rfl (.tmp 14) (.tmp 14) rfl (W:=W0) (B:=W0.heap.size) L.length L.length rfl rfl rfl rfl (Nat.le_refl _) (Below.refl _ _) (Nat.le_refl _) rfl (by omega) (by simp only[maxLen];omega) ?_
               intro w1 o1 _ b1 s1)
  go_loopw [18] (fun i wr=>∃k:Nat,k<=L.length/\i= .int .i64 (k:Int)/\Go.Hm.Own wr W0.heap.size 87 (.slice (some ⟨W0.heap.size,0,none⟩) L.length L.length) (za3 .u64 (zee (L.take k)++List.replicate (L.length-k) 0))/\New W0 wr) (fun i _=>L.length-(intOf i).toNat)
  case atStart=>exact⟨0,Nat.zero_le _,rfl,by simpa[zee,zbx,zdi,zm1,zad] using o1,b1⟩
  case round=>
   clear o1 b1 s1;obtain⟨k,hk,rfl,o,b⟩:=hrel;by_cases hlt:k<L.length
   ·obtain⟨ad,rfl,_,d0,d1,d2,d3,d4⟩:=(Reads.later HR.out (New.trans b0 b)).cell5 hlt
    have hd:=HL.out _ (zc7 (false,0,[],0,0) hlt);have hst:zee (L.take (k+1))=zee (L.take k)++zee [L.getD k (false,0,[],0,0)]:=by rw[zae L k (false,0,[],0,0) hlt];simp[zee]
    have hll:(zee (L.take k)).length=k:=by unfold zee;rw[List.length_map,List.length_take];omega
    have i1:(k:Int)<(L.length:Int):=by omega
    generalize L.getD k (false,0,[],0,0)=x at*;obtain⟨xb,xn,xs,xx,xy⟩:=x;have hst:zee (L.take (k+1))=zee (L.take k)++[zig xn]:=hst;dsimp only at d0 d1 d2 d3 d4;have b2:New wr (wr.alloc (.cells #[.bool xb,.int .i64 xn,.string (zad xs),.int .i64 xx,.int .i64 xy] 61)):=(Below.refl _ _).alloc (Nat.le_refl _) _;have B2:=Blk.new wr 61 #[.bool xb,.int .i64 xn,.string (zad xs),.int .i64 xx,.int .i64 xy];have o2:=o.later b2;have b02:=New.trans b b2;obtain⟨p0,p1,p2,p3,p4⟩:=zcl B2;obtain⟨hg0,hgl,hc,hf,hset⟩:=o2.num0 (i:=k) hlt;have hs2:=hset (zig xn);rw[zvr _ hll hlt,<-hst] at hs2;have HSet:=Hz hs2;have HB2:=Hz (fun q=>b02.setCell (p:=⟨W0.heap.size,k,none⟩) (Nat.le_refl _) q);generalize(zee (L.take k)++List.replicate (L.length-k) 0).getD k 0=q0 at*;have ZG:=Hz (fun W=>zn6 xn W hd.2.1 hd.2.2);clear hst hll hset hs2 o b b2 o2 b02 B2 hd;go_wp2_with fail
    refine(ZG.out _).mono ?_;rintro e w5 ⟨rfl,rfl⟩;go_wp2_with fail
    go_roundw
    case rel=>exact⟨k+1,by omega,by go_num,HSet.out,HB2.out _⟩
    case measure=>simp[intOf];omega
   ·obtain rfl:k=L.length:=by omega
    have hS:zee (L.take L.length)=zee L:=by rw[List.take_length]
    rw[hS,Nat.sub_self,List.replicate_zero,List.append_nil] at o;clear hS hlt;have b00:=New.trans b0 b;have E:=Hz (z5l (c:=L.length) o.reads (Nat.le_refl _) HW.out hl6);go_wp2_with fail
    refine E.out.mono ?_;rintro e w6 ⟨A6,n6,c6,rfl,o6,b6⟩;go_wp2_with fail
    go_ret2
    rw[HX.out];exact⟨_,_,_,rfl,o6.base_le b00.size,New.trans b00 b6⟩
set_option maxRecDepth 100000 in
theorem zqj{w:World}{A:Option Addr}{n c:Nat}{L:List zab}(h:Reads w w.heap.size 5 A n (recs zam L))(hL:∀y∈L,zai y)(hn:n<=4611686018):
 Calls Tryz.prog 186 #[.int .i64 0,.slice A n c] w (OptX (zdh 0 3 L) w):=by
 obtain rfl:=h.lenCell;have RI:=Hz (zhd (t:=0) (c:=c) h hL (by omega));have hv:zdh 0 3 L=if zhs 0 L=true then zjq (ze4 L) else none:=by unfold zdh;simp
 obtain⟨X,hX⟩:∃X,X=zdh 0 3 L:=⟨_,rfl⟩;rw[<-hX];have HX:=Hz (hX.trans hv);have HR:=Hz h;have HL:=Hz hL;have HW:Hid (∀x∈ze4 L,zew x):=Hz (fun x hx=>by obtain⟨c,hc,rfl⟩:=List.mem_map.1 hx;exact(hL c hc).2);clear hv hX h hL;generalize zhs 0 L=O at*;go_enter Tryz.func186,Tryz.ntmps186
 go_wp2_with fail
 refine RI.out.mono ?_;rintro e W0 ⟨rfl,b0⟩;clear RI;cases O with
 |false=>
  have hx:X=none:=by rw[HX.out];rfl
  subst hx;go_wp2
  go_ret2
  exact⟨⟨_,rfl⟩,b0⟩
 |true=>
  have hx:=HX.out;rw[if_pos rfl] at hx;replace HX:=Hz hx;clear hx
  go_wp2_with (refine zb7 elI rfl (.tmp 20) (.tmp 20) rfl (W:=W0) (B:=W0.heap.size) L.length L.length rfl rfl rfl rfl (Nat.le_refl _) (Below.refl _ _) (Nat.le_refl _) rfl (by omega) (by simp only[maxLen];omega) ?_
               intro w1 o1 _ b1 s1)
  go_loopw [24] (fun i wr=>∃k:Nat,k<=L.length/\i= .int .i64 (k:Int)/\Go.Hm.Own wr W0.heap.size 3 (.slice (some ⟨W0.heap.size,0,none⟩) L.length L.length) (zep .i64 (ze4 (L.take k)++List.replicate (L.length-k) 0))/\New W0 wr) (fun i _=>L.length-(intOf i).toNat)
  case atStart=>exact⟨0,Nat.zero_le _,rfl,by simpa[ze4,zbx,zdi,zm1,zad] using o1,b1⟩
  case round=>
   clear o1 b1 s1;obtain⟨k,hk,rfl,o,b⟩:=hrel;by_cases hlt:k<L.length
   ·obtain⟨ad,rfl,_,d0,d1,d2,d3,d4⟩:=(Reads.later HR.out (New.trans b0 b)).cell5 hlt
    have hd:=HL.out _ (zc7 (false,0,[],0,0) hlt);have hst:ze4 (L.take (k+1))=ze4 (L.take k)++ze4 [L.getD k (false,0,[],0,0)]:=by rw[zae L k (false,0,[],0,0) hlt];simp[ze4]
    have hll:(ze4 (L.take k)).length=k:=by unfold ze4;rw[List.length_map,List.length_take];omega
    have i1:(k:Int)<(L.length:Int):=by omega
    generalize L.getD k (false,0,[],0,0)=x at*;obtain⟨xb,xn,xs,xx,xy⟩:=x;have hst:ze4 (L.take (k+1))=ze4 (L.take k)++[xn]:=hst;dsimp only at d0 d1 d2 d3 d4;have b2:New wr (wr.alloc (.cells #[.bool xb,.int .i64 xn,.string (zad xs),.int .i64 xx,.int .i64 xy] 61)):=(Below.refl _ _).alloc (Nat.le_refl _) _;have B2:=Blk.new wr 61 #[.bool xb,.int .i64 xn,.string (zad xs),.int .i64 xx,.int .i64 xy];have o2:=o.later b2;have b02:=New.trans b b2;obtain⟨p0,p1,p2,p3,p4⟩:=zcl B2;obtain⟨hg0,hgl,hc,hf,hset⟩:=o2.int0 (i:=k) hlt;have hs2:=hset (xn);rw[zix _ hll hlt,<-hst] at hs2;have HSet:=Hz hs2;have HB2:=Hz (fun q=>b02.setCell (p:=⟨W0.heap.size,k,none⟩) (Nat.le_refl _) q);generalize(ze4 (L.take k)++List.replicate (L.length-k) 0).getD k 0=q0 at*;clear hst hll hset hs2 o b b2 o2 b02 B2 hd;go_wp2_with fail
    go_roundw
    case rel=>exact⟨k+1,by omega,by go_num,HSet.out,HB2.out _⟩
    case measure=>simp[intOf];omega
   ·obtain rfl:k=L.length:=by omega
    have hS:ze4 (L.take L.length)=ze4 L:=by rw[List.take_length]
    rw[hS,Nat.sub_self,List.replicate_zero,List.append_nil] at o;clear hS hlt;have b00:=New.trans b0 b;have E:=Hz (ze6 (c:=L.length) o.reads HW.out (by omega));go_wp2_with fail
    refine E.out.mono ?_;intro e w6 h6;have h6:=OptX.later (OptB.x h6) b00;rw[<-HX.out] at h6;cases X with
    |none=>
     obtain⟨⟨v,rfl⟩,b6⟩:=h6;go_wp2_with fail
     go_ret2
     exact⟨⟨_,rfl⟩,b6⟩
    |some d=>
     obtain⟨A6,n6,c6,rfl,o6,b6⟩:=h6;go_wp2_with fail
     go_ret2
     exact⟨_,_,_,rfl,o6,b6⟩
set_option maxRecDepth 100000 in
theorem zpi{w:World}{t:Int}{A:Option Addr}{n c:Nat}{L:List zab}(h:Reads w w.heap.size 5 A n (recs zam L))(hL:∀y∈L,zai y)(hn:n<=4611686018):
 Calls Tryz.prog 188 #[.int .i64 t,.slice A n c] w (OptX (zdh t 4 L) w):=by
 obtain rfl:=h.lenCell;have RI:=Hz (fun(W:World) (hW:New w W)=>zhd (t:=t) (c:=c) (Reads.later h hW) hL (by omega));have hv:zdh t 4 L=if zhs t L=true then ztt (zbi L) else none:=by unfold zdh;simp
 obtain⟨X,hX⟩:∃X,X=zdh t 4 L:=⟨_,rfl⟩;rw[<-hX];have HX:=Hz (hX.trans hv);have HR:=Hz h;have HL:=Hz hL;have HW:Hid (∀s∈zbi L,(∀x∈s,x<256)/\s.length<=140737488351232):=Hz (fun x hx=>by obtain⟨c,hc,rfl⟩:=List.mem_map.1 hx;exact⟨(hL c hc).1.2,(hL c hc).1.1⟩);clear hv hX h hL;generalize zhs t L=O at*;have b0:New w w:=New.refl w;go_enter Tryz.func188,Tryz.ntmps188
 go_wp2_with (refine zb7 elS rfl (.tmp 12) (.tmp 12) rfl (W:=w) (B:=w.heap.size) L.length L.length rfl rfl rfl rfl (Nat.le_refl _) (Below.refl _ _) (Nat.le_refl _) rfl (by omega) (by simp only[maxLen];omega) ?_
              intro w1 o1 _ b1 s1)
 go_loopw [16] (fun i wr=>∃k:Nat,k<=L.length/\i= .int .i64 (k:Int)/\Go.Hm.Own wr w.heap.size 9 (.slice (some ⟨w.heap.size,0,none⟩) L.length L.length) (zm1 (zbi (L.take k)++List.replicate (L.length-k) []))/\New w wr) (fun i _=>L.length-(intOf i).toNat)
 case atStart=>exact⟨0,Nat.zero_le _,rfl,by simpa[zbi,zbx,zdi,zm1,zad] using o1,b1⟩
 case round=>
  clear o1 b1 s1;obtain⟨k,hk,rfl,o,b⟩:=hrel;by_cases hlt:k<L.length
  ·obtain⟨ad,rfl,_,d0,d1,d2,d3,d4⟩:=(Reads.later HR.out (New.trans b0 b)).cell5 hlt
   have hd:=HL.out _ (zc7 (false,0,[],0,0) hlt);have hst:zbi (L.take (k+1))=zbi (L.take k)++zbi [L.getD k (false,0,[],0,0)]:=by rw[zae L k (false,0,[],0,0) hlt];simp[zbi]
   have hll:(zbi (L.take k)).length=k:=by unfold zbi;rw[List.length_map,List.length_take];omega
   have i1:(k:Int)<(L.length:Int):=by omega
   generalize L.getD k (false,0,[],0,0)=x at*;obtain⟨xb,xn,xs,xx,xy⟩:=x;have hst:zbi (L.take (k+1))=zbi (L.take k)++[xs]:=hst;dsimp only at d0 d1 d2 d3 d4;have b2:New wr (wr.alloc (.cells #[.bool xb,.int .i64 xn,.string (zad xs),.int .i64 xx,.int .i64 xy] 61)):=(Below.refl _ _).alloc (Nat.le_refl _) _;have B2:=Blk.new wr 61 #[.bool xb,.int .i64 xn,.string (zad xs),.int .i64 xx,.int .i64 xy];have o2:=o.later b2;have b02:=New.trans b b2;obtain⟨p0,p1,p2,p3,p4⟩:=zcl B2;obtain⟨hg0,hgl,hc,hf,hset⟩:=o2.str0 (i:=k) hlt;have hs2:=hset (xs);rw[z7j _ hll hlt,<-hst] at hs2;have HSet:=Hz hs2;have HB2:=Hz (fun q=>b02.setCell (p:=⟨w.heap.size,k,none⟩) (Nat.le_refl _) q);generalize(zbi (L.take k)++List.replicate (L.length-k) []).getD k []=q0 at*;clear hst hll hset hs2 o b b2 o2 b02 B2 hd;go_wp2_with fail
   go_roundw
   case rel=>exact⟨k+1,by omega,by go_num,HSet.out,HB2.out _⟩
   case measure=>simp[intOf];omega
  ·obtain rfl:k=L.length:=by omega
   have hS:zbi (L.take L.length)=zbi L:=by rw[List.take_length]
   rw[hS,Nat.sub_self,List.replicate_zero,List.append_nil] at o;clear hS hlt;have b00:=New.trans b0 b;have E:=Hz (qcb (c:=L.length) o.reads (fun s hs=>(HW.out s hs).1) (fun s hs=>(HW.out s hs).2) (by omega));go_wp2_with fail
   refine E.out.mono ?_;intro e w6 h6;generalize ztt (zbi L)=E6 at*;cases E6 with
   |none=>
    have hx:X=none:=by rw[HX.out];cases O<;> rfl
    subst hx;obtain⟨rfl,b6⟩:=h6;go_wp2_with fail
    go_ret2
    exact⟨⟨_,rfl⟩,New.trans b00 b6⟩
   |some d=>
    obtain⟨A6,n6,c6,rfl,o6,b6⟩:=h6;have b06:=New.trans b00 b6;have RW:=Hz (RI.out _ b06);have o6:=o6.base_le (b':=w.heap.size) b00.size;clear b6 E RI;go_wp2_with fail
    refine RW.out.mono ?_;rintro e w7 ⟨rfl,b7⟩;have o7:=o6.later b7;cases O with
    |false=>
     have hx:X=none:=by rw[HX.out];rfl
     subst hx;go_wp2_with fail
     go_ret2
     exact⟨⟨_,rfl⟩,New.trans b06 b7⟩
    |true=>
     have hx:X=some d:=by rw[HX.out];rfl
     subst hx;go_wp2_with fail
     go_ret2
     exact⟨_,_,_,rfl,o7,New.trans b06 b7⟩
open Go.RowKit Go.Hm
def ztd(l:List zab):List (Int × Int):=l.map fun c=>(c.2.2.2.1,c.2.2.2.2)
theorem qce(l:List zab):(ztd l).length=l.length:=by simp[ztd]
theorem qhl(l:List zab):(ztd l).map (·.1)=xsV l:=by unfold ztd xsV;rw[List.map_map];rfl
theorem qhm(l:List zab):(ztd l).map (·.2)=ysV l:=by unfold ztd ysV;rw[List.map_map];rfl
theorem zk8{l:List Int}(h:l.length<=65536):∃b,zjq l=some b:=by unfold zjq;rw[if_neg (by omega)];split<;> exact⟨_,rfl⟩
theorem z7m{S:List (Int × Int)}{k:Nat}(h:k<S.length):((S.take (k+1)).map (·.1))=(S.take k).map (·.1)++[(S.getD k (0,0)).1]:=by rw[zae S k (0,0) h];simp
theorem z7n{S:List (Int × Int)}{k:Nat}(h:k<S.length):((S.take (k+1)).map (·.2))=(S.take k).map (·.2)++[(S.getD k (0,0)).2]:=by rw[zae S k (0,0) h];simp
set_option maxRecDepth 100000 in
theorem zm3{w:World}{A:Option Addr}{n c:Nat}{L:List zab}(h:Reads w w.heap.size 5 A n (recs zam L))(hr:∀y∈L,zac y 3 false=true)(hn:n<=65536):
 Calls Tryz.prog 212 #[.slice A n c] w (OptX (encPts L) w):=by
 obtain rfl:=h.lenCell;have HR:=Hz h;obtain⟨S,hS⟩:∃S,S=(zjk 0 (xsV L)).zip (zjk 0 (ysV L)):=⟨_,rfl⟩;have hS1:zfz (0,0) (ztd L)=some S:=by
  rw[hS,zuy (ztd L) (0,0) (fun p hp=>by obtain⟨c,hc,rfl⟩:=List.mem_map.1 hp;have:=zmf (hr c hc);exact inBox_iff.2 (by dsimp only;omega)),qhl,qhm]
 have hxl:(zjk 0 (xsV L)).length=L.length:=by rw[zgk];simp[xsV]
 have hyl:(zjk 0 (ysV L)).length=L.length:=by rw[zgk];simp[ysV]
 have hSl:S.length=L.length:=by rw[hS,List.length_zip];omega
 have hSx:S.map (·.1)=zjk 0 (xsV L):=by rw[hS];exact List.map_fst_zip (by omega)
 have hSy:S.map (·.2)=zjk 0 (ysV L):=by rw[hS];exact List.map_snd_zip (by omega)
 obtain⟨i1,i2⟩:=qdz hr;obtain⟨a,ha⟩:=zk8 (l:=zjk 0 (xsV L)) (by omega);obtain⟨b,hb⟩:=zk8 (l:=zjk 0 (ysV L)) (by omega);have hal:=zf9 i1 ha;have hbl:=zf9 i2 hb;have HE:Hid (encPts L=some (vp a.length++a++b)):=Hz (by unfold encPts;rw[ha,hb]);rw[<-hSx] at i1 ha;rw[<-hSy] at i2 hb;have HA:=Hz (And.intro i1 ha);have HB:=Hz (And.intro i2 hb);have PS:=fun(W:World) (A:Option Addr) (c:Nat) (hR:Reads W W.heap.size 2 A L.length (zcy (ztd L)))=>show Calls Tryz.prog 227 #[.slice A L.length c] W (qd5 (some S) W) from by have:=z2t (c:=c) hR (by omega);rw[hS1] at this;exact this
 have PS:=Hz PS;have HSL:=Hz hSl;clear h hr hS hS1 hxl hyl hSx hSy i1 i2 ha hb hSl;have hb0:New w w:=New.refl w;have hz0:w.heap.size<=w.heap.size:=Nat.le_refl _;go_enter Tryz.func212,Tryz.ntmps212
 go_wp2_with (refine zpm qgs rfl (.tmp 17) (.tmp 17) rfl (W:=w) (B:=w.heap.size) L.length rfl rfl rfl rfl hb0 hz0 (by omega) (by simp only[maxLen];omega) ?_
              intro w1 o1 g1 b1 hs1)
 rw[zrv] at o1;clear hb0 hz0 g1;go_loopw [21] (fun i wr=>∃k:Nat,k<=L.length/\i= .int .i64 (k:Int)/\wr.ownsRow w.heap.size 59 2 (.slice (some ⟨w.heap.size,0,none⟩) L.length L.length) L.length (zcy (ztd (L.take k)++List.replicate (L.length-k) (0,0)))/\New w wr) (fun i _=>L.length-(intOf i).toNat)
 case atStart=>exact⟨0,Nat.zero_le _,rfl,by simpa[ztd] using o1,b1⟩
 case round=>
  clear o1 b1 hs1;obtain⟨k,hk,rfl,o,bw⟩:=hrel;by_cases hlt:k<L.length
  ·obtain⟨ad,rfl,_,d0,d1,d2,d3,d4⟩:=(Reads.later HR.out bw).cell5 hlt
   have hst:ztd (L.take (k+1))=ztd (L.take k)++ztd [L.getD k (false,0,[],0,0)]:=by rw[zae L k (false,0,[],0,0) hlt];simp[ztd]
   have hll:(ztd (L.take k)).length=k:=by rw[qce,List.length_take];omega
   have i1:(k:Int)<(L.length:Int):=by omega
   generalize L.getD k (false,0,[],0,0)=x at*;obtain⟨xb,xn,xs,xx,xy⟩:=x;have hst:ztd (L.take (k+1))=ztd (L.take k)++[(xx,xy)]:=hst;dsimp only at d0 d1 d2 d3 d4;have b2:New wr (wr.alloc (.cells #[.bool xb,.int .i64 xn,.string (zad xs),.int .i64 xx,.int .i64 xy] 61)):=(Below.refl _ _).alloc (Nat.le_refl _) _;have B2:=Blk.new wr 61 #[.bool xb,.int .i64 xn,.string (zad xs),.int .i64 xx,.int .i64 xy];rw[show L.length-k=(L.length-(k+1))+1 by omega,List.replicate_succ] at o;have o2:=Hz (zau o b2);have b02:=New.trans bw b2;obtain⟨p0,p1,p2,p3,p4⟩:=zcl B2;have ead:(⟨w.heap.size,0,none⟩:Addr).add (k*2)=⟨w.heap.size,k*2,none⟩:=by unfold Addr.add;split<;> simp_all
   have HST:=Hz hst;have HLL:=Hz hll;clear hst hll o bw b2 B2
   go_wp2_with (refine zmw rfl 59 (.tmp 30) (.tmp 29) rfl (new:=(xx,xy)) o2.out HLL.out hlt rfl rfl (by kernel_rfl) ?_
                intro w3 o3 g3)
   have b3:=Far.below b02 g3 (Nat.le_refl _) (Nat.le_refl _);have o3:w3.ownsRow w.heap.size 59 2 (.slice (some ⟨w.heap.size,0,none⟩) L.length L.length) L.length (zcy (ztd (L.take (k+1))++List.replicate (L.length-(k+1)) (0,0))):=by rw[HST.out,List.append_assoc];exact o3
   go_roundw
   case rel=>exact⟨k+1,by omega,by go_num,o3,b3⟩
   case measure=>simp[intOf];omega
  ·obtain rfl:k=L.length:=by omega
   rw[List.take_length,Nat.sub_self,List.replicate_zero,List.append_nil] at o;have HRO:=Hz (Reads.of_own o);clear o hlt;obtain⟨i1,hi1,hz1,hs1,hb1⟩:=info_parts elI.hi;have mk1:=fun W=>run_make (P:=Tryz.prog) W 26 3 i1 _ elI.ht hi1 hz1 .i64 .i64 (L.length:Int) (L.length:Int) (by omega) (by omega) (by rw[hb1];omega) (by omega)
   simp only[Int.toNat_natCast,hs1] at mk1;generalize hC1:madeCells _ (L.length*1)=C1 at mk1;have HC1:=Hz hC1;clear hC1 hi1 hz1 hs1 hb1;have BA:=Blk.new wr 3 C1;have BB:=Blk.new (wr.alloc (.cells C1 3)) 3 C1;have BA2:=BA.alloc (.cells C1 3);have hba:New wr ((wr.alloc (.cells C1 3)).alloc (.cells C1 3)):=((Below.refl _ _).alloc (Nat.le_refl _) _).alloc (by simp) _;simp only[World.size_alloc] at BB;go_upto_region 7 with fail
   go_cut [7,8] (fun s7 s8 wx=>∃gx gy:Nat,s7= .slice (some ⟨gx,0,none⟩) L.length L.length/\s8= .slice (some ⟨gy,0,none⟩) L.length L.length/\gx≠gy/\wr.heap.size<=gx/\wr.heap.size<=gy/\Blk wx gx 3 C1/\Blk wx gy 3 C1/\New wr wx)
   case first=>
    go_region
    all_goals
     go_wp2_with fail
     go_meet
     first
      |exact⟨wr.heap.size,wr.heap.size+1,rfl,rfl,by omega,by omega,by omega,BA2,BB,hba⟩
      |exact⟨wr.heap.size+1,wr.heap.size,rfl,rfl,by omega,by omega,by omega,BB,BA2,hba⟩
      |exact⟨wr.heap.size,wr.heap.size+1,rfl,rfl,by omega,by omega,by omega,BA2,BB,New.trans hba (New.drew _)⟩
      |exact⟨wr.heap.size+1,wr.heap.size,rfl,rfl,by omega,by omega,by omega,BB,BA2,New.trans hba (New.drew _)⟩
   case rest=>
    obtain⟨gx,gy,rfl,rfl,hxy,hgx,hgy,BX,BY,bx⟩:=hcut;have hz:=bw.size;have own0:∀g,wr.heap.size<=g->Blk wc g 3 C1->Go.Hm.Own wc w.heap.size 3 (.slice (some ⟨g,0,none⟩) L.length L.length) (zep .i64 (List.replicate L.length 0)):=by
     intro g hg hB;have e1:(zep .i64 (List.replicate L.length 0)).length=L.length:=by rw[zcw,List.length_replicate]
     unfold Go.Hm.Own;rw[e1];refine⟨by rw[e1,Nat.mul_one],.inr ⟨g,L.length,C1,rfl,by omega,hB,Nat.le_refl _,by simp only[maxLen];omega,by rw[<-HC1.out];simp[size_madeCells],?_⟩⟩;rw[<-HC1.out,List.take_of_length_le (by simp[size_madeCells]),zdi];have:=toList_madeCells_one (.int .i64 0) (L.length*1);rw[Nat.mul_one] at this⊢;exact this
    have ox:=own0 gx hgx BX;have oy:=own0 gy hgy BY;have bc:=New.trans bw bx;have RC:=Reads.later HRO.out bx;have lx:=BX.lt;have ly:=BY.lt;have hgx:w.heap.size<=gx:=by omega
    have hgy:w.heap.size<=gy:=by omega
    have PC:=Hz (PS.out wc _ L.length RC);clear own0 BX BY bw bx RC BA BB BA2 hba HC1 mk1 HRO PS hz;go_wp2_with fail
    refine PC.out.mono ?_;rintro e w4 ⟨A4,n4,c4,rfl,o4,b4⟩;obtain rfl:n4=S.length:=(Reads.of_own o4).lenP;have hSl:=HSL.out;have o4:w4.ownsRow wc.heap.size 59 2 (.slice A4 S.length c4) S.length (zcy S):=o4;have ox:=ox.later b4;have oy:=oy.later b4;have b04:=New.trans bc b4;generalize wc.heap.size=n1 at*;clear PC bc b4;go_wp2_with fail
    go_loopw [41] (fun i wr=>∃k:Nat,k<=S.length/\i= .int .i64 (k:Int)/\Go.Hm.Own wr w.heap.size 3 (.slice (some ⟨gx,0,none⟩) L.length L.length) (zep .i64 ((S.take k).map (·.1)++List.replicate (L.length-k) 0))/\Go.Hm.Own wr w.heap.size 3 (.slice (some ⟨gy,0,none⟩) L.length L.length) (zep .i64 ((S.take k).map (·.2)++List.replicate (L.length-k) 0))/\wr.ownsRow n1 59 2 (.slice A4 S.length c4) S.length (zcy S)/\New w wr) (fun i _=>S.length-(intOf i).toNat)
    case atStart=>exact⟨0,Nat.zero_le _,rfl,by simpa using ox,by simpa using oy,o4,b04⟩
    case round=>
     clear ox oy o4 b04;obtain⟨k,hk,rfl,ox,oy,o4,bw⟩:=hrel;by_cases hlt:k<S.length
     ·obtain⟨ad,rfl,_,d0,d1⟩:=(Reads.of_own o4).pair hlt
      have ms1:=z7m hlt;have ms2:=z7n hlt;have hlx:((S.take k).map (·.1)).length=k:=by rw[List.length_map,List.length_take];omega
      have hly:((S.take k).map (·.2)).length=k:=by rw[List.length_map,List.length_take];omega
      have d2:wr.cell? ⟨(ad.add (k*2)).block,(ad.add (k*2)).off+1,none⟩=some (.int .i64 (S.getD k (0,0)).2):=by rw[<-za8] at d1;exact d1
      have i1:(k:Int)<(S.length:Int):=by omega
      have i2:(k:Int)<(L.length:Int):=by omega
      have hkL:k<L.length:=by omega
      generalize S.getD k (0,0)=sp at*;obtain⟨sx,sy⟩:=sp;dsimp only at d0 d1 d2 ms1 ms2;have b2:New wr (wr.alloc (.cells #[.int .i64 sx,.int .i64 sy] 59)):=(Below.refl _ _).alloc (Nat.le_refl _) _;have B2:=Blk.new wr 59 #[.int .i64 sx,.int .i64 sy];obtain⟨p0,p1⟩:=zbe B2;have lx2:=(ox.lt gx rfl).2;have ly2:=(oy.lt gy rfl).2;obtain⟨-,-,hcx,hfx,hsx⟩:=ox.int0 hkL;obtain⟨-,-,hcy,hfy,hsy⟩:=oy.int0 hkL;have xA:=hsx sx;have yA:=hsy sy;have nxy:Value.ownBlock (.slice (some ⟨gx,0,none⟩) L.length L.length)=none\/Value.ownBlock (.slice (some ⟨gx,0,none⟩) L.length L.length)≠some gy:= .inr (by simpa[Value.ownBlock] using hxy);have nyx:Value.ownBlock (.slice (some ⟨gy,0,none⟩) L.length L.length)=none\/Value.ownBlock (.slice (some ⟨gy,0,none⟩) L.length L.length)≠some gx:= .inr (by simpa[Value.ownBlock] using fun e=>hxy e.symm);have yx:=oy.kept (zaq (g:=gx) (i:=k) (x:= .int .i64 sx)) nyx;have xy:=ox.kept (zaq (g:=gy) (i:=k) (x:= .int .i64 sy)) nxy;have yB:=(yx.int0 hkL).2.2.2.2 sy;have xB:=(xy.int0 hkL).2.2.2.2 sx;have xC:=xA.kept (zaq (g:=gy) (i:=k) (x:= .int .i64 sy)) nxy;have yC:=yA.kept (zaq (g:=gx) (i:=k) (x:= .int .i64 sx)) nyx;rw[zix _ hlx hkL,<-ms1] at xB xC;rw[zix _ hly hkL,<-ms2] at yB yC;have o4x:=World.ownsRow.kept o4 (zaq (g:=gx) (i:=k) (x:= .int .i64 sx)) (.inr (fun e=>by have:=(World.ownsRow.lt o4 _ e).1;omega));have o4y:=World.ownsRow.kept o4 (zaq (g:=gy) (i:=k) (x:= .int .i64 sy)) (.inr (fun e=>by have:=(World.ownsRow.lt o4 _ e).1;omega));have o4A:=World.ownsRow.kept o4x (zaq (g:=gy) (i:=k) (x:= .int .i64 sy)) (.inr (fun e=>by have:=(World.ownsRow.lt o4x _ e).1;omega));have o4B:=World.ownsRow.kept o4y (zaq (g:=gx) (i:=k) (x:= .int .i64 sx)) (.inr (fun e=>by have:=(World.ownsRow.lt o4y _ e).1;omega));have bA:=(bw.setCell (p:=⟨gx,k,none⟩) hgx (.int .i64 sx)).setCell (p:=⟨gy,k,none⟩) hgy (.int .i64 sy);have bB:=(bw.setCell (p:=⟨gy,k,none⟩) hgy (.int .i64 sy)).setCell (p:=⟨gx,k,none⟩) hgx (.int .i64 sx);have al:∀W:World,New W ((W.alloc (.cells #[.int .i64 sx,.int .i64 sy] 59)).drew):=fun W=>New.trans ((Below.refl _ _).alloc (Nat.le_refl _) _) (New.drew _)
      have HA1:=Hz (And.intro (xC.later (al _)) (And.intro (yB.later (al _)) (And.intro (zau o4A (al _)) (New.trans bA (al _)))));have HB1:=Hz (And.intro (xB.later (al _)) (And.intro (yC.later (al _)) (And.intro (zau o4B (al _)) (New.trans bB (al _)))));have hcx':∃q,wr.cell? ⟨gx,k,none⟩=some (.int .i64 q):=⟨_,hcx⟩;have hcy':∃q,wr.cell? ⟨gy,k,none⟩=some (.int .i64 q):=⟨_,hcy⟩;clear hcx hcy;obtain⟨q1,hcx⟩:=hcx';obtain⟨q2,hcy⟩:=hcy';have hyx:gy≠gx:=fun e=>hxy e.symm
      clear al xC yB o4A bA xB yC o4B bB o4x o4y xA yA xy yx nxy nyx hsx hsy ox oy o4 bw b2 B2 ms1 ms2 hlx hly d1;go_wp2_with fail
      go_region
      all_goals
       go_wp2_with fail
       go_roundw
       case rel=>
        first
         |exact⟨k+1,by omega,by go_num,HA1.out⟩
         |exact⟨k+1,by omega,by go_num,HB1.out⟩
       case measure=>simp[intOf];omega
     ·obtain rfl:k=S.length:=by omega
      rw[List.take_length,hSl,Nat.sub_self,List.replicate_zero,List.append_nil] at ox;rw[List.take_length,hSl,Nat.sub_self,List.replicate_zero,List.append_nil] at oy;have EX:=Hz (ze6 (c:=L.length) ox.reads HA.out.1 (by omega));have hzw:=bw.size;clear o4 hlt;go_wp2_with fail
      refine EX.out.mono ?_;intro e w5 h5;rw[HA.out.2] at h5;obtain⟨A5,n5,c5,rfl,o5,b5⟩:=h5;obtain rfl:n5=a.length:=by have:=o5.len;rwa[zaa] at this
      have EY:=Hz (ze6 (c:=L.length) (oy.later b5).reads HB.out.1 (by omega));have b05:=New.trans bw b5;have hz5:=b05.size;clear EX ox oy b5 bw;go_wp2_with fail
      refine EY.out.mono ?_;intro e w6 h6;rw[HB.out.2] at h6;obtain⟨A6,n6,c6,rfl,o6,b6⟩:=h6;obtain rfl:n6=b.length:=by have:=o6.len;rwa[zaa] at this
      have o5:=o5.later b6;have b06:=New.trans b05 b6;have hz6:=b06.size;have hw1:IntKind.u64.wrap (a.length:Int)=(a.length:Int):=by rw[IntKind.wrap_u64];omega
      have PT:=Hz (fun W:World=>zcx none 0 0 [] a.length W Reads.none_ (by omega) (by omega));have hvl:=zaj (n:=a.length) (by omega);clear EY b6 b05;generalize hV:vp a.length=V at*;clear hV;go_wp2_with fail
      refine(PT.out _).mono ?_;rintro e w7 ⟨A7,n7,c7,rfl,o7,b7⟩;rw[List.nil_append] at o7;obtain rfl:n7=V.length:=by have:=o7.len;rwa[zaa] at this
      have h57:=zfv (zgg o7 (o5.base_le (Nat.zero_le _)));have h67:=zfv (zgg o7 (o6.base_le (Nat.zero_le _)));have o5:=o5.later b7;have o6:=o6.later b7;have b07:=New.trans b06 b7;have hz7:=b07.size;have o7:=o7.base_le (b':=w.heap.size) hz6;clear PT b7 b06;go_wp2_with (first
       |(refine zas elB rfl (.tmp 71) (.tmp 72) rfl (W:=w) (B:=w.heap.size) o7 o5.reads rfl rfl b07 (Nat.le_refl _) hz7 (by omega) (by simp only[maxLen];omega) ?_
         intro A8 c8 w8 _ _ o8 g8 b8 d8;have p6:=o6.kept g8 h67;have hz8:=b8.size)
       |(refine zas elB rfl (.tmp 74) (.tmp 75) rfl (W:=w) (B:=w.heap.size) o8 p6.reads rfl rfl b8 (Nat.le_refl _) hz8 (by omega) (by simp only[maxLen];omega) ?_
         intro A9 c9 w9 _ _ o9 _ b9 _))
      go_ret2
      rw[HE.out];exact⟨_,_,_,rfl,o9,b9⟩
end Go.Proofs.Y
