/- Merged. -/
import Derived.Test.YtmgfkpnghlmheaaGreatBun31
import Derived.Test.YtmgfkpnghlmheaaGreatBun36
set_option maxHeartbeats 4000000
namespace Go.Proofs.Y
open Go.RowKit Go.Hm
def encOf(t e:Int)(l:List zab):Int:=if e= -1 then bestV t (zb1 l) else e
def pgE(t:Int)(nu:Bool)(e:Int)(l:List zab):Int × List Nat:=
 if¬(0<=t/\t<=3)\/(e≠ -1/\fitsV t e=false) then(3,[])
 else if 65536<l.length then(4,[])
 else if(l.all fun c=>zaf c t nu)=true then
  (match zdz t (encOf t e l) (zb1 l) with
  |some d=>(0,(encOf t e l).toNat::(vp l.length++((if nu=true then zb4 l else [])++d)))
  |none=>(1,[]))
 else(1,[])
theorem zq7{l:List zab}{t:Int}{nu:Bool}(h:∀c∈l,zaf c t nu=true):∀c∈zb1 l,zaf c t false=true:=fun c hc=>by
 unfold zb1 at hc;rw[List.mem_filter] at hc;have h1:=h c hc.1;have h2:c.1=false:=by simpa using hc.2
 unfold zaf at h1⊢;rw[h2] at h1⊢;exact h1
theorem zq8{c:zab}{t:Int}{nu:Bool}(h:zaf c t nu=true)(hn:c.1=true):c=nullC/\nu=true:=by
 obtain⟨y0,y1,y2,y3,y4⟩:=c;dsimp only at hn;subst hn;have e:nu=true/\y1=0/\y2=[]/\y3=0/\y4=0:=by simpa[zaf] using h
 obtain⟨e1,rfl,rfl,rfl,rfl⟩:=e;exact⟨rfl,e1⟩
theorem z2p{l:List zab}{t:Int}{nu:Bool}(h:∀c∈l,zaf c t nu=true):l.map zu0=l:=by
 conv=>rhs;rw[<-List.map_id l]
 refine List.map_congr_left fun c hc=>?_
 unfold zu0;split
 ·rename_i hn
  exact(zq8 (h c hc) hn).1.symm
 ·rfl
theorem zu2{c:zab}{t:Int}(nu:Bool)(h:zaf c t false=true):zaf c t nu=true:=by have h0:=zgh h;unfold zaf at h⊢;rw[h0] at h⊢;exact h
theorem z0b{l:List zab}{t:Int}(h:∀c∈l,zaf c t false=true):zb1 l=l:=by unfold zb1;rw[List.filter_eq_self];intro c hc;rw[zgh (h c hc)];rfl
theorem z61{l:List zab}{t:Int}{nu:Bool}(ht:0<=t/\t<=3)(hl:l.length<=65536)(h:∀c∈l,zaf c t nu=true):zh5 t (zb1 l)=true:=
 plOk_iff.2 ⟨⟨ht.1,ht.2,Nat.le_trans (zsy l) hl⟩,zq7 h⟩
theorem zik{t:Int}{nu:Bool}{e:Int}{l:List zab}{b:List Nat}(h:pgE t nu e l=(0,b)):
 (0<=t/\t<=3)/\l.length<=65536/\(∀c∈l,zaf c t nu=true)/\fitsV t (encOf t e l)=true/\ ∃d,zdz t (encOf t e l) (zb1 l)=some d/\b=(encOf t e l).toNat::(vp l.length++((if nu=true then zb4 l else [])++d)):=by
 unfold pgE at h;split at h
 ·injection h with h _
  omega
 ·rename_i h1
  split at h
  ·injection h with h _
   omega
  ·rename_i h2
   split at h
   ·rename_i h3
    rw[List.all_eq_true] at h3;have ht:0<=t/\t<=3:=by
     by_cases q:0<=t/\t<=3
     ·exact q
     ·exact absurd (.inl q) h1
    split at h
    ·rename_i d hd
     injection h with _ h;refine⟨ht,by omega,h3,?_,d,hd,h.symm⟩;unfold encOf;split
     ·exact(zuz (z61 ht (by omega) h3)).1
     ·rename_i he
      cases hf:fitsV t e with
      |true=>rfl
      |false=>exact absurd (.inr ⟨he,hf⟩) h1
    ·injection h with h _
     omega
   ·injection h with h _
    omega
theorem qbx{t:Int}{nu:Bool}{e:Int}{l:List zab}{b:List Nat}(h:pgE t nu e l=(0,b)):pgE t nu (encOf t e l) l=(0,b):=by
 obtain⟨ht,hl,hr,hf,d,hd,hb⟩:=zik h;have hne:encOf t e l≠ -1:=by have:=(zf4 hf).1;omega
 have e2:encOf t (encOf t e l) l=encOf t e l:=by show(if encOf t e l= -1 then _ else _)=_;rw[if_neg hne]
 rw[pgE,if_neg (by rintro(q|⟨_,q⟩);exact q ht;rw[hf] at q;cases q),if_neg (by omega),if_pos (List.all_eq_true.2 hr),e2,hd,hb]
structure IsPg(t:Int)(nu:Bool)(b:List Nat)(o:Option (List zab)):Prop where
 sound:∀l,o=some l->(∃e,fitsV t e=true/\pgE t nu e l=(0,b))/\ ∀c∈l,zai c
 compl:∀l,(∀c∈l,zai c)->(∃e,fitsV t e=true/\pgE t nu e l=(0,b))->o=some l
theorem IsPg.uniq{t:Int}{nu:Bool}{b:List Nat}{o p:Option (List zab)}(h:IsPg t nu b o)(k:IsPg t nu b p):o=p:=by
 cases o with
 |some l=>obtain⟨a,c⟩:=h.sound l rfl;exact(k.compl l c a).symm
 |none=>
  cases p with
  |none=>rfl
  |some l=>obtain⟨a,c⟩:=k.sound l rfl;exact h.compl l c a
theorem zkq{l:List zab}(h:∀c∈l,zai c):∀c∈zb1 l,zai c:=fun c hc=>h c (by unfold zb1 at hc;exact(List.mem_filter.1 hc).1)
theorem z62:zai nullC:=⟨⟨by simp[nullC],by simp[nullC]⟩,by simp[nullC]⟩
theorem zon(S:St):zbf S=(0,none)\/ ∃y r,S=some (y::r)/\zbf S=(y,some r):=by
 unfold zbf;split
 ·rename_i y r
  exact .inr ⟨y,r,rfl,rfl⟩
 ·exact .inl rfl
def qgr(t:Int)(e:Nat)(S:St)(ov:Option (List zab)):Option (List zab):=if S=none\/fitsV t (e:Int)=false then none else ov
theorem zkr{t:Int}{b x:List Nat}{e n:Nat}{S1 S2:St}{ov:Option (List zab)}(h8:∀x∈b,x<256)
 (k1:zbf (some b)=(e,S1))(k2:lenS 65536 S1=(n,S2))(k3:S2.getD []=x)(hv:fitsV t (e:Int)=true->IsVal t (e:Int) x (n:Int) ov):IsPg t false b (qgr t e S2 ov):=by
 constructor
 ·intro l hl
  unfold qgr at hl;split at hl
  ·cases hl
  ·rename_i hc
   have hf:fitsV t (e:Int)=true:=by
    cases q:fitsV t (e:Int) with
    |true=>rfl
    |false=>exact absurd (.inr q) hc
   have hS:S2≠none:=fun q=>hc (.inl q)
   obtain⟨v1,v2,v3⟩:=(hv hf).sound l hl;obtain⟨⟨t0,t1,hl6⟩,hr⟩:=plOk_iff.1 (zok v2);have hne:(e:Int)≠ -1:=by omega
   refine⟨⟨(e:Int),hf,?_⟩,v3⟩;have e2:encOf t (e:Int) l=(e:Int):=by unfold encOf;rw[if_neg hne]
   rw[pgE,if_neg (by rintro(q|⟨_,q⟩);exact q ⟨t0,t1⟩;rw[hf] at q;cases q),if_neg (by omega),if_pos (List.all_eq_true.2 hr),e2,z0b hr,v2];dsimp only;rw[if_neg (by simp),List.nil_append,Int.toNat_natCast];congr 1
   rcases zon (some b) with q|⟨y,r,q1,q⟩
   ·rw[q] at k1
    injection k1 with _ k1;subst k1;rw[zgy] at k2;injection k2 with _ k2;exact absurd k2.symm hS
   ·rw[q] at k1
    injection k1 with k1 k1';subst k1 k1';injection q1 with q1;rcases zbp 65536 (some r) (St.ok_some fun z hz=>h8 z (by rw[q1];simp[hz])) with p|⟨N,r1,e1,p1,_,p⟩
    ·rw[p] at k2
     injection k2 with _ k2;exact absurd k2.symm hS
    ·rw[p] at k2
     injection k2 with k2 k2';subst k2 k2';injection e1 with e1;simp only[Option.getD_some] at k3;rw[q1,e1,k3,show l.length=N by omega]
 ·rintro l hd ⟨e',hf,hB⟩
  obtain⟨ht,hl6,hr,-,d,hd2,hb⟩:=zik hB;have hne:e'≠ -1:=by have:=(zf4 hf).1;omega
  have e2:encOf t e' l=e':=by unfold encOf;rw[if_neg hne]
  have hev:=z0b hr;rw[e2,hev] at hd2;rw[e2,if_neg (by simp),List.nil_append] at hb;rw[hb] at k1;simp only[zbf] at k1;injection k1 with k1 k1';subst k1 k1';rw[zby _ _ (by omega) (by omega)] at k2;injection k2 with k2 k2';subst k2 k2';simp only[Option.getD_some] at k3;subst k3;have h0:=(zf4 hf).1;have ee:((e'.toNat:Nat):Int)=e':=by omega
  unfold qgr;rw[ee] at hv⊢;rw[if_neg (by rintro(q|q);cases q;rw[hf] at q;cases q)];exact(hv hf).compl l hd rfl hd2
def qgs(t:Int)(e:Nat)(S:St)(U:Option (List Nat))(ov:Option (List zab)):Option (List zab):=if S=none\/fitsV t (e:Int)=false then none else match ov with|none=>none|some r=>zom U r
theorem z0c{t:Int}{b bits x:List Nat}{e n:Nat}{S1 S2 S3:St}{ov:Option (List zab)}(h8:∀x∈b,x<256)
 (k1:zbf (some b)=(e,S1))(k2:lenS 65536 S1=(n,S2))(k4:zbr (((n+7)/8:Nat):Int) S2=(bits,S3))(k3:S3.getD []=x)(hv:fitsV t (e:Int)=true->IsVal t (e:Int) x (zp1 (zbh bits 1 (n:Int))) ov):IsPg t true b (qgs t e S3 (zbh bits 1 (n:Int)) ov):=by
 constructor
 ·intro l hl
  unfold qgs at hl;split at hl
  ·cases hl
  ·rename_i hc
   have hf:fitsV t (e:Int)=true:=by
    cases q:fitsV t (e:Int) with
    |true=>rfl
    |false=>exact absurd (.inr q) hc
   have hS:S3≠none:=fun q=>hc (.inl q)
   cases ov with
   |none=>cases hl
   |some r=>
    dsimp only at hl;obtain⟨v1,v2,v3⟩:=(hv hf).sound r rfl;obtain⟨⟨t0,t1,hl6⟩,hr⟩:=plOk_iff.1 (zok v2);cases hU:zbh bits 1 (n:Int) with
    |none=>rw[hU] at hl;cases hl
    |some m=>
     rw[hU] at hl;unfold zom at hl;dsimp only at hl;split at hl
     ·rename_i hsum
      have hbits8:∀z∈bits,z<256:=by
       intro z hz;rcases zcd (((n+7)/8:Nat):Int) S2 with p|⟨l2,p1,_,_,p⟩
       ·rw[p] at k4
        injection k4 with k4 _;rw[<-k4] at hz;cases hz
       ·rw[p] at k4
        injection k4 with k4 _;rw[<-k4] at hz;have hz:=List.mem_of_mem_take hz;have hok2:St.ok S2:=by
         have:=zba (m:=65536) (S:=S1) (by have:=zt4 (S:=some b) (St.ok_some h8);rw[k1] at this;exact this)
         rw[k2] at this;exact this
        exact hok2 l2 p1 z hz
      obtain⟨u1,u2,u3,u4⟩:=zsz hbits8 hU;obtain⟨s1,s2,s3⟩:=zll m r l u3 hsum hl;have hz:l.map zu0=l:=by have:=zq5 l;rw[s1,s2,hl] at this;injection this with this;exact this.symm
      have hlen:l.length<=65536:=by omega
      have hbs:bits=zb4 l:=by have:=zq6 hlen;rw[s1,u1] at this;injection this
      have hrl:∀c∈l,zaf c t true=true:=by
       intro c hc;cases hn:c.1 with
       |true=>
        obtain⟨i,hi,rfl⟩:=List.getElem_of_mem hc;have h1:(l.map zu0)[i]'(by simpa using hi)=l[i]:=by simp only[hz]
        rw[List.getElem_map] at h1;unfold zu0 at h1;rw[hn] at h1;rw[<-h1];simp[zaf,nullC]
       |false=>
        refine zu2 true (hr c ?_);rw[<-s2];unfold zb1;rw[List.mem_filter];exact⟨hc,by simp[hn]⟩
      have hdl:∀c∈l,zai c:=by
       intro c hc;cases hn:c.1 with
       |true=>
        rw[(zq8 (hrl c hc) hn).1];exact z62
       |false=>
        refine v3 c ?_;rw[<-s2];unfold zb1;rw[List.mem_filter];exact⟨hc,by simp[hn]⟩
      refine⟨⟨(e:Int),hf,?_⟩,hdl⟩;have hne:(e:Int)≠ -1:=by omega
      have e2:encOf t (e:Int) l=(e:Int):=by unfold encOf;rw[if_neg hne]
      rw[pgE,if_neg (by rintro(q|⟨_,q⟩);exact q ⟨t0,t1⟩;rw[hf] at q;cases q),if_neg (by omega),if_pos (List.all_eq_true.2 hrl),e2,s2,v2];dsimp only;rw[if_pos rfl,Int.toNat_natCast];congr 1
      rcases zon (some b) with q|⟨y,rr,q1,q⟩
      ·rw[q] at k1
       injection k1 with _ k1;subst k1;rw[zgy] at k2;injection k2 with _ k2;subst k2;rw[zdx] at k4;injection k4 with _ k4;exact absurd k4.symm hS
      ·rw[q] at k1
       injection k1 with k1 k1';subst k1 k1';injection q1 with q1;rcases zbp 65536 (some rr) (St.ok_some fun z hz=>h8 z (by rw[q1];simp[hz])) with p|⟨N,r1,e1,p1,_,p⟩
       ·rw[p] at k2
        injection k2 with _ k2;subst k2;rw[zdx] at k4;injection k4 with _ k4;exact absurd k4.symm hS
       ·rw[p] at k2
        injection k2 with k2 k2';subst k2 k2';injection e1 with e1;rcases zcd (((N+7)/8:Nat):Int) (some r1) with p2|⟨l2,p3,_,p4,p2⟩
        ·rw[p2] at k4
         injection k4 with _ k4;exact absurd k4.symm hS
        ·rw[p2] at k4
         injection k4 with k4 k4';injection p3 with p3;subst p3;rw[<-k4'] at k3;simp only[Option.getD_some] at k3;rw[q1,e1,show l.length=N by omega,<-hbs,<-k4,<-k3];simp
     ·cases hl
 ·rintro l hd ⟨e',hf,hB⟩
  obtain⟨ht,hl6,hr,-,d,hd2,hb⟩:=zik hB;have hne:e'≠ -1:=by have:=(zf4 hf).1;omega
  have e2:encOf t e' l=e':=by unfold encOf;rw[if_neg hne]
  rw[e2] at hd2;rw[e2,if_pos rfl] at hb;rw[hb] at k1;simp only[zbf] at k1;injection k1 with k1 k1';subst k1 k1';rw[zby _ _ (by omega) (by omega)] at k2;injection k2 with k2 k2';subst k2 k2';have hsl:(zb4 l).length=(l.length+7)/8:=by unfold zb4;rw[zbk,zfa,Nat.one_mul]
  have ht2:=zdh (zb4 l) d;rw[hsl] at ht2;rw[ht2] at k4;injection k4 with k4 k4';subst k4 k4';simp only[Option.getD_some] at k3;subst k3;rw[zu1 hl6] at hv⊢;have hcn:zp1 (some (zcg l))=((zb1 l).length:Int):=by unfold zp1;dsimp only;rw[z0a]
  rw[hcn] at hv;have h0:=(zf4 hf).1;have ee:((e'.toNat:Nat):Int)=e':=by omega
  unfold qgs;rw[ee] at hv⊢;rw[if_neg (by rintro(q|q);cases q;rw[hf] at q;cases q),(hv hf).compl (zb1 l) (zkq hd) rfl hd2];dsimp only;rw[joinO_eqP (z0a l),zq5,z2p hr]
where
 joinO_eqP {m:List Nat} {r:List zab} (h:m.sum=r.length):zom (some m) r=zf6 m r:=by rw[zom];simp[h]
theorem qfy{t:Int}{nu:Bool}{b:List Nat}(h: ¬(0<=t/\t<=3)):IsPg t nu b none:=
 ⟨fun l e=>(by cases e),fun l _ ⟨_,_,hB⟩=>absurd (zik hB).1 h⟩
open Go.RowKit Go.Hm
theorem zvw{A B:List zab}{z:Int}:(recs zan (A++zaz::B)).set (A.length*5+1) (.int .i64 z)=recs zan (A++zij z::B):=by have l:(recs zan A).length=A.length*5:=zat (sz:=5) (fun _=>rfl) A;rw[zas,zas,List.set_append_right _ _ (by omega),l,show A.length*5+1-A.length*5=1 by omega];congr 1
theorem z76{A B:List zab}{s:List Nat}:(recs zan (A++zaz::B)).set (A.length*5+2) (.string (zac s))=recs zan (A++zfv s::B):=by have l:(recs zan A).length=A.length*5:=zat (sz:=5) (fun _=>rfl) A;rw[zas,zas,List.set_append_right _ _ (by omega),l,show A.length*5+2-A.length*5=2 by omega];congr 1
def OptCX(o:Option (List zab))(w:World)(e:Ending)(w':World):Prop:=
 match o with
 |none=>(∃v,e= .returned (.tuple #[v,.bool false]))/\New w w'
 |some l=>∃A n c,e= .returned (.tuple #[.slice A n c,.bool true])/\w'.ownsRow w.heap.size 61 5 (.slice A n c) n (recs zan l)/\New w w'
theorem OptC.x{o:Option (List zab)}{w w':World}{e:Ending}(h:OptC o w e w'):OptCX o w e w':=by
 cases o with
 |none=>exact⟨⟨_,h.1⟩,h.2⟩
 |some l=>exact h
def z3b(t e:Int)(b:List Nat)(n:Int)(w:World)(en:Ending)(w':World):Prop:=∃o,IsVal t e b n o/\OptCX o w en w'
theorem z77{l:List Nat}{i:Nat}(h:i<l.length):l.getD i 0∈l:=by rw[List.getD_eq_getElem?_getD,List.getElem?_eq_getElem h];exact List.getElem_mem h
set_option maxRecDepth 100000 in
theorem zqb{w:World}{t:Int}{A:Option Addr}{c:Nat}{b:List Nat}{n:Int}(ht:t=0\/t=1)(h:Reads w w.heap.size 1 A b.length (za2 .u8 b))(h8:∀x∈b,x<256)(hb:b.length<=140737488355200):
 Calls Tryz.prog 185 #[.int .i64 t,.slice A b.length c,.int .i64 n] w (z3b t 2 b n w):=by
 have D:Hid (Calls Tryz.prog 208 #[.slice A b.length c,.int .i64 n] w (DecPost b n w)):=Hz (by
  by_cases hf:n<0\/65536<n
  ·exact zqt hf
  ·obtain⟨n,rfl⟩:=Int.eq_ofNat_of_zero_le (show 0<=n by omega)
   exact zqu h h8 hb (by omega))
 have IV:=Hz (fun o (q:IsDec b n o)=>zq1 ht q);have HD:Hid (∀m,IsDec b n (some m)->(m.length:Int)=n/\m.length<=65536/\ ∀x∈m,x<=18446744073709551615):=Hz (fun m q=>by obtain⟨q1,q2,q3,-⟩:=(q m).1 rfl;exact⟨q1,q2,q3⟩);clear h h8;go_enter Tryz.func185,Tryz.ntmps185
 go_wp2_with fail
 refine D.out.mono ?_;rintro e w1 ⟨o,hI,hO⟩;have HV:=Hz (IV.out o hI);clear D IV;cases o with
 |none=>
  obtain⟨rfl,b1⟩:=hO;go_wp2
  go_ret2
  exact⟨none,HV.out,⟨_,rfl⟩,b1⟩
 |some l=>
  obtain⟨hln,hl6,hw⟩:=HD.out l hI;obtain⟨A1,n1,c1,rfl,k1,b1⟩:=hO;obtain rfl:n1=l.length:=by have:=k1.len;rwa[zaa] at this
  have R1:=Hz k1.reads;have HW:=Hz hw;subst hln;clear k1 hI HD hw;have hz1:=b1.size
  go_wp2_with (refine zev qfi rfl (.tmp 21) (.tmp 21) rfl (W:=w) (B:=w.heap.size) l.length rfl rfl rfl rfl b1 hz1 (by omega) (by simp only[maxLen];omega) ?_
               intro w2 o2 g2 b2 hs2)
  rw[zg6] at o2;have b12:New w1 w2:=(Turns.of_none (T:=[]) g2).new (by simp);go_loopw [25] (fun i wr=>∃k:Nat,k<=l.length/\i= .int .i64 (k:Int)/\wr.ownsRow w1.heap.size 61 5 (.slice (some ⟨w1.heap.size,0,none⟩) l.length l.length) l.length (recs zan ((l.take k).map (fun x=>zij (zag x))++List.replicate (l.length-k) zaz))/\New w1 wr) (fun i _=>l.length-(intOf i).toNat)
  case atStart=>exact⟨0,Nat.zero_le _,rfl,by simpa using o2,b12⟩
  case round=>
   obtain⟨k,hk,rfl,o,hb⟩:=hrel;clear o2 g2 b2 b12 hs2;by_cases hlt:k<l.length
   ·obtain⟨ax,rfl,hbx,qx⟩:=(Reads.later R1.out hb).num (i:=k) hlt
    have htk:=zae l k 0 hlt;have hx8:=HW.out _ (z77 hlt);generalize l.getD k 0=x at*;have ZG:=Hz (fun W=>znv x W (by omega));obtain⟨ad,ea,_,p0,p1,p2,p3,p4⟩:=(Reads.of_own o).cell5 (i:=k) hlt;injection ea with ea;subst ea;obtain⟨cs,BR⟩:=zie o;have f1:=BR.frozen (k*5+1);have ead:(⟨w1.heap.size,0,none⟩:Addr).add (k*5)=⟨w1.heap.size,k*5,none⟩:=by unfold Addr.add;split<;> simp_all
    rw[ead] at p1;dsimp only at p1;have hA:((l.take k).map (fun x=>zij (zag x))).length=k:=by rw[List.length_map,List.length_take];omega
    obtain⟨o',-⟩:=World.ownsRow.stored o (k*5+1) (.int .i64 (zag x));have ers:=zvw (A:=(l.take k).map (fun x=>zij (zag x))) (B:=List.replicate (l.length-(k+1)) zaz) (z:=zag x);rw[hA] at ers;rw[show l.length-k=(l.length-(k+1))+1 by omega,List.replicate_succ,ers] at o';have o':(wr.setCell ⟨w1.heap.size,k*5+1,none⟩ (.int .i64 (zag x))).ownsRow w1.heap.size 61 5 (.slice (some ⟨w1.heap.size,0,none⟩) l.length l.length) l.length (recs zan ((l.take (k+1)).map (fun x=>zij (zag x))++List.replicate (l.length-(k+1)) zaz)):=by rw[htk,List.map_append,List.append_assoc];exact o'
    have O':=Hz o';have HB:=Hz (hb.setCell (p:=⟨w1.heap.size,k*5+1,none⟩) (Nat.le_refl _) (.int .i64 (zag x)));clear o' ers o htk hA BR;go_wp2_with fail
    refine(ZG.out _).mono ?_;rintro e w5 ⟨rfl,rfl⟩;go_wp2_with fail
    go_roundw
    case rel=>exact⟨k+1,by omega,by go_num,O'.out,HB.out⟩
    case measure=>simp[intOf];omega
   ·obtain rfl:k=l.length:=by omega
    rw[Nat.sub_self,List.replicate_zero,List.append_nil,List.take_length] at o;have b00:=New.trans b1 hb;have hcz:l.map (fun x=>zij (zag x))=zh3 l:=rfl;rw[hcz] at o;have HCD:Hid (∀c∈zh3 l,zai c):=Hz (fun c hc=>by obtain⟨x,hx,rfl⟩:=List.mem_map.1 hc;exact⟨⟨by simp[zij],by simp[zij]⟩,zy6 (by have:=HW.out x hx;omega)⟩)
    have RI:=Hz (zhb (t:=t) (c:=l.length) (Reads.of_own o) HCD.out (by omega));have hpo:zh5 t (zh3 l)=(zh3 l).all fun c=>zaf c t false:=by
     unfold zh5;have h3:(zh3 l).length=l.length:=by unfold zh3;rw[List.length_map]
     rw[h3,decide_eq_true (by omega),Bool.true_and]
    rw[hpo] at RI;have hV:=HV.out;unfold qie at hV;dsimp only at hV;have HV2:=Hz hV;generalize(zh3 l).all (fun c=>zaf c t false)=rb at*;clear hV HV hcz hpo HCD;go_wp2_with fail
    refine RI.out.mono ?_;rintro e w7 ⟨rfl,b7⟩;have o7:=zav o b7;cases rb with
    |false=>
     go_wp2_with fail
     go_ret2
     exact⟨none,HV2.out,⟨_,rfl⟩,New.trans b00 b7⟩
    |true=>
     go_wp2_with fail
     go_ret2
     exact⟨some (zh3 l),HV2.out,_,_,_,rfl,zbg o7 hz1,New.trans b00 b7⟩
set_option maxRecDepth 100000 in
theorem zqc{w:World}{A:Option Addr}{c:Nat}{b:List Nat}{n:Int}(h:Reads w w.heap.size 1 A b.length (za2 .u8 b))(h8:∀x∈b,x<256)(hb:b.length<=140737488355200):
 Calls Tryz.prog 187 #[.int .i64 0,.slice A b.length c,.int .i64 n] w (z3b 0 3 b n w):=by
 have D:=Hz (zit (c:=c) (n:=n) h h8 hb);have IV:=Hz (fun o (q:IsDel b n o)=>zq2 q);have HD:Hid (∀m,IsDel b n (some m)->(m.length:Int)=n/\m.length<=65536):=Hz (fun m q=>by obtain⟨q1,q2,-⟩:=q.sound m rfl;exact⟨q1,zho q2⟩);clear h h8;go_enter Tryz.func187,Tryz.ntmps187
 go_wp2_with fail
 refine D.out.mono ?_;rintro e w1 ⟨o,hI,hO⟩;have HV:=Hz (IV.out o hI);clear D IV;cases o with
 |none=>
  obtain⟨rfl,b1⟩:=hO;go_wp2
  go_ret2
  exact⟨none,HV.out,⟨_,rfl⟩,b1⟩
 |some l=>
  obtain⟨hln,hl6⟩:=HD.out l hI;obtain⟨A1,n1,c1,rfl,k1,b1⟩:=hO;obtain rfl:n1=l.length:=by have:=k1.len;rwa[zcy] at this
  have R1:=Hz k1.reads;subst hln;clear k1 hI HD;have hz1:=b1.size
  go_wp2_with (refine zev qfi rfl (.tmp 28) (.tmp 28) rfl (W:=w) (B:=w.heap.size) l.length rfl rfl rfl rfl b1 hz1 (by omega) (by simp only[maxLen];omega) ?_
               intro w2 o2 g2 b2 hs2)
  rw[zg6] at o2;have b12:New w1 w2:=(Turns.of_none (T:=[]) g2).new (by simp);go_loopw [32] (fun i wr=>∃k:Nat,k<=l.length/\i= .int .i64 (k:Int)/\wr.ownsRow w1.heap.size 61 5 (.slice (some ⟨w1.heap.size,0,none⟩) l.length l.length) l.length (recs zan ((l.take k).map zij++List.replicate (l.length-k) zaz))/\New w1 wr) (fun i _=>l.length-(intOf i).toNat)
  case atStart=>exact⟨0,Nat.zero_le _,rfl,by simpa using o2,b12⟩
  case round=>
   obtain⟨k,hk,rfl,o,hb⟩:=hrel;clear o2 g2 b2 b12 hs2;by_cases hlt:k<l.length
   ·obtain⟨ax,rfl,hbx,qx⟩:=(Reads.later R1.out hb).int (i:=k) hlt
    have htk:=zae l k 0 hlt;generalize l.getD k 0=x at*;obtain⟨ad,ea,_,p0,p1,p2,p3,p4⟩:=(Reads.of_own o).cell5 (i:=k) hlt;injection ea with ea;subst ea;obtain⟨cs,BR⟩:=zie o;have f1:=BR.frozen (k*5+1);have ead:(⟨w1.heap.size,0,none⟩:Addr).add (k*5)=⟨w1.heap.size,k*5,none⟩:=by unfold Addr.add;split<;> simp_all
    rw[ead] at p1;dsimp only at p1;have hA:((l.take k).map zij).length=k:=by rw[List.length_map,List.length_take];omega
    obtain⟨o',-⟩:=World.ownsRow.stored o (k*5+1) (.int .i64 x);have ers:=zvw (A:=(l.take k).map zij) (B:=List.replicate (l.length-(k+1)) zaz) (z:=x);rw[hA] at ers;rw[show l.length-k=(l.length-(k+1))+1 by omega,List.replicate_succ,ers] at o';have o':(wr.setCell ⟨w1.heap.size,k*5+1,none⟩ (.int .i64 x)).ownsRow w1.heap.size 61 5 (.slice (some ⟨w1.heap.size,0,none⟩) l.length l.length) l.length (recs zan ((l.take (k+1)).map zij++List.replicate (l.length-(k+1)) zaz)):=by rw[htk,List.map_append,List.append_assoc];exact o'
    have O':=Hz o';have HB:=Hz (hb.setCell (p:=⟨w1.heap.size,k*5+1,none⟩) (Nat.le_refl _) (.int .i64 x));clear o' ers o htk hA BR;go_wp2_with fail
    go_roundw
    case rel=>exact⟨k+1,by omega,by go_num,O'.out,HB.out⟩
    case measure=>simp[intOf];omega
   ·obtain rfl:k=l.length:=by omega
    rw[Nat.sub_self,List.replicate_zero,List.append_nil,List.take_length] at o;have b00:=New.trans b1 hb;go_wp2_with fail
    go_ret2
    exact⟨some (l.map zij),HV.out,_,_,_,rfl,zbg o hz1,b00⟩
set_option maxRecDepth 100000 in
theorem zpf{w:World}{A:Option Addr}{c:Nat}{b:List Nat}{n:Int}(h:Reads w w.heap.size 1 A b.length (za2 .u8 b))(h8:∀x∈b,x<256)(hb:b.length<=140737488355200)(hn:ze5 n):
 Calls Tryz.prog 189 #[.int .i64 2,.slice A b.length c,.int .i64 n] w (z3b 2 4 b n w):=by
 have D:=Hz (qcn (c:=c) (m:=n) h h8 (by omega) hn.1 hn.2);have IV:=Hz (zq3 (n:=n) h8);have HD:Hid (∀m,zts b n=some m->(m.length:Int)=n/\m.length<=65536):=Hz (fun m q=>by have h3:=qdx (n:=n) h8;rw[q] at h3;exact⟨((zm1 h8).1 q).1,h3.2.1⟩)
 clear h h8;generalize zts b n=o at*;go_enter Tryz.func189,Tryz.ntmps189
 go_wp2_with fail
 refine D.out.mono ?_;intro e w1 hO;clear D;cases o with
 |none=>
  obtain⟨rfl,b1⟩:=hO;go_wp2
  go_ret2
  exact⟨none,IV.out,⟨_,rfl⟩,b1⟩
 |some l=>
  obtain⟨hln,hl6⟩:=HD.out l rfl;obtain⟨A1,n1,c1,rfl,k1,b1⟩:=hO;obtain rfl:n1=l.length:=by have:=k1.len;rwa[zet] at this
  have R1:=Hz k1.reads;subst hln;clear k1 HD;have hz1:=b1.size
  go_wp2_with (refine zev qfi rfl (.tmp 21) (.tmp 21) rfl (W:=w) (B:=w.heap.size) l.length rfl rfl rfl rfl b1 hz1 (by omega) (by simp only[maxLen];omega) ?_
               intro w2 o2 g2 b2 hs2)
  rw[zg6] at o2;have b12:New w1 w2:=(Turns.of_none (T:=[]) g2).new (by simp);go_loopw [25] (fun i wr=>∃k:Nat,k<=l.length/\i= .int .i64 (k:Int)/\wr.ownsRow w1.heap.size 61 5 (.slice (some ⟨w1.heap.size,0,none⟩) l.length l.length) l.length (recs zan ((l.take k).map zfv++List.replicate (l.length-k) zaz))/\New w1 wr) (fun i _=>l.length-(intOf i).toNat)
  case atStart=>exact⟨0,Nat.zero_le _,rfl,by simpa using o2,b12⟩
  case round=>
   obtain⟨k,hk,rfl,o,hb⟩:=hrel;clear o2 g2 b2 b12 hs2;by_cases hlt:k<l.length
   ·obtain⟨ax,rfl,hbx,qx⟩:=(Reads.later R1.out hb).str (i:=k) hlt
    have htk:=zae l k [] hlt;generalize l.getD k []=x at*;obtain⟨ad,ea,_,p0,p1,p2,p3,p4⟩:=(Reads.of_own o).cell5 (i:=k) hlt;injection ea with ea;subst ea;obtain⟨cs,BR⟩:=zie o;have f1:=BR.frozen (k*5+2);have ead:(⟨w1.heap.size,0,none⟩:Addr).add (k*5)=⟨w1.heap.size,k*5,none⟩:=by unfold Addr.add;split<;> simp_all
    rw[ead] at p2;dsimp only at p2;have hA:((l.take k).map zfv).length=k:=by rw[List.length_map,List.length_take];omega
    obtain⟨o',-⟩:=World.ownsRow.stored o (k*5+2) (.string (zac x));have ers:=z76 (A:=(l.take k).map zfv) (B:=List.replicate (l.length-(k+1)) zaz) (s:=x);rw[hA] at ers;rw[show l.length-k=(l.length-(k+1))+1 by omega,List.replicate_succ,ers] at o';have o':(wr.setCell ⟨w1.heap.size,k*5+2,none⟩ (.string (zac x))).ownsRow w1.heap.size 61 5 (.slice (some ⟨w1.heap.size,0,none⟩) l.length l.length) l.length (recs zan ((l.take (k+1)).map zfv++List.replicate (l.length-(k+1)) zaz)):=by rw[htk,List.map_append,List.append_assoc];exact o'
    have O':=Hz o';have HB:=Hz (hb.setCell (p:=⟨w1.heap.size,k*5+2,none⟩) (Nat.le_refl _) (.string (zac x)));clear o' ers o htk hA BR;go_wp2_with fail
    go_roundw
    case rel=>exact⟨k+1,by omega,by go_num,O'.out,HB.out⟩
    case measure=>simp[intOf];omega
   ·obtain rfl:k=l.length:=by omega
    rw[Nat.sub_self,List.replicate_zero,List.append_nil,List.take_length] at o;have b00:=New.trans b1 hb;go_wp2_with fail
    go_ret2
    exact⟨some (l.map zfv),IV.out,_,_,_,rfl,zbg o hz1,b00⟩
end Go.Proofs.Y
